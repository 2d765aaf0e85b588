/-
  A range over an iterator of the program; slices.Chunk.
-/
import Derived.Test.YtgfkbkonelphaaaGreatDoorWords
import Derived.RangeFuncNested
import Derived.RangeFuncBound
import Derived.RangeFuncCalls
import Derived.RangeFuncLeaves
import Derived.RangeFuncBox
import Derived.OwnWalkIn
import Derived.OrdersIn
import Derived.Orders
import Derived.Maps.AppendAt
import Derived.Test.YtgfkbkonelphaaaGreatDoorSlKA
import Derived.Shelf.Abstract
import Derived.Shelf.RegionOpen
import Derived.WalkKit
import Derived.TacticsInMore
import Derived.LoopNIn
import Derived.LoopIn

/-
  A range over an iterator that has memory of its own: the iterator's contract names the list that comes, the blocks that it reads (Rd) and, as it goes, those that it owns (O); the body leaves both alone. The law of the statement over such a contract; a scope with one label, walked in the wide fence. Nothing of a program is named here.
-/
namespace Go.Proofs.YtgfkbkonelphaaaGreatDoor
open Go.RowKit

theorem Kp.putObj {S : Nat → Prop} {a w : World} (h : Kp S a w) {r : Nat} (hr : S r ∨ a.heap.size ≤ r) (o : Obj) : Kp S a (w.putObj r o) :=
  ⟨h.os, h.tape, h.output, by simpa using h.size, fun k hk hn => (World.putObj_heap_other (by
    rintro rfl
    rcases hr with hr | hr
    · exact hn hr
    · omega)).trans (h.block k hk hn)⟩
theorem Kp.put1 (r : Nat) (w : World) (o : Obj) : Kp (Only r) w (w.putObj r o) := (Kp.refl (Only r) w).putObj (r := r) (.inl rfl) o

/-- What is neither owned by the iterator nor read by it. -/
def Out (O Rd : Nat → Prop) : Nat → Prop := fun k => ¬ O k ∧ ¬ Rd k
def Nox (O : Nat → Prop) : Nat → Prop := fun k => ¬ O k

/-- What is said abides the iterator's steps: it turns what it owns, and owns what is new. -/
def AbO {β : Type} (J : (Nat → Prop) → β → World → Prop) : Prop :=
  ∀ O O' s W W', J O s W → Kp O W W' → (∀ k, O' k → O k ∨ (W.heap.size ≤ k ∧ k < W'.heap.size)) → J O' s W'

def SeqO {α : Type} (P : Program) (g : Nat) (lb : Array Value) (encs : α → Array Value) (Rd : Nat → Prop) (xs : List α) (w : World) : Prop :=
  ∀ (l : Nat) (J Jx : (Nat → Prop) → List α → World → Prop) (W : World), Kp (Nox Rd) w W → AbO J → AbO Jx →
    (∀ O pre x rest W1, xs = pre ++ x :: rest → J O pre W1 → YieldAt Fence.wide 0 P l (encs x) W1 fun e W' =>
      (e = .returned (.bool true) ∧ J O (pre ++ [x]) W' ∧ Kp (Out O Rd) W1 W') ∨ (e = .returned (.bool false) ∧ Jx O (pre ++ [x]) W' ∧ Kp (Nox O) W1 W')) →
    J No [] W →
    Calls P g (#[.func (.yield l) #[] #[]] ++ lb) W fun e W' => (∃ v, e = .returned v) ∧ ((∃ O, J O xs W') ∨ (∃ O pre rest, xs = pre ++ rest ∧ Jx O pre W'))

/-- How the body of a round may be left. -/
def bodyO {α : Type} (O Rd : Nat → Prop) (I : (Nat → Prop) → List α → World → Prop) (Ix : Code → (Nat → Prop) → List α → World → Prop) (xs : List α) (W : World) : Exit → Act → World → Prop
  | .normal, _, W' => Kp (Out O Rd) W W' ∧ I O xs W'
  | .ret, _, W' => Kp (Nox O) W W' ∧ Ix .ret O xs W'
  | .exit id, _, W' => Kp (Nox O) W W' ∧ Ix (.exit id) O xs W'
  | .goto t, _, W' => Kp (Nox O) W W' ∧ Ix (.goto t) O xs W'
  | .panic _, _, _ => False
  | .outgrown, _, _ => False

theorem room_w (k : Nat) : Fence.wide.room k := fun _ h => by cases h
theorem RoundIn.any {m m' : Nat} {P : Program} {l : Nat} {f : FuncId} {tmps : Array Value} {assign body : Code} {w : World} {R : Ending → World → Prop}
    (h : RoundIn Fence.wide m P l f tmps assign body w R) : RoundIn Fence.wide m' P l f tmps assign body w R := ⟨h.1, fun c cs _ => h.2 c cs (room_w _)⟩
theorem RoundIn.inR {m m' : Nat} {P : Program} {l l' : Nat} {f : FuncId} {tmps : Array Value} {assign body : Code} {w : World} {R : Ending → World → Prop}
    (h : RoundIn Fence.wide m P l f tmps assign body w R) : RoundIn (Fence.wide.inRound l') m' P l f tmps assign body w R := ⟨h.1, fun c cs _ => h.2 c cs (room_w _)⟩

section
variable {P : Program} {n : Nat} {w : World}

theorem range_own {α : Type} {g : Operand} {ps : Array Tmp} {assign body : Code} {Q : Exit → Act → World → Prop} {a : Act}
    {gf : Nat} {lb : Array Value} (hg : a.eval g = .func (.func gf) #[] lb) (eg : ∀ args w, (callFunc gf args).run P w = .ok (.enter gf args) w)
    {encs : α → Array Value} {Rd : Nat → Prop} {xs : List α} (hseq : SeqO P gf lb encs Rd xs w) (hRd : ∀ k, Rd k → k < w.heap.size) (hps : ∀ x, (encs x).size = ps.size)
    (I : (Nat → Prop) → List α → World → Prop) (Ix : Code → (Nat → Prop) → List α → World → Prop) (hI : AbO I) (hIx : ∀ c, AbO (Ix c)) (h0 : I No [] w)
    (hround : ∀ (l : Nat) (O : Nat → Prop) (pre : List α) (x : α) (rest : List α) (W : World), xs = pre ++ x :: rest → O l → w.heap.size ≤ l → l < W.heap.size → I O pre W →
      assign.wpIn (Fence.wide.inRound l) (n - 1 - 1) P (Exit.then (fun a' W' => Kp (Out O Rd) W W' ∧ ∀ W2, Kp (Only l) W' W2 → body.wpIn (Fence.wide.inRound l) (n - 1 - 1) P (bodyO O Rd I Ix (pre ++ [x]) W2) a' W2) (fun _ _ _ => False))
        { tmps := (ps.zip (encs x)).foldl (fun t (p, v) => t.setIfInBounds p v) a.tmps, defers := [] } W)
    (hdone : ∀ (D : Nat) (O : Nat → Prop) (W : World), w.heap.size ≤ D → O D → I O xs W → W.heap[D]? = some (.deferred (some [])) → Q .normal { a with defers := { target := .collected D, args := #[] } :: a.defers } W)
    (hstop : ∀ (D : Nat) (O : Nat → Prop) (c : Code) (pre rest : List α) (W : World), w.heap.size ≤ D → O D → xs = pre ++ rest → Ix c O pre W → W.heap[D]? = some (.deferred (some [])) → c.wpIn Fence.wide n P Q { a with defers := { target := .collected D, args := #[] } :: a.defers } W) :
    (Code.rangeFunc g ps assign body).wpIn Fence.wide n P Q a w := by
  refine wpIn_rangeFunc ?_
  intro fn hfn
  obtain ⟨rec, hrec⟩ : ∃ rec : LoopState → Option Code → Loop, rec = fun st pe => { state := st, pending := pe, fn, tmps := a.tmps, params := ps, assign, body, defers := w.heap.size } := ⟨_, rfl⟩
  obtain ⟨W1, hW1⟩ : ∃ W1, (w.alloc (.deferred (some []))).alloc (.loop (rec .ready none)) = W1 := ⟨_, rfl⟩
  have hsz : W1.heap.size = w.heap.size + 2 := by rw [← hW1]; simp
  have hL1 : W1.heap[w.heap.size + 1]? = some (.loop (rec .ready none)) := by
    rw [← hW1]
    have := World.alloc_heap_new (w.alloc (.deferred (some []))) (.loop (rec .ready none))
    rwa [World.size_alloc] at this
  have hD1 : W1.heap[w.heap.size]? = some (.deferred (some [])) := by
    rw [← hW1]
    exact (Below.heap_alloc _ _ _ (by simp)).trans (World.alloc_heap_new w _)
  have hk1 : Kp No w W1 := by
    rw [← hW1]
    exact ((Kp.refl No w).alloc _).alloc _
  refine ⟨w.heap.size + 1, [{ target := .collected w.heap.size, args := #[] }], W1, { target := .fn (.func gf) lb, args := #[.func (.yield (w.heap.size + 1)) #[] #[]] }, W1, gf,
    #[.func (.yield (w.heap.size + 1)) #[] #[]] ++ lb, W1, ?_, ?_, fun _ _ => trivial, ?_, (fun h => by cases h), callsIn_wide.2 ?_⟩
  · rw [← hW1, hrec]
    exact run_enterLoop_outer _ _ _ _ _
  · simp only [resolve, hg]
    simp [go_sem]
  · simp [invoke, go_sem, eg]
  · have ab : ∀ {β : Type} {K : (Nat → Prop) → β → World → Prop} (r : LoopState) (c : Option Code), AbO K →
        AbO (fun O (s : β) W => K (fun k => O k ∨ k = w.heap.size ∨ k = w.heap.size + 1) s W ∧ ¬ O w.heap.size ∧ ¬ O (w.heap.size + 1) ∧ W.heap[w.heap.size + 1]? = some (.loop (rec r c)) ∧ W.heap[w.heap.size]? = some (.deferred (some []))) := by
      rintro β K r c hK O O' s A B ⟨h1, h2, h3, h4, h5⟩ hk ho
      have l4 := (Array.getElem?_eq_some_iff.1 h4).1
      have l5 := (Array.getElem?_eq_some_iff.1 h5).1
      refine ⟨hK _ _ s A B h1 (hk.mono fun k _ h => .inl h) ?_, ?_, ?_, (hk.block _ l4 h3).trans h4, (hk.block _ l5 h2).trans h5⟩
      · rintro k (h | h)
        · rcases ho k h with h | h
          · exact .inl (.inl h)
          · exact .inr h
        · exact .inl (.inr h)
      · intro h
        rcases ho _ h with h | h
        · exact h2 h
        · omega
      · intro h
        rcases ho _ h with h | h
        · exact h3 h
        · omega
    refine (hseq (w.heap.size + 1)
      (fun O pre W => I (fun k => O k ∨ k = w.heap.size ∨ k = w.heap.size + 1) pre W ∧ ¬ O w.heap.size ∧ ¬ O (w.heap.size + 1) ∧ W.heap[w.heap.size + 1]? = some (.loop (rec .ready none)) ∧ W.heap[w.heap.size]? = some (.deferred (some [])))
      (fun O pre W => ∃ c, Ix c (fun k => O k ∨ k = w.heap.size ∨ k = w.heap.size + 1) pre W ∧ ¬ O w.heap.size ∧ ¬ O (w.heap.size + 1) ∧ W.heap[w.heap.size + 1]? = some (.loop (rec .done (some c))) ∧ W.heap[w.heap.size]? = some (.deferred (some [])))
      W1 hk1.all (ab _ _ hI) ?_ ?_ ?_).mono ?_
    · rintro O O' s A B ⟨c, hc⟩ hk ho
      exact ⟨c, ab _ _ (hIx c) O O' s A B hc hk ho⟩
    · -- one round
      rintro O pre x rest W hx ⟨hi, hO1, hO2, hl, hd⟩
      have hlt : w.heap.size + 1 < W.heap.size := (Array.getElem?_eq_some_iff.1 hl).1
      have hy := run_yield (P := P) (args := encs x) hl (by rw [hrec]; exact hps x)
      rw [hrec] at hy
      refine ⟨fn, _, assign, body, hy, roundIn_of_wpIn (n := 0) hfn ?_⟩
      clear hy
      have hr := hround (w.heap.size + 1) (fun k => O k ∨ k = w.heap.size ∨ k = w.heap.size + 1) pre x rest W hx (.inr (.inr rfl)) (by omega) hlt hi
      have dp : ∀ {c : Code} {Q : Exit → Act → World → Prop} {a : Act} {w : World} {m m' l : Nat}, c.wpIn (Fence.wide.inRound l) m P Q a w → c.wpIn (Fence.wide.inRound l) m' P Q a w := fun h b k cs h1 h2 _ => h b k cs h1 h2 (room_w _)
      refine wpIn_mono (dp hr) ?_
      rintro e a' Wa hp
      cases e with
      | normal =>
        obtain ⟨hka, hb⟩ := hp
        have hla := (hka.block _ hlt (fun h => h.1 (.inr (.inr rfl)))).trans hl
        have hda := (hka.block _ (by omega) (fun h => h.1 (.inr (.inl rfl)))).trans hd
        have hlta : w.heap.size + 1 < Wa.heap.size := (Array.getElem?_eq_some_iff.1 hla).1
        refine ⟨_, run_beginRound hla (by rw [hrec]), ?_⟩
        have hl2 : (Wa.putObj (w.heap.size + 1) (.loop { rec .ready none with state := .busy })).heap[w.heap.size + 1]? = some (.loop { rec .ready none with state := .busy }) := World.putObj_heap_same hlta
        have hd2 : (Wa.putObj (w.heap.size + 1) (.loop { rec .ready none with state := .busy })).heap[w.heap.size]? = some (.deferred (some [])) := (World.putObj_heap_other (by omega)).trans hda
        have hkb := Kp.put1 (w.heap.size + 1) Wa (.loop { rec .ready none with state := .busy })
        generalize Wa.putObj (w.heap.size + 1) (.loop { rec .ready none with state := .busy }) = Wb at hl2 hd2 hkb
        have hlb : w.heap.size + 1 < Wb.heap.size := (Array.getElem?_eq_some_iff.1 hl2).1
        refine wpIn_mono (dp (hb Wb hkb)) ?_
        have fin : ∀ (jump : Option Code) (W3 : World), Kp (Nox fun k => O k ∨ k = w.heap.size ∨ k = w.heap.size + 1) Wb W3 →
            (Instr.endRound (w.heap.size + 1) jump).run P W3 = .ok (.bool jump.isNone) (W3.putObj (w.heap.size + 1) (.loop (rec (if jump.isNone then .ready else .done) jump))) ∧
            (W3.putObj (w.heap.size + 1) (.loop (rec (if jump.isNone then .ready else .done) jump))).heap[w.heap.size + 1]? = some (.loop (rec (if jump.isNone then .ready else .done) jump)) ∧
            (W3.putObj (w.heap.size + 1) (.loop (rec (if jump.isNone then .ready else .done) jump))).heap[w.heap.size]? = some (.deferred (some [])) := fun jump W3 hk3 => by
          have hl3 := (hk3.block _ hlb (fun h => h (.inr (.inr rfl)))).trans hl2
          have hd3 := (hk3.block _ (by omega) (fun h => h (.inr (.inl rfl)))).trans hd2
          have := run_endRound (P := P) jump hl3
          rw [hrec] at this ⊢
          exact ⟨this, World.putObj_heap_same (Array.getElem?_eq_some_iff.1 hl3).1, (World.putObj_heap_other (by omega)).trans hd3⟩
        have sub : ∀ (W3 : World) (o : Obj), Kp (fun k => O k ∨ k = w.heap.size ∨ k = w.heap.size + 1) W3 (W3.putObj (w.heap.size + 1) o) := fun W3 o => (Kp.put1 _ W3 o).mono fun k _ h => .inr (.inr h)
        have leave : ∀ (W3 : World) (o : Obj), Kp (Nox fun k => O k ∨ k = w.heap.size ∨ k = w.heap.size + 1) Wb W3 → Kp (Nox O) W (W3.putObj (w.heap.size + 1) o) := fun W3 o hk3 => by
          have e3 : ∀ k, k < W.heap.size → Only (w.heap.size + 1) k → Nox O k := fun k _ h => by
            cases h
            exact hO2
          have e4 : ∀ k, k < W.heap.size → Nox (fun k => O k ∨ k = w.heap.size ∨ k = w.heap.size + 1) k → Nox O k := fun k _ h x => h (.inl x)
          exact (((hka.mono fun k _ h x => h.1 (.inl x)).step hkb e3).step hk3 e4).step (Kp.put1 _ W3 o) e3
        rintro e a3 W3 hp
        cases e with
        | normal =>
          obtain ⟨hk3, hi3⟩ := hp
          obtain ⟨h1, h2, h3⟩ := fin none W3 (hk3.mono fun _ _ h => h.1)
          refine ⟨_, _, h1, .inl ⟨rfl, ⟨hI _ _ _ _ _ hi3 (sub _ _) (fun _ h => .inl h), hO1, hO2, h2, h3⟩, ?_⟩⟩
          have e1 : ∀ k, k < W.heap.size → Out (fun k => O k ∨ k = w.heap.size ∨ k = w.heap.size + 1) Rd k → Out O Rd k := fun k _ h => ⟨fun x => h.1 (.inl x), h.2⟩
          have e2 : ∀ k, k < W.heap.size → Only (w.heap.size + 1) k → Out O Rd k := fun k _ h => by
            cases h
            exact ⟨hO2, fun x => by have := hRd _ x; omega⟩
          exact (((hka.mono e1).step hkb e2).step hk3 e1).step (Kp.put1 _ W3 _) e2
        | ret =>
          obtain ⟨hk3, hi3⟩ := hp
          obtain ⟨h1, h2, h3⟩ := fin (some .ret) W3 hk3
          exact ⟨_, _, h1, .inr ⟨rfl, ⟨_, hIx _ _ _ _ _ _ hi3 (sub _ _) (fun _ h => .inl h), hO1, hO2, h2, h3⟩, leave _ _ hk3⟩⟩
        | exit id =>
          obtain ⟨hk3, hi3⟩ := hp
          obtain ⟨h1, h2, h3⟩ := fin (some (.exit id)) W3 hk3
          exact ⟨_, _, h1, .inr ⟨rfl, ⟨_, hIx _ _ _ _ _ _ hi3 (sub _ _) (fun _ h => .inl h), hO1, hO2, h2, h3⟩, leave _ _ hk3⟩⟩
        | goto t =>
          obtain ⟨hk3, hi3⟩ := hp
          obtain ⟨h1, h2, h3⟩ := fin (some (.goto t)) W3 hk3
          exact ⟨_, _, h1, .inr ⟨rfl, ⟨_, hIx _ _ _ _ _ _ hi3 (sub _ _) (fun _ h => .inl h), hO1, hO2, h2, h3⟩, leave _ _ hk3⟩⟩
        | panic ch => exact hp.elim
        | outgrown => exact hp.elim
      | exit id => exact hp.elim
      | goto t => exact hp.elim
      | ret => exact hp.elim
      | panic ch => exact hp.elim
      | outgrown => exact hp.elim
    · refine ⟨hI _ _ _ _ _ h0 hk1 (fun k h => ?_), fun h => h, fun h => h, hL1, hD1⟩
      rcases h with h | h | h
      · exact h.elim
      · exact .inr (by omega)
      · exact .inr (by omega)
    · -- behind the iterator
      have sub : ∀ (O : Nat → Prop) (W3 : World) (o : Obj), Kp (fun k => O k ∨ k = w.heap.size ∨ k = w.heap.size + 1) W3 (W3.putObj (w.heap.size + 1) o) := fun O W3 o => (Kp.put1 _ W3 o).mono fun k _ h => .inr (.inr h)
      rintro e W2 ⟨⟨v, rfl⟩, (⟨O, hi, hO1, hO2, hl, hd⟩ | ⟨O, pre, rest, hx, c, hi, hO1, hO2, hl, hd⟩)⟩
      · refine ⟨none, W2.putObj (w.heap.size + 1) (.loop (rec .exhausted none)), ?_, hdone _ _ _ (Nat.le_refl _) (.inr (.inl rfl)) (hI _ _ _ _ _ hi (sub _ _ _) (fun _ h => .inl h)) ((World.putObj_heap_other (by omega)).trans hd)⟩
        have := run_endLoop (P := P) hl (by rw [hrec]; simp)
        rw [hrec] at this ⊢
        exact this
      · refine ⟨some c, W2.putObj (w.heap.size + 1) (.loop (rec .exhausted (some c))), ?_, hstop _ _ c pre rest _ (Nat.le_refl _) (.inr (.inl rfl)) hx (hIx c _ _ _ _ _ hi (sub _ _ _) (fun _ h => .inl h)) ((World.putObj_heap_other (by omega)).trans hd)⟩
        have := run_endLoop (P := P) hl (by rw [hrec]; simp)
        rw [hrec] at this ⊢
        exact this

/-- A scope whose label is come to from above, too, walked in the wide fence. -/
theorem wpIn_scope_pass {a : Act} {Q : Exit → Act → World → Prop} {c rest : Code} (l : Nat) (J : Act → World → Prop) (μ : Act → World → Nat) (hf : findLabel c l = some (Code.skip.seq rest))
    (pass : ∀ a w, J a w → rest.wpIn Fence.wide n P (Exit.jump l (fun a' w' => J a' w' ∧ μ a' w' < μ a w) Q) a w)
    (first : (∀ a w, J a w → rest.wpIn Fence.wide n P (Exit.jump l J Q) a w) → c.wpIn Fence.wide n P (Exit.jump l J Q) a w) : (Code.scope c).wpIn Fence.wide n P Q a w :=
  wpIn_wide.2 (wp_scope_pass l J μ hf (fun a w h => wpIn_wide.1 (pass a w h)) fun h => wpIn_wide.1 (first fun a w hJ => wpIn_wide.2 (h a w hJ)))
end
end Go.Proofs.YtgfkbkonelphaaaGreatDoor

/-
  A region that draws its order, in a round of a loop over an iterator: walked as outside of one, and the law of append as one step of it. Nothing of a program is named here.
-/
namespace Go.Proofs.YtgfkbkonelphaaaGreatDoor

theorem op_in {P : Program} {o : Oper} {a : Act} {w : World} {K : Act → World → Prop} {Q : Exit → Act → World → Prop} (l n : Nat) (hd : ∀ c, o.op ≠ .defer c) (h : o.wp P a w K Q) : o.wpIn (Fence.wide.inRound l) n P a w K Q := by
  refine ⟨fun _ _ => trivial, ?_⟩
  rw [Oper.semAt_plain _ _ _ hd]
  unfold Oper.wp at h
  generalize (execOp a.eval o).run P w = r at h ⊢
  cases r with
  | ok x w' =>
    cases x with
    | value v => exact h
    | skip => exact h
    | defer d => exact h
    | enter f args => exact ⟨fun hs => (by cases hs), CallsIn.inRound l (callsIn_wide.2 h)⟩
    | row row args => exact ⟨fun hs => (by cases hs), fun c cs _ => let ⟨v, w', r, s⟩ := h c cs; ⟨v, w', r, stepsIn_wide.2 s⟩⟩
    | round l f tmps assign body => exact h.elim
    | _ => exact h.elim
  | halt x w' => cases x <;> exact h

theorem any_in {P : Program} {md : Region.Mode} {ops : Array Oper} {Q : Exit → Act → World → Prop} (l n : Nat) (hd : ∀ (i : Nat) (o : Oper), ops[i]? = some o → ∀ c, o.op ≠ .defer c) (hL : ¬ LetsOut Q) :
    ∀ (fuel : Nat) (listed : Array Bool) (a : Act) (w : World), wpAny P md ops Q fuel listed a w → wpAnyIn (Fence.wide.inRound l) n P md ops Q fuel listed a w := by
  intro fuel
  induction fuel with
  | zero => exact fun _ _ _ h => h
  | succ fuel ih =>
    intro listed a w h
    refine ⟨h.1, fun i hi => ?_⟩
    have h2 := h.2 i hi
    unfold wpOp at h2
    unfold wpOpIn
    cases ho : ops[i]? with
    | none => rw [ho] at h2; exact ih _ _ _ h2
    | some o =>
      rw [ho] at h2
      dsimp only at h2 ⊢
      split at h2
      · rename_i hw
        rw [if_pos hw]
        rcases h2 with h2 | h2
        · exact Oper.wpIn_mono (fun a w h => ih _ a w h) (op_in l n (hd i o ho) h2)
        · exact absurd h2.2 hL
      · rename_i hw
        rw [if_neg hw]
        exact ⟨fun _ _ => trivial, ih _ _ _ h2⟩

def noDefer (ops : Array Oper) : Bool := ops.all fun o => match o.op with | .defer _ => false | _ => true
theorem noDefer_spec {ops : Array Oper} (h : noDefer ops = true) (i : Nat) (o : Oper) (ho : ops[i]? = some o) (c : Call) : o.op ≠ .defer c := by
  intro hc
  have := Array.all_eq_true'.1 h o (Array.mem_of_getElem? ho)
  rw [hc] at this
  cases this
theorem region_in {P : Program} {ops : Array Oper} {Q : Exit → Act → World → Prop} {l n id : Nat} {a : Act} {w : World} (hm : P.follows .mixedOrders = true) (hd : noDefer ops = true) (hL : ¬ LetsOut Q)
    (h : wpAny P .any ops Q ops.size (Array.replicate ops.size false) a w.drew) : (Code.region id ops true).wpIn (Fence.wide.inRound l) n P Q a w :=
  wpIn_region_any hm (any_in l n (noDefer_spec hd) hL _ _ _ _ h)

/-- append onto what the call owns, as one step of a region that draws. -/
theorem step_append {P : Program} (w : World) {ops : Array Oper} {o : Oper} {a : Act} {K : Act → World → Prop} {Q : Exit → Act → World → Prop} {E : Prop}
    (hg : o.guard = none) (s x : Operand) (t : TypeId) (hop : o.op = Op.call { callee := Callee.builtin Builtin.append, args := #[s, x], argTypes := #[t, t] })
    (base : Nat) (e : TypeId) (i : TypeInfo) (z : Value) (size bytes : Nat) (h1 : P.underlying t = some (.slice e)) (h2 : P.info? e = some i) (h3 : i.zero = some z) (h4 : i.size = size) (h5 : i.bytes = bytes) (h6 : z.cells.size = size) (h7 : 0 < size)
    (v : Value) (k : Nat) (xs : List Value) (hs : a.eval s = v) (hown : w.ownsRow base e size v k xs) (ad : Addr) (m c : Nat) (news : List Value) (hx : a.eval x = .slice (some ad) m c) (hn : news.length = m * size)
    (hc : ∀ j u, news[j]? = some u → w.cell? (ad.add j) = some u) (h1c : ∀ u ∈ news, u.oneCell' = true) (b1 : k + m ≤ maxLen) (b2 : (k + m) * bytes ≤ 140737488355328) (b3 : base ≤ w.heap.size)
    (hK : ∀ v' w', w'.ownsRow base e size v' (k + m) (xs ++ news) → w.grownBy w' v.ownBlock → K (a.put o.dst v') w') :
    if Region.wanted o (yielded ops a.tmps) = true then Oper.wp P o a w K Q else E := by
  have hw : Region.wanted o (yielded ops a.tmps) = true := by simp [Region.wanted, hg]
  rw [if_pos hw]
  obtain ⟨v', w', hrun, r1, r2, _⟩ := run_append_own_at (P := P) w base t o.type e i z size bytes h1 h2 h3 h4 h5 h6 h7 v k xs hown ad m c news hn hc h1c b1 b2 b3
  unfold Oper.wp
  simp [execOp, hop, resolve, invoke, builtin, hs, hx, hrun, Result.andThen]
  exact hK _ _ r1 r2
end Go.Proofs.YtgfkbkonelphaaaGreatDoor

/-
  slices.Chunk over bytes, and what it gives to any body.
-/
namespace Go.Proofs.YtgfkbkonelphaaaGreatDoor
open Go.RowKit Go.Shelf

attribute [local go_sem] Oper.semAt_some

/-- A part of sixty-four bytes, or of what is left. -/
def chv (A : Option Addr) (n i : Nat) : Value := .slice (A.map fun x => x.add (64 * i)) (min 64 (n - 64 * i)) (min 64 (n - 64 * i))
def cks (A : Option Addr) (n m : Nat) : List Value := (List.range m).map (chv A n)
theorem cks_succ (A : Option Addr) (n m : Nat) : cks A n (m + 1) = cks A n m ++ [chv A n m] := by simp [cks, List.range_succ]
theorem range_split {α : Type} (f : Nat → α) {m n : Nat} (h : m < n) : (List.range n).map f = (List.range m).map f ++ f m :: ((List.range n).drop (m + 1)).map f := by
  have e : List.range n = List.range m ++ m :: (List.range n).drop (m + 1) := by
    conv => lhs; rw [← List.take_append_drop m (List.range n)]
    rw [List.drop_eq_getElem_cons (by simpa using h), List.take_range, Nat.min_eq_left (Nat.le_of_lt h)]
    simp
  conv => lhs; rw [e]
  simp
theorem cks_at {A : Option Addr} {n M : Nat} {pre rest : List Value} {x : Value} (h : cks A n M = pre ++ x :: rest) : pre.length < M ∧ x = chv A n pre.length := by
  have hl := congrArg List.length h
  have hx : (cks A n M)[pre.length]? = some x := by rw [h]; simp
  have hlt : pre.length < M := by
    unfold cks at hl
    simp at hl
    omega
  unfold cks at hx
  rw [List.getElem?_map, List.getElem?_range hlt] at hx
  exact ⟨hlt, (Option.some.inj hx).symm⟩

theorem chunk_any (v : Value) (hv : v.oneCell' = true) (w : World) :
    Calls Tryz.prog 56 #[v, .int .i64 64] w fun e w' => e = .returned (.func (.func 71) #[] #[.pointer (some ⟨w.heap.size, 0, none⟩), .pointer (some ⟨w.heap.size + 1, 0, none⟩)]) ∧ w' = (w.alloc (.cells #[v] 36)).alloc (.cells #[.int .i64 64] 3) := by
  go_enter Tryz.func56, Tryz.ntmps56
  go_wp2
  go_ret
  exact ⟨rfl, rfl⟩

set_option maxRecDepth 100000 in
set_option maxHeartbeats 1000000 in
theorem chunk_seq (B n c : Nat) (A : Option Addr) (w : World) (hB : B + 1 < w.heap.size) (h0 : w.cell? ⟨B, 0, none⟩ = some (.slice A n c)) (h1 : w.cell? ⟨B + 1, 0, none⟩ = some (.int .i64 64)) (hA : 0 < n → ∃ b o, A = some ⟨b, o, none⟩) (hc : n ≤ c) (hl : n ≤ 1000000) :
    SeqO Tryz.prog 71 #[.pointer (some ⟨B, 0, none⟩), .pointer (some ⟨B + 1, 0, none⟩)] (fun x : Value => #[x]) (fun k => k = B ∨ k = B + 1) (cks A n ((n + 63) / 64)) w := by
  intro l J Jx W hW hJ hJx hY hj0
  refine (callsIn_wide (n := 5)).1 ?_
  refine callsIn_of_wp Tryz.func71 rfl trivial ?_ rfl
  simp only [Tryz.ntmps71, List.size_toArray, List.length_cons, List.length_nil, Nat.reduceAdd, Nat.reduceSub, Array.replicate_succ, Array.replicate_zero, List.push_toArray, List.append_toArray, List.nil_append, List.cons_append]
  have H0 := hid h0
  have H1 := hid h1
  clear h0 h1
  gi_wp2
  gi_loopw [4] (fun i wr => ∃ m : Nat, m ≤ (n + 63) / 64 ∧ i = .int .i64 ((64 * m : Nat) : Int) ∧ Kp (Nox fun k => k = B ∨ k = B + 1) w wr ∧ J No (cks A n m) wr) (fun i _ => n + 64 - (intOf i).toNat)
  case atStart => exact ⟨0, by omega, rfl, hW, hj0⟩
  case round =>
    obtain ⟨m, hm, rfl, hk, hj⟩ := hrel
    have c0 : wr.cell? ⟨B, 0, none⟩ = some (.slice A n c) := (hk.cell (p := ⟨B, 0, none⟩) (by simp only; omega) (fun h => h (.inl rfl))).trans H0.out
    have c1 : wr.cell? ⟨B + 1, 0, none⟩ = some (.int .i64 64) := (hk.cell (p := ⟨B + 1, 0, none⟩) hB (fun h => h (.inr rfl))).trans H1.out
    obtain ⟨y, hy⟩ : ∃ y, 64 * m = y := ⟨_, rfl⟩
    by_cases hlt : y < n
    · obtain ⟨b, o, rfl⟩ := hA (by omega)
      have hlt2 : m < (n + 63) / 64 := by omega
      have HS := hid (cks_succ (some ⟨b, o, none⟩) n m)
      have HB := hid (range_split (chv (some ⟨b, o, none⟩) n) hlt2)
      obtain ⟨fn, tmps, assign, body, hy2, hR⟩ := hY _ _ _ _ wr.drew (range_split (chv (some ⟨b, o, none⟩) n) hlt2) (hJ _ No _ _ _ hj (Kp.refl No _).drew fun k h => .inl h)
      obtain ⟨E, hE⟩ : ∃ E, min 64 (n - 64 * m) = E := ⟨_, rfl⟩
      have hE0 : 0 < E ∧ E ≤ 64 ∧ y + E ≤ n := by omega
      have hch : chv (some ⟨b, o, none⟩) n m = .slice (some ⟨b, o + y, none⟩) E E := by
        unfold chv
        rw [hE, Option.map_some, hy]
        have ha : (⟨b, o, none⟩ : Addr).add y = ⟨b, o + y, none⟩ := by unfold Addr.add; split <;> simp_all
        rw [ha]
      have HCH := hid hch
      have HE := hid hE
      have HY := hid hy
      rw [hch] at hy2
      rw [hy]
      have g1 : (y : Int) < (n : Int) := by omega
      have g2 : (n : Int) ≤ (c : Int) := by omega
      have g3 : (y : Int) + (E : Int) ≤ (c : Int) := by omega
      have g4 : (y : Int) ≤ (n : Int) := by omega
      have hw1 := wrapI (x := (y : Int) + (E : Int)) (by unfold I64; omega)
      have hw2 := wrapI (x := (y : Int) + 64) (by unfold I64; omega)
      clear hy hE hch hlt2
      gi_wp2
      have hmin : min (64 : Int) ((n - y : Nat) : Int) = (E : Int) := by have := HE.out; have := HY.out; omega
      refine wpIn_wide.2 ?_
      refine region_still (by kernel_rfl) (by kernel_rfl) ?_
      repeat still_step
      refine wpStill_nil ?_
      have hkd := hk.trans ((Kp.refl (Nox fun k => k = B ∨ k = B + 1) wr).drew)
      have c0d : wr.drew.cell? ⟨B, 0, none⟩ = some (.slice (some ⟨b, o, none⟩) n c) := c0
      have c1d : wr.drew.cell? ⟨B + 1, 0, none⟩ = some (.int .i64 64) := c1
      obtain ⟨wd, hwd⟩ : ∃ wd, wr.drew = wd := ⟨_, rfl⟩
      rw [hwd] at hkd c0d c1d hR hy2 ⊢
      clear c0 c1 hk hj hwd
      go_wp2
      all_goals
        gi_wp2
        refine (RoundIn.any hR).mono ?_
        rintro e W3 (⟨rfl, hJ3, hk3⟩ | ⟨rfl, hx3, _⟩)
        · have c0e : W3.cell? ⟨B, 0, none⟩ = some (.slice (some ⟨b, o, none⟩) n c) := (hk3.cell (p := ⟨B, 0, none⟩) (by have := hkd.size; simp only; omega) (fun h => h.2 (.inl rfl))).trans c0d
          have c1e : W3.cell? ⟨B + 1, 0, none⟩ = some (.int .i64 64) := (hk3.cell (p := ⟨B + 1, 0, none⟩) (by have := hkd.size; simp only; omega) (fun h => h.2 (.inr rfl))).trans c1d
          clear c0d c1d hy2
          gi_wp2
          go_roundw
          case rel => exact ⟨m + 1, by have := HY.out; omega, by have := HY.out; congr 1; omega, hkd.trans (hk3.mono fun k _ h => h.2), by rw [HS.out]; exact hJ3⟩
          case measure => simp [intOf]; omega
        · gi_wp2
          refine bodyPost_ret (results_none rfl _ _ _) rfl ?_
          exact ⟨⟨_, rfl⟩, .inr ⟨No, _, _, by unfold cks; rw [HB.out, List.append_assoc]; rfl, hx3⟩⟩
    · have : m = (n + 63) / 64 := by omega
      subst this
      have g1 : ¬ (y : Int) < (n : Int) := by omega
      rw [hy]
      gi_wp2
      go_end0
      exact ⟨⟨_, rfl⟩, .inl ⟨No, hj⟩⟩
end Go.Proofs.YtgfkbkonelphaaaGreatDoor
