/-
  A range over an iterator that has memory of its own: the iterator's contract names the list that comes, the blocks that it reads (Rd) and, as it goes, those that it owns (O); the body leaves both alone. The law of the statement over such a contract; a scope with one label, walked in the wide fence. Nothing of a program is named here.
-/
import Derived.Test.YtggmdgdgljlddaaWords
import Derived.RangeFuncNested
import Derived.RangeFuncBound
import Derived.RangeFuncCalls
import Derived.RangeFuncLeaves
import Derived.RangeFuncBox
namespace Go.Proofs.Ytggmdgdgljlddaa
open Go.RowKit

theorem Kp.putObj {S : Nat → Prop} {a w : World} (h : Kp S a w) {r : Nat} (hr : S r ∨ a.heap.size ≤ r) (o : Obj) : Kp S a (w.putObj r o) :=
  ⟨h.os, h.tape, h.output, by simpa using h.size, fun k hk hn => (World.putObj_heap_other (by
    rintro rfl
    rcases hr with hr | hr
    · exact hn hr
    · omega)).trans (h.block k hk hn)⟩
theorem Kp.put1 (r : Nat) (w : World) (o : Obj) : Kp (Only r) w (w.putObj r o) := (Kp.refl (Only r) w).putObj (r := r) (.inl rfl) o

/-- What is neither owned by the iterator nor read by it. -/
def Out (O Rd : Nat → Prop) : Nat → Prop := fun k => ¬ O k ∧ ¬ Rd k
def Nt (O : Nat → Prop) : Nat → Prop := fun k => ¬ O k

/-- What is said abides the iterator's steps: it turns what it owns, and owns what is new. -/
def AbO {β : Type} (J : (Nat → Prop) → β → World → Prop) : Prop :=
  ∀ O O' s W W', J O s W → Kp O W W' → (∀ k, O' k → O k ∨ (W.heap.size ≤ k ∧ k < W'.heap.size)) → J O' s W'

def SeqO {α : Type} (P : Program) (g : Nat) (lb : Array Value) (encs : α → Array Value) (Rd : Nat → Prop) (xs : List α) (w : World) : Prop :=
  ∀ (l : Nat) (J Jx : (Nat → Prop) → List α → World → Prop) (W : World), Kp (Nt Rd) w W → AbO J → AbO Jx →
    (∀ O pre x rest W1, xs = pre ++ x :: rest → J O pre W1 → YieldAt Fence.wide 0 P l (encs x) W1 fun e W' =>
      (e = .returned (.bool true) ∧ J O (pre ++ [x]) W' ∧ Kp (Out O Rd) W1 W') ∨ (e = .returned (.bool false) ∧ Jx O (pre ++ [x]) W' ∧ Kp (Nt O) W1 W')) →
    J No [] W →
    Calls P g (#[.func (.yield l) #[] #[]] ++ lb) W fun e W' => (∃ v, e = .returned v) ∧ ((∃ O, J O xs W') ∨ (∃ O pre rest, xs = pre ++ rest ∧ Jx O pre W'))

/-- How the body of a round may be left. -/
def bodyO {α : Type} (O Rd : Nat → Prop) (I : (Nat → Prop) → List α → World → Prop) (Ix : Code → (Nat → Prop) → List α → World → Prop) (xs : List α) (W : World) : Exit → Act → World → Prop
  | .normal, _, W' => Kp (Out O Rd) W W' ∧ I O xs W'
  | .ret, _, W' => Kp (Nt O) W W' ∧ Ix .ret O xs W'
  | .exit id, _, W' => Kp (Nt O) W W' ∧ Ix (.exit id) O xs W'
  | .goto t, _, W' => Kp (Nt O) W W' ∧ Ix (.goto t) O xs W'
  | .panic _, _, _ => False
  | .outgrown, _, _ => False

theorem room_w (k : Nat) : Fence.wide.room k := fun _ h => by cases h
theorem RoundIn.any {m m' : Nat} {P : Program} {l : Nat} {f : FuncId} {tmps : Array Value} {assign body : Code} {w : World} {R : Ending → World → Prop}
    (h : RoundIn Fence.wide m P l f tmps assign body w R) : RoundIn Fence.wide m' P l f tmps assign body w R := ⟨h.1, fun c cs _ => h.2 c cs (room_w _)⟩
theorem RoundIn.inR {m m' : Nat} {P : Program} {l l' : Nat} {f : FuncId} {tmps : Array Value} {assign body : Code} {w : World} {R : Ending → World → Prop}
    (h : RoundIn Fence.wide m P l f tmps assign body w R) : RoundIn (Fence.wide.inRound l') m' P l f tmps assign body w R := ⟨h.1, fun c cs _ => h.2 c cs (room_w _)⟩

section
variable {P : Program} {n : Nat} {w : World}

theorem range_own {α : Type} {g : Operand} {ps : Array Tmp} {assign body : Code} {Q : Exit → Act → World → Prop} {a : Act}
    {gf : Nat} {lb : Array Value} (hg : a.eval g = .func (.func gf) #[] lb) (eg : ∀ args w, (callFunc gf args).run P w = .ok (.enter gf args) w)
    {encs : α → Array Value} {Rd : Nat → Prop} {xs : List α} (hseq : SeqO P gf lb encs Rd xs w) (hRd : ∀ k, Rd k → k < w.heap.size) (hps : ∀ x, (encs x).size = ps.size)
    (I : (Nat → Prop) → List α → World → Prop) (Ix : Code → (Nat → Prop) → List α → World → Prop) (hI : AbO I) (hIx : ∀ c, AbO (Ix c)) (h0 : I No [] w)
    (hround : ∀ (l : Nat) (O : Nat → Prop) (pre : List α) (x : α) (rest : List α) (W : World), xs = pre ++ x :: rest → O l → w.heap.size ≤ l → l < W.heap.size → I O pre W →
      assign.wpIn (Fence.wide.inRound l) (n - 1 - 1) P (Exit.then (fun a' W' => Kp (Out O Rd) W W' ∧ ∀ W2, Kp (Only l) W' W2 → body.wpIn (Fence.wide.inRound l) (n - 1 - 1) P (bodyO O Rd I Ix (pre ++ [x]) W2) a' W2) (fun _ _ _ => False))
        { tmps := (ps.zip (encs x)).foldl (fun t (p, v) => t.setIfInBounds p v) a.tmps, defers := [] } W)
    (hdone : ∀ (D : Nat) (O : Nat → Prop) (W : World), w.heap.size ≤ D → O D → I O xs W → W.heap[D]? = some (.deferred (some [])) → Q .normal { a with defers := { target := .collected D, args := #[] } :: a.defers } W)
    (hstop : ∀ (D : Nat) (O : Nat → Prop) (c : Code) (pre rest : List α) (W : World), w.heap.size ≤ D → O D → xs = pre ++ rest → Ix c O pre W → W.heap[D]? = some (.deferred (some [])) → c.wpIn Fence.wide n P Q { a with defers := { target := .collected D, args := #[] } :: a.defers } W) :
    (Code.rangeFunc g ps assign body).wpIn Fence.wide n P Q a w := by
  refine wpIn_rangeFunc ?_
  intro fn hfn
  obtain ⟨rec, hrec⟩ : ∃ rec : LoopState → Option Code → Loop, rec = fun st pe => { state := st, pending := pe, fn, tmps := a.tmps, params := ps, assign, body, defers := w.heap.size } := ⟨_, rfl⟩
  obtain ⟨W1, hW1⟩ : ∃ W1, (w.alloc (.deferred (some []))).alloc (.loop (rec .ready none)) = W1 := ⟨_, rfl⟩
  have hsz : W1.heap.size = w.heap.size + 2 := by rw [← hW1]; simp
  have hL1 : W1.heap[w.heap.size + 1]? = some (.loop (rec .ready none)) := by
    rw [← hW1]
    have := World.alloc_heap_new (w.alloc (.deferred (some []))) (.loop (rec .ready none))
    rwa [World.size_alloc] at this
  have hD1 : W1.heap[w.heap.size]? = some (.deferred (some [])) := by
    rw [← hW1]
    exact (Below.heap_alloc _ _ _ (by simp)).trans (World.alloc_heap_new w _)
  have hk1 : Kp No w W1 := by
    rw [← hW1]
    exact ((Kp.refl No w).alloc _).alloc _
  refine ⟨w.heap.size + 1, [{ target := .collected w.heap.size, args := #[] }], W1, { target := .fn (.func gf) lb, args := #[.func (.yield (w.heap.size + 1)) #[] #[]] }, W1, gf,
    #[.func (.yield (w.heap.size + 1)) #[] #[]] ++ lb, W1, ?_, ?_, fun _ _ => trivial, ?_, (fun h => by cases h), callsIn_wide.2 ?_⟩
  · rw [← hW1, hrec]
    exact run_enterLoop_outer _ _ _ _ _
  · simp only [resolve, hg]
    simp [go_sem]
  · simp [invoke, go_sem, eg]
  · have ab : ∀ {β : Type} {K : (Nat → Prop) → β → World → Prop} (r : LoopState) (c : Option Code), AbO K →
        AbO (fun O (s : β) W => K (fun k => O k ∨ k = w.heap.size ∨ k = w.heap.size + 1) s W ∧ ¬ O w.heap.size ∧ ¬ O (w.heap.size + 1) ∧ W.heap[w.heap.size + 1]? = some (.loop (rec r c)) ∧ W.heap[w.heap.size]? = some (.deferred (some []))) := by
      rintro β K r c hK O O' s A B ⟨h1, h2, h3, h4, h5⟩ hk ho
      have l4 := (Array.getElem?_eq_some_iff.1 h4).1
      have l5 := (Array.getElem?_eq_some_iff.1 h5).1
      refine ⟨hK _ _ s A B h1 (hk.mono fun k _ h => .inl h) ?_, ?_, ?_, (hk.block _ l4 h3).trans h4, (hk.block _ l5 h2).trans h5⟩
      · rintro k (h | h)
        · rcases ho k h with h | h
          · exact .inl (.inl h)
          · exact .inr h
        · exact .inl (.inr h)
      · intro h
        rcases ho _ h with h | h
        · exact h2 h
        · omega
      · intro h
        rcases ho _ h with h | h
        · exact h3 h
        · omega
    refine (hseq (w.heap.size + 1)
      (fun O pre W => I (fun k => O k ∨ k = w.heap.size ∨ k = w.heap.size + 1) pre W ∧ ¬ O w.heap.size ∧ ¬ O (w.heap.size + 1) ∧ W.heap[w.heap.size + 1]? = some (.loop (rec .ready none)) ∧ W.heap[w.heap.size]? = some (.deferred (some [])))
      (fun O pre W => ∃ c, Ix c (fun k => O k ∨ k = w.heap.size ∨ k = w.heap.size + 1) pre W ∧ ¬ O w.heap.size ∧ ¬ O (w.heap.size + 1) ∧ W.heap[w.heap.size + 1]? = some (.loop (rec .done (some c))) ∧ W.heap[w.heap.size]? = some (.deferred (some [])))
      W1 hk1.all (ab _ _ hI) ?_ ?_ ?_).mono ?_
    · rintro O O' s A B ⟨c, hc⟩ hk ho
      exact ⟨c, ab _ _ (hIx c) O O' s A B hc hk ho⟩
    · -- one round
      rintro O pre x rest W hx ⟨hi, hO1, hO2, hl, hd⟩
      have hlt : w.heap.size + 1 < W.heap.size := (Array.getElem?_eq_some_iff.1 hl).1
      have hy := run_yield (P := P) (args := encs x) hl (by rw [hrec]; exact hps x)
      rw [hrec] at hy
      refine ⟨fn, _, assign, body, hy, roundIn_of_wpIn (n := 0) hfn ?_⟩
      clear hy
      have hr := hround (w.heap.size + 1) (fun k => O k ∨ k = w.heap.size ∨ k = w.heap.size + 1) pre x rest W hx (.inr (.inr rfl)) (by omega) hlt hi
      have dp : ∀ {c : Code} {Q : Exit → Act → World → Prop} {a : Act} {w : World} {m m' l : Nat}, c.wpIn (Fence.wide.inRound l) m P Q a w → c.wpIn (Fence.wide.inRound l) m' P Q a w := fun h b k cs h1 h2 _ => h b k cs h1 h2 (room_w _)
      refine wpIn_mono (dp hr) ?_
      rintro e a' Wa hp
      cases e with
      | normal =>
        obtain ⟨hka, hb⟩ := hp
        have hla := (hka.block _ hlt (fun h => h.1 (.inr (.inr rfl)))).trans hl
        have hda := (hka.block _ (by omega) (fun h => h.1 (.inr (.inl rfl)))).trans hd
        have hlta : w.heap.size + 1 < Wa.heap.size := (Array.getElem?_eq_some_iff.1 hla).1
        refine ⟨_, run_beginRound hla (by rw [hrec]), ?_⟩
        have hl2 : (Wa.putObj (w.heap.size + 1) (.loop { rec .ready none with state := .busy })).heap[w.heap.size + 1]? = some (.loop { rec .ready none with state := .busy }) := World.putObj_heap_same hlta
        have hd2 : (Wa.putObj (w.heap.size + 1) (.loop { rec .ready none with state := .busy })).heap[w.heap.size]? = some (.deferred (some [])) := (World.putObj_heap_other (by omega)).trans hda
        have hkb := Kp.put1 (w.heap.size + 1) Wa (.loop { rec .ready none with state := .busy })
        generalize Wa.putObj (w.heap.size + 1) (.loop { rec .ready none with state := .busy }) = Wb at hl2 hd2 hkb
        have hlb : w.heap.size + 1 < Wb.heap.size := (Array.getElem?_eq_some_iff.1 hl2).1
        refine wpIn_mono (dp (hb Wb hkb)) ?_
        have fin : ∀ (jump : Option Code) (W3 : World), Kp (Nt fun k => O k ∨ k = w.heap.size ∨ k = w.heap.size + 1) Wb W3 →
            (Instr.endRound (w.heap.size + 1) jump).run P W3 = .ok (.bool jump.isNone) (W3.putObj (w.heap.size + 1) (.loop (rec (if jump.isNone then .ready else .done) jump))) ∧
            (W3.putObj (w.heap.size + 1) (.loop (rec (if jump.isNone then .ready else .done) jump))).heap[w.heap.size + 1]? = some (.loop (rec (if jump.isNone then .ready else .done) jump)) ∧
            (W3.putObj (w.heap.size + 1) (.loop (rec (if jump.isNone then .ready else .done) jump))).heap[w.heap.size]? = some (.deferred (some [])) := fun jump W3 hk3 => by
          have hl3 := (hk3.block _ hlb (fun h => h (.inr (.inr rfl)))).trans hl2
          have hd3 := (hk3.block _ (by omega) (fun h => h (.inr (.inl rfl)))).trans hd2
          have := run_endRound (P := P) jump hl3
          rw [hrec] at this ⊢
          exact ⟨this, World.putObj_heap_same (Array.getElem?_eq_some_iff.1 hl3).1, (World.putObj_heap_other (by omega)).trans hd3⟩
        have sub : ∀ (W3 : World) (o : Obj), Kp (fun k => O k ∨ k = w.heap.size ∨ k = w.heap.size + 1) W3 (W3.putObj (w.heap.size + 1) o) := fun W3 o => (Kp.put1 _ W3 o).mono fun k _ h => .inr (.inr h)
        have leave : ∀ (W3 : World) (o : Obj), Kp (Nt fun k => O k ∨ k = w.heap.size ∨ k = w.heap.size + 1) Wb W3 → Kp (Nt O) W (W3.putObj (w.heap.size + 1) o) := fun W3 o hk3 => by
          have e3 : ∀ k, k < W.heap.size → Only (w.heap.size + 1) k → Nt O k := fun k _ h => by
            cases h
            exact hO2
          have e4 : ∀ k, k < W.heap.size → Nt (fun k => O k ∨ k = w.heap.size ∨ k = w.heap.size + 1) k → Nt O k := fun k _ h x => h (.inl x)
          exact (((hka.mono fun k _ h x => h.1 (.inl x)).step hkb e3).step hk3 e4).step (Kp.put1 _ W3 o) e3
        rintro e a3 W3 hp
        cases e with
        | normal =>
          obtain ⟨hk3, hi3⟩ := hp
          obtain ⟨h1, h2, h3⟩ := fin none W3 (hk3.mono fun _ _ h => h.1)
          refine ⟨_, _, h1, .inl ⟨rfl, ⟨hI _ _ _ _ _ hi3 (sub _ _) (fun _ h => .inl h), hO1, hO2, h2, h3⟩, ?_⟩⟩
          have e1 : ∀ k, k < W.heap.size → Out (fun k => O k ∨ k = w.heap.size ∨ k = w.heap.size + 1) Rd k → Out O Rd k := fun k _ h => ⟨fun x => h.1 (.inl x), h.2⟩
          have e2 : ∀ k, k < W.heap.size → Only (w.heap.size + 1) k → Out O Rd k := fun k _ h => by
            cases h
            exact ⟨hO2, fun x => by have := hRd _ x; omega⟩
          exact (((hka.mono e1).step hkb e2).step hk3 e1).step (Kp.put1 _ W3 _) e2
        | ret =>
          obtain ⟨hk3, hi3⟩ := hp
          obtain ⟨h1, h2, h3⟩ := fin (some .ret) W3 hk3
          exact ⟨_, _, h1, .inr ⟨rfl, ⟨_, hIx _ _ _ _ _ _ hi3 (sub _ _) (fun _ h => .inl h), hO1, hO2, h2, h3⟩, leave _ _ hk3⟩⟩
        | exit id =>
          obtain ⟨hk3, hi3⟩ := hp
          obtain ⟨h1, h2, h3⟩ := fin (some (.exit id)) W3 hk3
          exact ⟨_, _, h1, .inr ⟨rfl, ⟨_, hIx _ _ _ _ _ _ hi3 (sub _ _) (fun _ h => .inl h), hO1, hO2, h2, h3⟩, leave _ _ hk3⟩⟩
        | goto t =>
          obtain ⟨hk3, hi3⟩ := hp
          obtain ⟨h1, h2, h3⟩ := fin (some (.goto t)) W3 hk3
          exact ⟨_, _, h1, .inr ⟨rfl, ⟨_, hIx _ _ _ _ _ _ hi3 (sub _ _) (fun _ h => .inl h), hO1, hO2, h2, h3⟩, leave _ _ hk3⟩⟩
        | panic ch => exact hp.elim
        | outgrown => exact hp.elim
      | exit id => exact hp.elim
      | goto t => exact hp.elim
      | ret => exact hp.elim
      | panic ch => exact hp.elim
      | outgrown => exact hp.elim
    · refine ⟨hI _ _ _ _ _ h0 hk1 (fun k h => ?_), fun h => h, fun h => h, hL1, hD1⟩
      rcases h with h | h | h
      · exact h.elim
      · exact .inr (by omega)
      · exact .inr (by omega)
    · -- behind the iterator
      have sub : ∀ (O : Nat → Prop) (W3 : World) (o : Obj), Kp (fun k => O k ∨ k = w.heap.size ∨ k = w.heap.size + 1) W3 (W3.putObj (w.heap.size + 1) o) := fun O W3 o => (Kp.put1 _ W3 o).mono fun k _ h => .inr (.inr h)
      rintro e W2 ⟨⟨v, rfl⟩, (⟨O, hi, hO1, hO2, hl, hd⟩ | ⟨O, pre, rest, hx, c, hi, hO1, hO2, hl, hd⟩)⟩
      · refine ⟨none, W2.putObj (w.heap.size + 1) (.loop (rec .exhausted none)), ?_, hdone _ _ _ (Nat.le_refl _) (.inr (.inl rfl)) (hI _ _ _ _ _ hi (sub _ _ _) (fun _ h => .inl h)) ((World.putObj_heap_other (by omega)).trans hd)⟩
        have := run_endLoop (P := P) hl (by rw [hrec]; simp)
        rw [hrec] at this ⊢
        exact this
      · refine ⟨some c, W2.putObj (w.heap.size + 1) (.loop (rec .exhausted (some c))), ?_, hstop _ _ c pre rest _ (Nat.le_refl _) (.inr (.inl rfl)) hx (hIx c _ _ _ _ _ hi (sub _ _ _) (fun _ h => .inl h)) ((World.putObj_heap_other (by omega)).trans hd)⟩
        have := run_endLoop (P := P) hl (by rw [hrec]; simp)
        rw [hrec] at this ⊢
        exact this

/-- A scope whose label is come to from above, too, walked in the wide fence. -/
theorem wpIn_scope_pass {a : Act} {Q : Exit → Act → World → Prop} {c rest : Code} (l : Nat) (J : Act → World → Prop) (μ : Act → World → Nat) (hf : findLabel c l = some (Code.skip.seq rest))
    (pass : ∀ a w, J a w → rest.wpIn Fence.wide n P (Exit.jump l (fun a' w' => J a' w' ∧ μ a' w' < μ a w) Q) a w)
    (first : (∀ a w, J a w → rest.wpIn Fence.wide n P (Exit.jump l J Q) a w) → c.wpIn Fence.wide n P (Exit.jump l J Q) a w) : (Code.scope c).wpIn Fence.wide n P Q a w :=
  wpIn_wide.2 (wp_scope_pass l J μ hf (fun a w h => wpIn_wide.1 (pass a w h)) fun h => wpIn_wide.1 (first fun a w hJ => wpIn_wide.2 (h a w hJ)))
end
end Go.Proofs.Ytggmdgdgljlddaa
