/-
  What under holds between its steps: the stack, the map, what was handed on to the closure.
-/
import Derived.Test.YtjmaingpiieioaaGreatZKidsW
import Derived.Test.YtjmaingpiieioaaGreatZVis
import Derived.Deep.LoopGhost
namespace Go.Proofs.YtjmaingpiieioaaGreat
open Go.RowKit Go.Shelf

/-- A place. -/
def pe (x : Pl) : List Value := [.int .i64 x.1.id, .int .i64 x.1.par, .int .i64 x.1.wt, .int .i64 x.1.pd, .int .i64 x.1.qt, .int .i64 x.1.us, .int .i64 (x.2 : Int)]
def pl (x : Pl) (i : Nat) : Value := (pe x).getD i (.int .i64 0)
theorem pl_one (x : Pl) (i : Nat) : (pl x i).oneCell' = true := by
  match i with
  | 0 => rfl
  | 1 => rfl
  | 2 => rfl
  | 3 => rfl
  | 4 => rfl
  | 5 => rfl
  | 6 => rfl
  | _ + 7 => rfl
theorem usPl : Us Tryz.prog 93 61 7 56 (.agg #[.int .i64 0, .int .i64 0, .int .i64 0, .int .i64 0, .int .i64 0, .int .i64 0, .int .i64 0]) := ⟨by kernel_rfl, by kernel_rfl, by decide, by decide⟩
/-- What is asked of the closure: J holds of what was handed on so far, O are the blocks that it leaves alone. -/
def See (g : Nat) (lb : Array Value) (J : (Nat → Prop) → List Pl → World → Prop) (all : List Pl) : Prop :=
  ∀ (O : Nat → Prop) (pre : List Pl) (x : Pl) (rest : List Pl) (W : World), all = pre ++ x :: rest → J O pre W →
    Calls Tryz.prog g (#[.agg (pe x).toArray] ++ lb) W fun e W' => (∃ v, e = .returned v) ∧ J O (pre ++ [x]) W' ∧ Kp (Nt O) W W'
structure UI (w : World) (H0 m : Nat) (J : (Nat → Prop) → List Pl → World → Prop) (seen : List Pl) (F : Int → List GS) (stk : List Pl) (sv : Value) (O : Nat → Prop) (W : World) : Prop where
  j : J O seen W
  st : Ow W H0 61 7 pl sv stk
  km : ∃ f cnt, Km W w.heap.size m f F cnt ∧ ∀ i, Kin m f i → O i ∧ i < H0
  so : ∀ i, sv.ownBlock = some i → O i
  ol : ∀ i, O i → w.heap.size ≤ i ∧ i < W.heap.size
section
variable {w W W' : World} {H0 m : Nat} {J : (Nat → Prop) → List Pl → World → Prop} {seen : List Pl} {F F' : Int → List GS} {stk : List Pl} {sv : Value} {O : Nat → Prop} {x : Pl}
theorem UI.step (hJ : AbO J) (h : UI w H0 m J seen F stk sv O W) (k : Kp No W W') : UI w H0 m J seen F stk sv O W' := by
  obtain ⟨f, cnt, h1, h2⟩ := h.km
  exact ⟨hJ _ _ _ _ _ h.j k.all (fun k h => .inl h), h.st.kp0 k, ⟨f, cnt, h1.kp0 k, h2⟩, h.so, fun i hi => ⟨(h.ol i hi).1, Nat.lt_of_lt_of_le (h.ol i hi).2 k.size⟩⟩
/-- .. with one block more. -/
theorem UI.own (hJ : AbO J) (h : UI w H0 m J seen F stk sv O W) (k : Kp No W W') {b : Nat} (hb : W.heap.size ≤ b) (hb2 : b < W'.heap.size) (hw : w.heap.size ≤ W.heap.size) : UI w H0 m J seen F stk sv (fun i => O i ∨ i = b) W' := by
  obtain ⟨f, cnt, h1, h2⟩ := h.km
  refine ⟨hJ _ _ _ _ _ h.j k.all (fun k h => ?_), h.st.kp0 k, ⟨f, cnt, h1.kp0 k, fun i hi => ⟨.inl (h2 i hi).1, (h2 i hi).2⟩⟩, fun i hi => .inl (h.so i hi), fun i hi => ?_⟩
  · rcases h with h | rfl
    · exact .inl h
    · exact .inr ⟨hb, hb2⟩
  · rcases hi with hi | rfl
    · exact ⟨(h.ol i hi).1, Nat.lt_of_lt_of_le (h.ol i hi).2 k.size⟩
    · exact ⟨Nat.le_trans hw hb, hb2⟩
/-- .. behind what the closure did. -/
theorem UI.saw {seen' : List Pl} (h : UI w H0 m J seen F stk sv O W) (j : J O seen' W') (k : Kp (Nt O) W W') : UI w H0 m J seen' F stk sv O W' := by
  obtain ⟨f, cnt, h1, h2⟩ := h.km
  exact ⟨j, h.st.kpx k fun i hi e => e (h.so i hi), ⟨f, cnt, h1.kp k fun i hi e => e (h2 i hi).1, h2⟩, h.so, fun i hi => ⟨(h.ol i hi).1, Nat.lt_of_lt_of_le (h.ol i hi).2 k.size⟩⟩
/-- .. with one place more on the stack. -/
theorem UI.push (hJ : AbO J) (h : UI w H0 m J seen F stk sv O W) {sv' : Value} (o : Ow W' H0 61 7 pl sv' (stk ++ [x])) (k : W.grownBy W' sv.ownBlock) (p : sv'.ownBlock = sv.ownBlock ∨ sv'.ownBlock = some W.heap.size) (hw : w.heap.size ≤ W.heap.size) :
    UI w H0 m J seen F (stk ++ [x]) sv' (fun i => O i ∨ (W.heap.size ≤ i ∧ i < W'.heap.size)) W' ∧ Kp (fun i => sv.ownBlock = some i) W W' := by
  have kA := (Kp.refl (fun i => sv.ownBlock = some i) W).grown k fun k hk => .inl hk
  obtain ⟨f, cnt, h1, h2⟩ := h.km
  refine ⟨⟨hJ _ _ _ _ _ h.j (kA.mono fun i _ e => h.so i e) (fun k h => h), o, ⟨f, cnt, h1.kp kA fun i hi e => ?_, fun i hi => ⟨.inl (h2 i hi).1, (h2 i hi).2⟩⟩, fun i hi => ?_, fun i hi => ?_⟩, kA⟩
  · have := (h2 i hi).2
    have := (h.st.blk e).1
    omega
  · rcases p with p | p
    · exact .inl (h.so i (p ▸ hi))
    · rw [p] at hi
      injection hi with hi
      exact .inr ⟨by omega, by subst hi; exact (o.blk p).2.1⟩
  · have hz := kA.size
    rcases hi with hi | hi
    · exact ⟨(h.ol i hi).1, Nat.lt_of_lt_of_le (h.ol i hi).2 hz⟩
    · exact ⟨Nat.le_trans hw hi.1, hi.2⟩
/-- .. the stack cut, in the same block. -/
theorem UI.cut {stk' : List Pl} {sv' : Value} (h : UI w H0 m J seen F stk sv O W) (o : Ow W H0 61 7 pl sv' stk') (p : sv'.ownBlock = sv.ownBlock) : UI w H0 m J seen F stk' sv' O W :=
  ⟨h.j, o, h.km, fun i hi => h.so i (p ▸ hi), h.ol⟩
/-- .. a number taken out of the map. -/
theorem UI.del (hJ : AbO J) (h : UI w H0 m J seen F stk sv O W) {y : Int} (hy : I64 y) (ty : TypeId) : ∃ W', (Builtin.delete_ #[91, 3] ty #[.map (some m), .int .i64 y]).run Tryz.prog W = .ok (.tuple #[]) W' ∧ UI w H0 m J seen (fun z => if z = y then [] else F z) stk sv O W' ∧ Kp (Only m) W W' := by
  obtain ⟨f, cnt, h1, h2⟩ := h.km
  obtain ⟨W', hr, m1, k⟩ := h1.mp.del rK hy ty
  refine ⟨W', hr, ⟨hJ _ _ _ _ _ h.j (k.mono fun i _ e => by rw [show i = m from e]; exact (h2 m (.inl rfl)).1) (fun k h => .inl h), h.st.kpx k fun i hi e => ?_, ⟨_, _, ⟨m1, fun z a e => ?_, fun z e => ?_, fun z a k e => ?_, fun z z2 a a2 k e e2 => ?_⟩, fun i hi => h2 i ?_⟩, h.so, fun i hi => ⟨(h.ol i hi).1, Nat.lt_of_lt_of_le (h.ol i hi).2 k.size⟩⟩, k⟩
  · have h3 := (h2 m (.inl rfl)).2
    have h4 := (h.st.blk hi).1
    have e : i = m := e
    omega
  · by_cases hz : z = y
    · simp [hz] at e
    · simp only [hz, if_false] at e ⊢
      exact (h1.row z a e).kpx k fun i hi e2 => h1.own z a i e (by rw [← rsl_own]; exact hi) e2
  · by_cases hz : z = y
    · simp [hz]
    · simp only [hz, if_false] at e ⊢
      exact h1.non z e
  · by_cases hz : z = y
    · simp [hz] at e
    · simp only [hz, if_false] at e
      exact h1.own z a k e
  · by_cases hz : z = y
    · simp [hz] at e
    · simp only [hz, if_false] at e
      by_cases hz2 : z2 = y
      · simp [hz2] at e2
      · simp only [hz2, if_false] at e2
        exact h1.dis z z2 a a2 k e e2
  · rcases hi with rfl | ⟨z, a, e, hk⟩
    · exact .inl rfl
    · by_cases hz : z = y
      · simp [hz] at e
      · simp only [hz, if_false] at e
        exact .inr ⟨z, a, e, hk⟩
theorem Ow.single (w : World) (base : Nat) (x : Pl) (h : base ≤ w.heap.size) : Ow (w.alloc (.cells (pe x).toArray 61)) base 61 7 pl (.slice (some ⟨w.heap.size, 0, none⟩) 1 1) [x] :=
  ⟨by simp [flat], .inr ⟨w.heap.size, 1, (pe x).toArray, rfl, h, heap_alloc_new w _, Nat.le_refl _, by simp [maxLen], rfl, rfl⟩⟩
theorem Rw.tail {P : Nat → Prop} {g0 : GS} {tl : List GS} {b o c : Nat} (h : Rw 6 gc gs0 w P (.slice (some ⟨b, o, none⟩) (tl.length + 1) c) (g0 :: tl)) : Rw 6 gc gs0 w P (.slice (some ⟨b, o + 6, none⟩) tl.length (c - 1)) tl := by
  obtain ⟨A, c', he, hc, hm, hx⟩ := h
  injection he with e1 _ e3
  subst e3
  simp only [List.length_cons] at hc
  refine ⟨_, c - 1, rfl, by omega, by omega, fun h0 => ?_⟩
  obtain ⟨b', o', e4, h1, h2, h3⟩ := hx (by simp)
  rw [← e1] at e4
  injection e4 with e4
  injection e4 with e5 e6 _
  subst e5 e6
  refine ⟨b, o + 6, rfl, h1, h2, fun j i hj hi => ?_⟩
  have := h3 (j + 1) i (by simp; omega) hi
  rw [show o + 6 + (j * 6 + i) = o + ((j + 1) * 6 + i) by omega, this]
  rfl
end
end Go.Proofs.YtjmaingpiieioaaGreat
