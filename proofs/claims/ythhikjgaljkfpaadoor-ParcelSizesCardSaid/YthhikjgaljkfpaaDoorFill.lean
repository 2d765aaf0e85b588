/-
  A row of structs that is made at once and laid one by one, in a block of its own. Nothing of a program is named here.
-/
import Derived.Test.YthhikjgaljkfpaaDoorOwn
import Derived.Test.YthhikjgaljkfpaaDoorHeld
import Derived.Laws.MakeOwn
namespace Go.Proofs.YthhikjgaljkfpaaDoor
open Go.RowKit

/-- Cells laid one by one into a block that is known whole. -/
theorem Blk.fill {g : Nat} {t : TypeId} : ∀ (vs : List Value) (o : Nat) (w : World) (cs : Array Value), Blk w g t cs →
    ∃ cs' : Array Value, Blk (w.setCells g o vs) g t cs' ∧ cs'.size = cs.size ∧ ∀ j, cs'[j]? = if o ≤ j ∧ j < o + vs.length ∧ j < cs.size then vs[j - o]? else cs[j]?
  | [], o, _, cs, h => ⟨cs, h, rfl, fun j => by rw [if_neg (by simp only [List.length_nil]; omega)]⟩
  | v :: r, o, w, cs, h => by
    obtain ⟨cs', h1, h2, h3⟩ := Blk.fill r (o + 1) (w.setCell ⟨g, o, none⟩ v) _ (h.put o v)
    refine ⟨cs', h1, by simpa using h2, fun j => ?_⟩
    rw [h3 j]
    simp only [Array.size_setIfInBounds, List.length_cons]
    by_cases hj : j = o
    · subst hj
      rw [if_neg (by omega), Array.getElem?_setIfInBounds_self]
      split
      · rw [if_pos (by omega)]
        simp
      · rw [if_neg (by omega), Array.getElem?_eq_none (by omega)]
    · rw [Array.getElem?_setIfInBounds_ne (by omega)]
      by_cases h4 : o + 1 ≤ j ∧ j < o + 1 + r.length ∧ j < cs.size
      · rw [if_pos h4, if_pos (by omega)]
        obtain ⟨m, rfl⟩ : ∃ m, j = o + 1 + m := ⟨j - (o + 1), by omega⟩
        rw [show o + 1 + m - (o + 1) = m by omega, show o + 1 + m - o = m + 1 by omega]
        simp
      · rw [if_neg h4, if_neg (by omega)]
theorem Kp.fill {S : Nat → Prop} {a : World} {g : Nat} (hp : S g ∨ a.heap.size ≤ g) : ∀ (vs : List Value) (o : Nat) (w : World), Kp S a w → Kp S a (w.setCells g o vs)
  | [], _, _, h => h
  | v :: r, o, _, h => Kp.fill hp r (o + 1) _ (h.setCell (p := ⟨g, o, none⟩) hp v)

/-- The first ones of a row of m are laid. -/
def Fil {α : Type} (n : Nat) (f : α → Nat → Value) (d : α) (t : TypeId) (w : World) (g m : Nat) (xs : List α) : Prop :=
  ∃ cs, Blk w g t cs ∧ cs.size = m * n ∧ xs.length ≤ m ∧ ∀ j i, j < xs.length → i < n → cs[j * n + i]? = some (f (xs.getD j d) i)

section
variable {α : Type} {n : Nat} {f : α → Nat → Value} {d : α} {t : TypeId} {w w' : World} {g m : Nat} {xs : List α} {S P : Nat → Prop}
theorem Fil.lt (h : Fil n f d t w g m xs) : g < w.heap.size := by
  obtain ⟨cs, h, _⟩ := h
  exact h.lt
theorem Fil.kp (h : Fil n f d t w g m xs) (k : Kp S w w') (hn : ¬ S g) : Fil n f d t w' g m xs := by
  obtain ⟨cs, h, h2⟩ := h
  exact ⟨cs, h.kp k hn, h2⟩
theorem Fil.kp0 (h : Fil n f d t w g m xs) (k : Kp No w w') : Fil n f d t w' g m xs := h.kp k fun h => h
theorem Fil.cell (h : Fil n f d t w g m xs) {j i : Nat} (hj : j < xs.length) (hi : i < n) : w.cell? ⟨g, j * n + i, none⟩ = some (f (xs.getD j d) i) := by
  obtain ⟨cs, h, _, _, h2⟩ := h
  rw [h.cell, h2 j i hj hi]
theorem Fil.there (h : Fil n f d t w g m xs) {j i : Nat} (hj : j < m) (hi : i < n) : (w.cell? ⟨g, j * n + i, none⟩).isSome = true ∧ w.frozen? ⟨g, j * n + i, none⟩ = false := by
  obtain ⟨cs, h, hs, _, h2⟩ := h
  refine ⟨?_, h.frozen _⟩
  rw [h.cell]
  have : j * n + i < cs.size := by
    rw [hs]
    have : (j + 1) * n ≤ m * n := Nat.mul_le_mul_right _ hj
    rw [Nat.add_mul, Nat.one_mul] at this
    omega
  simp [this]
theorem Fil.new {cs : Array Value} (w : World) (t : TypeId) (hs : cs.size = m * n) : Fil n f d t (w.alloc (.cells cs t)) w.heap.size m [] := ⟨cs, Blk.new w t cs, hs, Nat.zero_le _, fun j i hj => by simp at hj⟩
theorem Fil.snoc (h : Fil n f d t w g m xs) (x : α) (hm : xs.length < m) (vs : List Value) (hv : vs = (List.range n).map (f x)) : Fil n f d t (w.setCells g (xs.length * n) vs) g m (xs ++ [x]) := by
  obtain ⟨cs, h, hs, hl, h2⟩ := h
  obtain ⟨cs', h3, h4, h5⟩ := Blk.fill vs (xs.length * n) w cs h
  have hvl : vs.length = n := by rw [hv]; simp
  refine ⟨cs', h3, by rw [h4, hs], by rw [List.length_append, List.length_singleton]; omega, fun j i hj hi => ?_⟩
  rw [List.length_append, List.length_singleton] at hj
  have hmn : (xs.length + 1) * n ≤ m * n := Nat.mul_le_mul_right _ hm
  rw [Nat.add_mul, Nat.one_mul] at hmn
  rw [h5, hvl, hs]
  by_cases e : j = xs.length
  · subst e
    rw [if_pos ⟨by omega, by omega, by omega⟩, show xs.length * n + i - xs.length * n = i by omega, hv]
    simp [List.getD, hi]
  · have hjl : j < xs.length := by omega
    have : (j + 1) * n ≤ xs.length * n := Nat.mul_le_mul_right _ hjl
    rw [Nat.add_mul, Nat.one_mul] at this
    rw [if_neg (by omega), h2 j i hjl hi]
    simp [List.getD, List.getElem?_append_left hjl]
theorem Fil.rw (h : Fil n f d t w g m xs) (hm : xs.length = m) (hM : m ≤ maxLen) (hP : P g) : Rw n f d w P (.slice (some ⟨g, 0, none⟩) m m) xs := by
  refine ⟨_, _, by rw [hm], by omega, hM, fun _ => ⟨g, 0, rfl, h.lt, hP, fun j i hj hi => ?_⟩⟩
  rw [Nat.zero_add]
  exact h.cell hj hi
end

section
variable {P : Program} {n bytes : Nat} {z : Value}
theorem run_rowm {t e : TypeId} (u : Us P t e n bytes z) (w : World) {m : Nat} (hm : bytes * m ≤ 281474976710656) (h63 : m ≤ 9223372036854775807) :
    (Instr.makeSlice t (.int .i64 (m : Int)) (.int .i64 (m : Int))).run P w = .ok (.slice (some ⟨w.heap.size, 0, none⟩) m m) (w.alloc (.cells (madeCells z.cells (m * n)) e)) := by
  obtain ⟨i, hi, hz, hs, hb⟩ := info_parts u.info
  have hr := run_make (P := P) w t e i z u.un hi hz .i64 .i64 (m : Int) (m : Int) (by omega) (Int.le_refl _) (by rw [hb, ← Int.natCast_mul]; omega) (by omega)
  rw [hs] at hr
  simpa using hr
theorem wp_rowm {α : Type} {f : α → Nat → Value} (d : α) {t e : TypeId} (u : Us P t e n bytes z) {ops : Array Oper} {rest : List Oper} {o : Oper} {a : Act} {w : World} {Q : Exit → Act → World → Prop} (hg : o.guard = none) (l c : Operand) (ho : o.op = .makeSlice t l c) {m : Nat}
    (hl : a.eval l = .int .i64 (m : Int)) (hc : a.eval c = .int .i64 (m : Int)) (hm : bytes * m ≤ 281474976710656) (h63 : m ≤ 9223372036854775807)
    (h : ∀ w', Fil n f d e w' w.heap.size m [] → Kp No w w' → w'.heap.size = w.heap.size + 1 → wpList P ops Q rest (a.put o.dst (.slice (some ⟨w.heap.size, 0, none⟩) m m)) w') : wpList P ops Q (o :: rest) a w := by
  refine wpList_plain hg fun K hK => ?_
  unfold Oper.wp
  simp only [execOp, ho, hl, hc, Sem.run_bind, run_rowm u w hm h63, Result.andThen_ok]
  exact hK _ _ (h _ (Fil.new w e (by rw [size_madeCells])) ((Kp.refl No w).alloc _) (by simp))
end
end Go.Proofs.YthhikjgaljkfpaaDoor
