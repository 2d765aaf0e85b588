/-
  Two structs of three cells, kept; laws on what is left.
-/
import Derived.Test.YtnlehhmogdencaaBandG
namespace Go.Proofs.Ytnlehhmogdencaa
open Go.RowKit

/-- Two structs of three cells. -/
structure Pr (a : World) (g h : Nat) (x y z x' y' z' : Value) (w : World) : Prop where
  kept : Kp No a w
  one : Blk w g 23 #[x, y, z]
  two : Blk w h 23 #[x', y', z']
section
variable {a w w' : World} {g h : Nat} {x y z x' y' z' : Value}
theorem Pr.kp (b : Pr a g h x y z x' y' z' w) (k : Kp No w w') : Pr a g h x y z x' y' z' w' := ⟨b.kept.trans k, b.one.kp0 k, b.two.kp0 k⟩
theorem Pr.cells (b : Pr a g h x y z x' y' z' w) : w.cell? ⟨g, 0, none⟩ = some x ∧ w.cell? ⟨g, 1, none⟩ = some y ∧ w.cell? ⟨g, 2, none⟩ = some z ∧ w.cell? ⟨h, 0, none⟩ = some x' ∧ w.cell? ⟨h, 1, none⟩ = some y' ∧ w.cell? ⟨h, 2, none⟩ = some z' ∧ g < w.heap.size ∧ h < w.heap.size :=
  ⟨b.one.cell 0, b.one.cell 1, b.one.cell 2, b.two.cell 0, b.two.cell 1, b.two.cell 2, b.one.lt, b.two.lt⟩
end
theorem lf_zero {q u : Int} : (lf q u == 0) = true ↔ q ≠ 0 ∧ q ≤ u := by
  unfold lf
  split
  · simp; omega
  · split <;> simp <;> omega
theorem lf_false {q u : Int} : (lf q u == 0) = false ↔ q = 0 ∨ u < q := by
  rw [← Bool.not_eq_true, lf_zero]
  omega
end Go.Proofs.Ytnlehhmogdencaa
