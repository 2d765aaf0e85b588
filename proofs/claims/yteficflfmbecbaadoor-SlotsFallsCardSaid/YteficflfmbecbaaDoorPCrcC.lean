/-
  Contracts: the document's All, Over, Of, More, Zeros, Mend; awake, the chapter's examples.
-/
import Derived.Test.YteficflfmbecbaaDoorPCrcB
import Derived.Lib.SlBytesConst
namespace Go.Proofs.YteficflfmbecbaaDoor
open Go.RowKit

theorem lit_byt (w : World) (e : TypeId) (fr : Nat × Nat) {P : Nat → Prop} (hP : P w.heap.size) (xs : List Int) (hx : ∀ x ∈ xs, 0 ≤ x ∧ x ≤ 255) (hl : xs.length ≤ 1000) :
    Byt (w.alloc (.cells (xs.map (Value.int .u8)).toArray e fr)) P (.slice (some ⟨w.heap.size, 0, none⟩) xs.length xs.length) xs :=
  ⟨some ⟨w.heap.size, 0, none⟩, xs.length, rfl, Nat.le_refl _, by unfold maxLen; omega, hx, fun _ => ⟨w.heap.size, 0, rfl, by simp, hP, fun j hj => by
    rw [Nat.zero_add, World.cell?_alloc_mark]
    simp [List.getElem?_eq_getElem hj]⟩⟩

end Go.Proofs.YteficflfmbecbaaDoor
