/-
  Contract: awake, the chapter's examples.
-/
import Derived.Test.YtbcekjnemigkkaaLeC
import Derived.Test.YtbcekjnemigkkaaLeE
namespace Go.Proofs.Ytbcekjnemigkkaa
open Go.RowKit

theorem Kp.no_below {a w : World} (h : Kp No a w) : Below a.heap.size a w := h.below

theorem lit_byt (w : World) (e : TypeId) {P : Nat → Prop} (hP : P w.heap.size) (xs : List Int) (hx : ∀ x ∈ xs, 0 ≤ x ∧ x ≤ 255) (hl : xs.length ≤ 1000) :
    Byt (w.alloc (.cells (xs.map (Value.int .u8)).toArray e)) P (.slice (some ⟨w.heap.size, 0, none⟩) xs.length xs.length) xs :=
  ⟨some ⟨w.heap.size, 0, none⟩, xs.length, rfl, Nat.le_refl _, by unfold maxLen; omega, hx, fun _ => ⟨w.heap.size, 0, rfl, by simp, hP, fun j hj => by
    have := (Blk.new w e (xs.map (Value.int .u8)).toArray).cell j
    rw [Nat.zero_add, this]
    simp [List.getElem?_eq_getElem hj]⟩⟩

theorem awake_any (w : World) : Calls Try.prog 10 #[] w fun e w' => e = .returned (.bool true) ∧ Kp No w w' := by
  go_enter Try.func10, Try.ntmps10
  go_wp2_with fail
  refine (put_any (S := Anyb) _ [] 258 3 _ (Byt.nil _ _) (by omega) (by simp)).mono ?_
  rintro e w1 ⟨v1, rfl, o1, k1⟩
  have e1 : [] ++ dg 258 (hw 3) = [2, 1, 0] := by decide
  rw [e1] at o1
  have b1 := o1.byt (P := Anyb) fun _ _ => trivial
  have B1 := hid b1
  have K1 := hid k1
  clear b1 k1 e1 o1
  go_wp2_with fail
  refine (new_any v1 [2, 1, 0] _ B1.out (by simp)).mono ?_
  rintro e w2 ⟨g, rfl, hg, r2, k2⟩
  have hg0 : w.heap.size ≤ g := Nat.le_trans K1.out.size hg
  have B2 := hid (B1.out.old.kp k2 fun _ _ h => h)
  have R2 := hid r2
  have K2 := hid (K1.out.trans k2)
  clear B1 K1 r2 k2
  go_wp2_with fail
  refine (same_any _ _ [2, 1, 0] [2, 1, 0] _ (B2.out.kp ((Kp.refl No _).alloc _) fun _ _ h => h) (lit_byt (P := Anyb) _ _ trivial [2, 1, 0] (by decide) (by simp))).mono ?_
  rintro e w3 ⟨rfl, n, rfl⟩
  have R3 := hid (R2.out.kp (((Kp.refl No w2).alloc (.cells #[.int .u8 2, .int .u8 1, .int .u8 0] 5)).drewN n) fun _ _ h => h)
  have K3 := hid (K2.out.trans (((Kp.refl No w2).alloc (.cells #[.int .u8 2, .int .u8 1, .int .u8 0] 5)).drewN n))
  clear R2 K2 B2
  go_wp2_with fail
  refine (take_any g [2, 1, 0] 0 3 _ R3.out).mono ?_
  rintro e w4 ⟨rfl, r4, k4⟩
  have K4 := hid (K3.out.step k4 fun i hi h => by have : i = g := h; omega)
  have e4 : num (nxP [2, 1, 0] 0 (hw 3)) = 258 := by decide
  rw [e4]
  clear R3 K3 r4 k4 e4
  go_wp2_with fail
  refine (sign_any 255 1 _ (by omega)).mono ?_
  rintro e w5 ⟨rfl, rfl⟩
  have e5 : sg 255 (hw 1) = -1 := by decide
  rw [e5]
  clear e5
  go_wp2_with fail
  go_ret
  exact ⟨rfl, K4.out⟩
end Go.Proofs.Ytbcekjnemigkkaa
