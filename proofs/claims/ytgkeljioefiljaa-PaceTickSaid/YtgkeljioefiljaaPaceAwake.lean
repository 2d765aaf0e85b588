/-
  Contract: awake, the chapter's examples.
-/
import Derived.Test.YtgkeljioefiljaaPaceC
import Derived.Laws.StructEq
namespace Go.Proofs.Ytgkeljioefiljaa
open Go.RowKit

theorem awake_any (w : World) : Calls Try.prog 10 #[] w fun e w' => e = .returned (.bool true) ∧ Kp No w w' := by
  go_enter Try.func10, Try.ntmps10
  go_wp2_with fail
  refine (run_any 0 0 3 1 _ (by decide)).mono ?_
  rintro e w1 ⟨rfl, k1⟩
  have K1 := hid k1
  have e1 : (0 : Int) + (1048576 * tk 1 + 0) / wt 3 = 349525 := by decide
  have e2 : (1048576 * tk 1 + 0) % wt 3 = 1 := by decide
  rw [e1, e2]
  clear k1 e1 e2
  go_wp2_with fail
  refine (run_any 0 0 3 3 _ (by decide)).mono ?_
  rintro e w2 ⟨rfl, k2⟩
  have K2 := hid k2
  have e1 : (0 : Int) + (1048576 * tk 3 + 0) / wt 3 = 1048576 := by decide
  have e2 : (1048576 * tk 3 + 0) % wt 3 = 0 := by decide
  rw [e1, e2]
  have B2 := (Blk.new w1 23 #[.int .i64 349525, .int .i64 1]).kp k2 fun h => h
  have c0 := B2.cell 0
  have c1 := B2.cell 1
  have lt := B2.lt
  simp at c0 c1
  have HB := hid B2
  clear k2 e1 e2 B2
  go_wp2_with fail
  refine (done_any 1048576 0 3 3145728 _ (by decide) (by omega) (by omega) (by omega) (by omega)).mono ?_
  rintro e w3 ⟨rfl, k3⟩
  have B3 := (HB.out.kp ((Kp.refl No w2).alloc _) fun h => h).kp k3 fun h => h
  have K3 := hid (((K1.out.alloc _).trans (K2.out.alloc _)).trans k3)
  have c0 := B3.cell 0
  have c1 := B3.cell 1
  have lt := B3.lt
  simp at c0 c1
  rw [show ((3145728 : Int) + 0) / 1048576 = 3 by decide]
  clear k3 B3 HB K1 K2
  go_wp2_with fail
  refine (right_any 349525 1 3 _).mono ?_
  rintro e w4 ⟨rfl, k4⟩
  rw [show can 349525 1 3 = true by decide]
  have K4 := hid (K3.out.trans k4)
  clear k4 c0 c1 lt K3
  go_wp2_with fail
  go_ret
  exact ⟨rfl, K4.out⟩
end Go.Proofs.Ytgkeljioefiljaa
