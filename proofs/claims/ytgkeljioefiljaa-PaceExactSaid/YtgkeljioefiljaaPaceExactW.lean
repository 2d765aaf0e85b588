/-
  The walk of PaceExact.
-/
import Derived.Test.YtgkeljioefiljaaPaceD
namespace Go.Proofs.Ytgkeljioefiljaa
open Go.RowKit

theorem paceExact_walk (w : World) (x t : Int) (_ : I64 x) (ht : 0 ≤ t ∧ t ≤ 18446744073709551615) :
    Calls Try.prog 6 #[.int .i64 x, .int .u64 t] w fun e w' => e = .returned (.bool true) ∧ Kp No w w' := by
  obtain ⟨n, hn⟩ : ∃ n, t % 1099511627777 = n := ⟨_, rfl⟩
  have hn0 : 0 ≤ n := by omega
  have hn1 : n ≤ 1099511627776 := by omega
  have htk : tk n = n := by unfold tk; split <;> (try split) <;> omega
  have f1 : t.tmod 1099511627777 = n := by rw [Int.tmod_eq_emod_of_nonneg ht.1]; exact hn
  have f2 : IntKind.i64.wrap n = n := wrapI ⟨by omega, by omega⟩
  obtain ⟨W, hW⟩ : ∃ W, wt x = W := ⟨_, rfl⟩
  obtain ⟨hb1, hb2⟩ := wt_bd x
  rw [hW] at hb1 hb2
  obtain ⟨V, hV⟩ : ∃ V, 1048576 * n / W = V := ⟨_, rfl⟩
  obtain ⟨R, hR⟩ : ∃ R, 1048576 * n % W = R := ⟨_, rfl⟩
  have em : W * V + R = 1048576 * n := by rw [← hV, ← hR]; exact Int.mul_ediv_add_emod _ _
  have r0 : 0 ≤ R := by rw [← hR]; exact Int.emod_nonneg _ (by omega)
  have r1 : R < W := by rw [← hR]; exact Int.emod_lt_of_pos _ (by omega)
  have v0 : 0 ≤ V := by rw [← hV]; exact Int.ediv_nonneg (by omega) (by omega)
  have v1 : V ≤ 2305843009213693952 := by rw [← hV]; exact Int.le_trans (Int.ediv_le_self _ (by omega)) (by omega)
  have HC : Hid (can 0 0 x = true) := hid (can_iff.2 ⟨by omega, by omega, by omega, by omega⟩)
  have HV : Hid ((0 : Int) + (1048576 * tk n + 0) / wt x = V) := hid (by rw [htk, hW, ← hV]; simp)
  have HR : Hid ((1048576 * tk n + 0) % wt x = R) := hid (by rw [htk, hW, ← hR]; simp)
  have HE : Hid (can V R x = true) := hid (can_iff.2 ⟨v0, v1, r0, by omega⟩)
  have HD : Hid (wt x * V + R = 1048576 * n ∧ 0 ≤ n ∧ n ≤ 1099511627776 ∧ 0 ≤ R ∧ R ≤ 1048576 ∧ 0 ≤ V) := hid ⟨by rw [hW]; exact em, hn0, hn1, r0, by omega, v0⟩
  have f3 : IntKind.i64.wrap (1048576 * n) = 1048576 * n := wrapI ⟨by omega, by omega⟩
  have mv : 0 ≤ W * V := Int.mul_nonneg (by omega) v0
  have f4 : IntKind.i64.wrap (V * W) = V * W := wrapI (by rw [Int.mul_comm]; exact ⟨by omega, by omega⟩)
  have f5 : IntKind.i64.wrap (V * W + R) = 1048576 * n := by rw [Int.mul_comm, em]; exact f3
  have s1 : (1048576 * n == 1048576 * n) = true := by simp
  have s2 : (n == n) = true := by simp
  clear htk hV hR em mv hb1 hb2 r0 r1 v0 v1 hn
  rcases (show x ≤ 1 ∨ 1048576 < x ∨ (1 < x ∧ x ≤ 1048576) from by omega) with hh | hh | ⟨hh, hh'⟩
  · obtain rfl : W = 1 := by rw [← hW]; unfold wt; split <;> (try split) <;> omega
    clear hW
    rw [Int.mul_one] at f4 f5
    go_enter Try.func6, Try.ntmps6
    go_wp2_with fail
    refine (awake_any _).mono ?_
    rintro e w1 ⟨rfl, k1⟩
    have K1 := hid k1
    clear k1
    go_wp2_with fail
    refine (run_is HC.out HV.out HR.out).mono ?_
    rintro e w2 ⟨rfl, k2⟩
    have K2 := hid (K1.out.trans k2)
    clear k2 K1
    go_wp2_with fail
    refine (done_is HD.out.2.1 HD.out.2.2.1 HD.out.2.2.2.1 HD.out.2.2.2.2.1 HD.out.1 HD.out.2.2.2.2.2).mono ?_
    rintro e w3 ⟨rfl, k3⟩
    have B3 := hid ((Blk.new w2 _ _).kp0 k3)
    have K3 := hid ((K2.out.alloc _).trans k3)
    clear k3 K2
    obtain ⟨c0, c1, lt⟩ := B3.out.two
    go_wp2_with fail
    refine (right_is HE.out).mono ?_
    rintro e w4 ⟨rfl, k4⟩
    have K4 := hid (K3.out.trans k4)
    clear k4 K3 c0 c1 lt
    go_wp2_with fail
    go_ret
    exact ⟨rfl, K4.out⟩
  · obtain rfl : W = 1048576 := by rw [← hW]; unfold wt; split <;> (try split) <;> omega
    clear hW
    go_enter Try.func6, Try.ntmps6
    go_wp2_with fail
    refine (awake_any _).mono ?_
    rintro e w1 ⟨rfl, k1⟩
    have K1 := hid k1
    clear k1
    go_wp2_with fail
    refine (run_is HC.out HV.out HR.out).mono ?_
    rintro e w2 ⟨rfl, k2⟩
    have K2 := hid (K1.out.trans k2)
    clear k2 K1
    go_wp2_with fail
    refine (done_is HD.out.2.1 HD.out.2.2.1 HD.out.2.2.2.1 HD.out.2.2.2.2.1 HD.out.1 HD.out.2.2.2.2.2).mono ?_
    rintro e w3 ⟨rfl, k3⟩
    have B3 := hid ((Blk.new w2 _ _).kp0 k3)
    have K3 := hid ((K2.out.alloc _).trans k3)
    clear k3 K2
    obtain ⟨c0, c1, lt⟩ := B3.out.two
    go_wp2_with fail
    refine (right_is HE.out).mono ?_
    rintro e w4 ⟨rfl, k4⟩
    have K4 := hid (K3.out.trans k4)
    clear k4 K3 c0 c1 lt
    go_wp2_with fail
    go_ret
    exact ⟨rfl, K4.out⟩
  · obtain rfl : W = x := by rw [← hW]; unfold wt; split <;> (try split) <;> omega
    clear hW
    go_enter Try.func6, Try.ntmps6
    go_wp2_with fail
    refine (awake_any _).mono ?_
    rintro e w1 ⟨rfl, k1⟩
    have K1 := hid k1
    clear k1
    go_wp2_with fail
    refine (run_is HC.out HV.out HR.out).mono ?_
    rintro e w2 ⟨rfl, k2⟩
    have K2 := hid (K1.out.trans k2)
    clear k2 K1
    go_wp2_with fail
    refine (done_is HD.out.2.1 HD.out.2.2.1 HD.out.2.2.2.1 HD.out.2.2.2.2.1 HD.out.1 HD.out.2.2.2.2.2).mono ?_
    rintro e w3 ⟨rfl, k3⟩
    have B3 := hid ((Blk.new w2 _ _).kp0 k3)
    have K3 := hid ((K2.out.alloc _).trans k3)
    clear k3 K2
    obtain ⟨c0, c1, lt⟩ := B3.out.two
    go_wp2_with fail
    refine (right_is HE.out).mono ?_
    rintro e w4 ⟨rfl, k4⟩
    have K4 := hid (K3.out.trans k4)
    clear k4 K3 c0 c1 lt
    go_wp2_with fail
    go_ret
    exact ⟨rfl, K4.out⟩
end Go.Proofs.Ytgkeljioefiljaa
