/-
  The walk of BandWhole.
-/
import Derived.Test.YtnlehhmogdencaaBandG
namespace Go.Proofs.Ytnlehhmogdencaa
open Go.RowKit

theorem bandWhole_walk (w : World) (a n t : Int) (ha : 0 ≤ a ∧ a ≤ 65535) (hn : 0 ≤ n ∧ n ≤ 65535) (ht : 0 ≤ t ∧ t ≤ 4294967295) :
    Calls Try.prog 9 #[.int .u16 a, .int .u16 n, .int .u32 t] w fun e w' => e = .returned (.bool true) ∧ Kp No w w' := by
  obtain ⟨p, hp⟩ : ∃ p, 1 + a = p := ⟨_, rfl⟩
  have p0 : 1 ≤ p := by omega
  have p1 : p ≤ 65536 := by omega
  have wa : IntKind.i64.wrap a = a := wrapI ⟨by omega, by omega⟩
  have wn : IntKind.i64.wrap n = n := wrapI ⟨by omega, by omega⟩
  have wt : IntKind.i64.wrap t = t := wrapI ⟨by omega, by omega⟩
  have wp : IntKind.i64.wrap (1 + a) = p := by rw [hp]; exact wrapI ⟨by omega, by omega⟩
  obtain ⟨M, hM⟩ : ∃ M, p * n = M := ⟨_, rfl⟩
  have m0 : 0 ≤ M := by rw [← hM]; exact Int.mul_nonneg (by omega) hn.1
  have m1 : M ≤ 65536 * 65535 := by rw [← hM]; exact Int.mul_le_mul p1 hn.2 hn.1 (by omega)
  have w1 : IntKind.i64.wrap (p * n) = M := by rw [hM]; exact wrapI ⟨by omega, by omega⟩
  have w2 : IntKind.i64.wrap (M + p) = M + p := wrapI ⟨by omega, by omega⟩
  have w3 : IntKind.i64.wrap (M + p - 1) = M + p - 1 := wrapI ⟨by omega, by omega⟩
  have w4 : IntKind.i64.wrap (p - 1) = p - 1 := wrapI ⟨by omega, by omega⟩
  have w5 : IntKind.i64.wrap (n + 1) = n + 1 := wrapI ⟨by omega, by omega⟩
  have kt : tk t = t := tk_in (by omega) (by omega)
  have kM : tk M = M := tk_in (by omega) (by omega)
  have kP : tk (M + p - 1) = M + p - 1 := tk_in (by omega) (by omega)
  have kp : tk (p - 1) = p - 1 := tk_in (by omega) (by omega)
  have H1 := hid (show en p t M = n by
    unfold en
    rw [if_neg (by omega), kt, kM, ← hM, Int.add_mul_ediv_left t n (show p ≠ 0 by omega)]
    omega)
  obtain ⟨z, hz⟩ : ∃ z, en p t (M + p - 1) = z := ⟨_, rfl⟩
  have H2 := hid hz
  have hz1 : z ≤ n + 1 := by
    rw [← hz]
    unfold en
    rw [if_neg (by omega), kt, kP]
    have e : (t + (M + p - 1)) / p = n + (t + p - 1) / p := by
      rw [← hM, show t + (p * n + p - 1) = (t + p - 1) + p * n by omega, Int.add_mul_ediv_left _ n (show p ≠ 0 by omega)]
      omega
    have f : (t + p - 1) / p ≤ (t + p) / p := Int.ediv_le_ediv (by omega) (by omega)
    have g : (t + p) / p = t / p + 1 := by
      have := Int.add_mul_ediv_left t 1 (show p ≠ 0 by omega)
      rwa [Int.mul_one] at this
    omega
  have H3 := hid (show en p M (p - 1) = 0 by
    unfold en
    have e1 : M / p = n := by rw [← hM]; exact Int.mul_ediv_cancel_left n (by omega)
    have e2 : (M + (p - 1)) / p = n := by
      rw [← hM, show p * n + (p - 1) = (p - 1) + p * n by omega, Int.add_mul_ediv_left _ n (show p ≠ 0 by omega), Int.ediv_eq_zero_of_lt (by omega) (by omega)]
      omega
    rw [if_neg (by omega), kM, kp, e1, e2]
    omega)
  clear hz hM kt kM kP kp
  go_enter Try.func9, Try.ntmps9
  go_wp2_with fail
  refine (awake_any _).mono ?_
  rintro e v1 ⟨rfl, k1⟩
  have K1 := hid k1
  clear k1
  go_wp2_with fail
  refine (ends_any H1.out _).mono ?_
  rintro e v2 ⟨rfl, k2⟩
  have K2 := hid (K1.out.trans k2)
  clear k2 K1
  have s1 : (n == n) = true := by simp
  go_wp2_with fail
  refine (ends_any H2.out _).mono ?_
  rintro e v3 ⟨rfl, k3⟩
  have K3 := hid (K2.out.trans k3)
  clear k3 K2
  go_wp2_with fail
  refine (ends_any H3.out _).mono ?_
  rintro e v4 ⟨rfl, k4⟩
  have K4 := hid (K3.out.trans k4)
  clear k4 K3
  go_wp2_with fail
  go_ret
  exact ⟨rfl, K4.out⟩
end Go.Proofs.Ytnlehhmogdencaa
