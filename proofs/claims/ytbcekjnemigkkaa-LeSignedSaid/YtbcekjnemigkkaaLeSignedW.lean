/-
  The walk of LeSigned.
-/
import Derived.Test.YtbcekjnemigkkaaLeAwake
import Derived.Test.YtbcekjnemigkkaaArgs
namespace Go.Proofs.Ytbcekjnemigkkaa
open Go.RowKit

set_option maxHeartbeats 1000000 in
theorem leSigned_walk (w : World) (n x : Int) (hn : 0 ≤ n ∧ n ≤ 18446744073709551615) (_ : -9223372036854775808 ≤ x ∧ x ≤ 9223372036854775807) :
    Calls Try.prog 9 #[.int .u64 n, .int .i64 x] w fun e w' => e = .returned (.bool true) ∧ Kp No w w' := by
  have hh := hw_bd x
  go_enter Try.func9, Try.ntmps9
  go_wp2_with fail
  refine (awake_any _).mono ?_
  rintro e w1 ⟨rfl, k1⟩
  have K1 := hid k1
  clear k1
  go_wp2_with fail
  refine (put_any (S := Anyb) _ [] n x _ (Byt.nil _ _) hn (by simp)).mono ?_
  rintro e w2 ⟨v2, rfl, o2, k2⟩
  have K2 := hid (K1.out.trans k2)
  have O2 := hid (o2.byt (P := Anyb) fun _ _ => trivial)
  obtain ⟨A2, c2, rfl⟩ := o2.formN (n := hw x) (by simp [dg_len])
  clear o2 k2 K1
  go_wp2_with fail
  refine (sign_any n x _ hn).mono ?_
  rintro e w3 ⟨rfl, rfl⟩
  obtain ⟨k, hk⟩ : ∃ k, hw x = k + 1 := ⟨hw x - 1, by omega⟩
  have HM := hid hk
  rw [hk] at hh O2 ⊢
  rw [List.nil_append] at O2
  clear hk
  have hb := O2.out
  obtain ⟨A', c', he, hc, hmx, hx, hr⟩ := hb
  rw [dg_len] at he hc hr
  obtain ⟨b, o, rfl, hblk, _, hcell⟩ := hr (by omega)
  injection he with e1 _ e3
  subst e1 e3
  have hc1 := hcell k (by omega)
  have e1 : (dg n (k + 1)).getD k 0 = sr n k % 256 := by
    rw [dg_snoc]
    simp [List.getD, dg_len]
  rw [e1] at hc1
  clear e1 hcell hr hx
  have hbit := high_bit n k (by omega)
  obtain ⟨h, hh'⟩ : ∃ h, sr n k % 256 = h := ⟨_, rfl⟩
  have hh2 : 0 ≤ h ∧ h ≤ 255 := by omega
  rw [hh'] at hc1 hbit
  clear hh'
  have hsb := sg_facts n (k + 1) (by omega)
  have hneg := sg_neg n (k + 1)
  obtain ⟨s, hs⟩ : ∃ s, sg n (k + 1) = s := ⟨_, rfl⟩
  have HS := hid hs
  have HB := hid hsb
  rw [hs] at hneg ⊢
  have hhigh : decide (128 ≤ h) = decide (s < 0) := by
    rw [decide_eq_decide, hneg]
    exact hbit
  have HH := hid hhigh
  clear hs hsb hneg hbit hhigh
  unfold maxLen at hmx
  rcases (show k = 0 ∨ k = 1 ∨ k = 2 ∨ k = 3 ∨ k = 4 ∨ k = 5 ∨ k = 6 ∨ k = 7 from by omega) with rfl | rfl | rfl | rfl | rfl | rfl | rfl | rfl
  all_goals
    try rw [Nat.add_zero] at hc1
    go_wp2_with fail
    refine (number_any _ _ _ O2.out (by rw [dg_len]; omega)).mono ?_
    rintro e w4 ⟨rfl, rfl⟩
    go_wp2_with fail
    refine (sign_any _ x _ (num_dg_bd _ _ (by omega))).mono ?_
    rintro e w4 ⟨rfl, rfl⟩
    rw [HM.out, HB.out.2.2.1, HS.out]
    go_wp2_with fail
    refine (put_any (S := Anyb) _ [] _ x _ (Byt.nil _ _) (by rw [u64w]; omega) (by simp)).mono ?_
    rintro e w5 ⟨v5, rfl, o5, k5⟩
    rw [HM.out, List.nil_append] at o5
    have h5 := HB.out.2.2.2
    rw [HS.out] at h5
    rw [h5] at o5
    have O5 := hid (o5.byt (P := Anyb) fun _ _ => trivial)
    have O2 := hid (O2.out.kp0 k5)
    have K5 := hid (K2.out.trans k5)
    clear o5 k5 h5 K2
    go_wp2_with fail
    refine (same_any _ _ _ _ _ O5.out O2.out).mono ?_
    rintro e w6 ⟨rfl, q, rfl⟩
    rw [decide_eq_true rfl]
    have K6 := hid (K5.out.drewN q)
    have hb1 := HB.out.1
    have hb2 := HB.out.2.1
    have hq := tdiv2 s
    rw [HS.out] at hb1 hb2
    simp only [pw] at hb1 hb2
    clear O5 O2 K5 HB HM hc1 hblk
    by_cases hs0 : s < 0
    · have hd1 : decide (s < 0) = true := by simp [hs0]
      have hd2 : decide (128 ≤ h) = true := by rw [HH.out]; exact hd1
      go_wp2
      all_goals first
        | (exfalso; omega)
        | (go_ret; refine ⟨?_, K6.out⟩; first | rfl | exact congrArg (fun b => Ending.returned (Value.bool b)) (decide_eq_true (by omega)))
    · have hd1 : decide (s < 0) = false := by simp [hs0]
      have hd2 : decide (128 ≤ h) = false := by rw [HH.out]; exact hd1
      have hs1 : 0 ≤ s := by omega
      have hq2 := tdiv2_pos s hs1
      go_wp2
      all_goals first
        | (exfalso; omega)
        | (go_ret; refine ⟨?_, K6.out⟩; first | rfl | exact congrArg (fun b => Ending.returned (Value.bool b)) (decide_eq_true (by omega)))
end Go.Proofs.Ytbcekjnemigkkaa
