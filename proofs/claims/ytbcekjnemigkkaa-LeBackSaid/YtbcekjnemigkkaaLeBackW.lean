/-
  The walk of LeBack.
-/
import Derived.Test.YtbcekjnemigkkaaLeAwake
import Derived.Test.YtbcekjnemigkkaaArgs
namespace Go.Proofs.Ytbcekjnemigkkaa
open Go.RowKit

set_option maxHeartbeats 1000000 in
theorem leBack_walk (w : World) (n x : Int) (v : Value) {ys : List Int} (hn : 0 ≤ n ∧ n ≤ 18446744073709551615) (_ : -9223372036854775808 ≤ x ∧ x ≤ 9223372036854775807) (hv : Byt w Anyb v ys) :
    Calls Try.prog 5 #[.int .u64 n, .int .i64 x, v] w fun e w' => e = .returned (.bool true) ∧ Kp No w w' := by
  have HV := hid hv
  obtain ⟨A, c, rfl, hc, hm, _, _⟩ := hv
  unfold maxLen at hm
  have hh := hw_bd x
  go_enter Try.func5, Try.ntmps5
  go_wp2_with fail
  refine (awake_any _).mono ?_
  rintro e w1 ⟨rfl, k1⟩
  have V1 := hid (HV.out.kp0 k1)
  have K1 := hid k1
  clear HV k1
  by_cases hbig : 200 < ys.length
  · go_wp2
    go_ret
    exact ⟨rfl, K1.out⟩
  · go_wp2_with fail
    refine (put_any (S := Anyb) _ [] n x _ (Byt.nil _ _) hn (by simp)).mono ?_
    rintro e w2 ⟨v2, rfl, o2, k2⟩
    rw [List.nil_append] at o2
    have K2 := hid (K1.out.trans k2)
    have V2 := hid (V1.out.kp0 k2)
    have O2 := hid (o2.byt (P := Anyb) fun _ _ => trivial)
    obtain ⟨A2, c2, rfl⟩ := o2.formN (n := hw x) (by simp [dg_len])
    clear o2 k2 K1 V1
    obtain ⟨m, hm2⟩ : ∃ m, hw x = m := ⟨_, rfl⟩
    have HM := hid hm2
    rw [hm2] at hh O2 ⊢
    clear hm2
    go_wp2_with (first
      | (at_builtin
         refine wp_app isU8 rfl (.tmp 20) (.tmp 21) rfl (base := w2.heap.size) (xs := []) (ys := dg n m) (by exact Own.mt _ _) (by exact O2.out.kp0 ((Kp.refl _ _).alloc _)) (by simp [dg_len]; omega) (by simp) ?_
         intro v3 w3 o3 k3
         have k3' := (Kp.refl No w2).alloc (.cells #[] 5) |>.step k3 fun i hi h => by omega
         rw [List.nil_append] at o3
         have O3 := hid o3
         have K3 := hid k3'
         have V3 := hid (V2.out.kp0 k3')
         clear o3 k3 k3' V2 O2)
      | (at_builtin
         refine wp_app isU8 rfl (.tmp 22) (.tmp 23) rfl (base := w2.heap.size) (xs := dg n m) (ys := ys) (by exact O3.out) (by exact V3.out) (by simp [dg_len]; omega) (by exact K3.out.size) ?_
         intro v4 w4 o4 k4
         have K4 := hid (K2.out.trans (K3.out.step k4 fun i hi h => by omega))
         have O4 := hid (o4.byt (P := Anyb) fun _ _ => trivial)
         clear o4 k4 K3 O3 V3 K2))
    refine (new_any v4 _ _ O4.out (by simp [dg_len]; omega)).mono ?_
    rintro e w5 ⟨g, rfl, hg, r5, k5⟩
    have R5 := hid r5
    have hg0 : w.heap.size ≤ g := Nat.le_trans K4.out.size hg
    have K5 := hid (K4.out.trans k5)
    clear r5 k5 K4 O4 hg
    go_wp2_with fail
    refine (take_any g _ 0 x _ R5.out).mono ?_
    rintro e w6 ⟨rfl, r6, k6⟩
    have K6 := hid (K5.out.step k6 fun i hi h => by have : i = g := h; omega)
    rw [HM.out] at r6 ⊢
    have p1 : nxP (dg n m ++ ys) 0 m = dg n m := by rw [nxP, if_pos ⟨rfl, by omega, by simp [dg_len]; omega⟩]; simp [dg_len]
    have p2 : nxR (dg n m ++ ys) 0 m = ys := by rw [nxR, if_pos ⟨rfl, by omega, by simp [dg_len]; omega⟩]; simp [dg_len]
    have p3 : nxE (dg n m ++ ys) 0 m = 0 := by rw [nxE, if_pos rfl, if_neg (by omega), if_neg (by simp [dg_len]; omega)]
    rw [p2, p3] at r6
    rw [p1, num_dg]
    have R6 := hid r6
    clear p1 p2 p3 r6 k6 K5 R5
    rcases (show m = 1 ∨ m = 2 ∨ m = 3 ∨ m = 4 ∨ m = 5 ∨ m = 6 ∨ m = 7 ∨ m = 8 from by omega) with rfl | rfl | rfl | rfl | rfl | rfl | rfl | rfl
    all_goals
      rw [show ∀ k, pw (k + 1) = 256 * pw k from fun _ => rfl]
      simp only [pw]
    all_goals
      go_wp2_with fail
    all_goals
      refine (left_any g _ _ _ R6.out).mono ?_
      rintro e w7 ⟨rfl, rfl⟩
      go_wp2_with fail
      refine (fail_any g _ _ _ R6.out).mono ?_
      rintro e w7 ⟨rfl, rfl⟩
      go_wp2_with fail
      refine (end_any g _ _ _ R6.out).mono ?_
      rintro e w7 ⟨rfl, rfl⟩
      by_cases h0 : ys.length = 0
      · have hz : enE ys.length 0 = 0 := by rw [h0]; rfl
        have h1 : ((ys.length : Int) == 0) = true := by simp [h0]
        rw [hz]
        clear hz h0
        go_wp2_with fail
        go_ret
        exact ⟨rfl, K6.out⟩
      · have hz : enE ys.length 0 = 3 := by simp [enE, h0]
        have h1 : ((ys.length : Int) == 0) = false := beq_eq_false_iff_ne.2 (by omega)
        rw [hz]
        clear hz
        go_wp2_with fail
        go_ret
        exact ⟨rfl, K6.out⟩
end Go.Proofs.Ytbcekjnemigkkaa
