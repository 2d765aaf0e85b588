/-
  The walk of LeUnlike.
-/
import Derived.Test.YtbcekjnemigkkaaLeAwake
import Derived.Test.YtbcekjnemigkkaaArgs
namespace Go.Proofs.Ytbcekjnemigkkaa
open Go.RowKit

set_option maxHeartbeats 1000000 in
theorem leUnlike_walk (w : World) (a b x : Int) (ha : 0 ≤ a ∧ a ≤ 18446744073709551615) (hb : 0 ≤ b ∧ b ≤ 18446744073709551615) (_ : -9223372036854775808 ≤ x ∧ x ≤ 9223372036854775807) :
    Calls Try.prog 6 #[.int .u64 a, .int .u64 b, .int .i64 x] w fun e w' => e = .returned (.bool true) ∧ Kp No w w' := by
  have hh := hw_bd x
  go_enter Try.func6, Try.ntmps6
  go_wp2_with fail
  refine (awake_any _).mono ?_
  rintro e w1 ⟨rfl, k1⟩
  have K1 := hid k1
  clear k1
  go_wp2_with fail
  refine (put_any (S := Anyb) _ [] a x _ (Byt.nil _ _) ha (by simp)).mono ?_
  rintro e w2 ⟨v2, rfl, o2, k2⟩
  have K2 := hid (K1.out.trans k2)
  have O2 := hid (o2.byt (P := Anyb) fun _ _ => trivial)
  obtain ⟨A2, c2, rfl⟩ := o2.formN (n := hw x) (by simp [dg_len])
  clear o2 k2 K1
  go_wp2_with fail
  refine (put_any (S := Anyb) _ [] b x _ (Byt.nil _ _) hb (by simp)).mono ?_
  rintro e w3 ⟨v3, rfl, o3, k3⟩
  have K3 := hid (K2.out.trans k3)
  have O2 := hid (O2.out.kp0 k3)
  have O3 := hid (o3.byt (P := Anyb) fun _ _ => trivial)
  obtain ⟨A3, c3, rfl⟩ := o3.formN (n := hw x) (by simp [dg_len])
  clear o3 k3 K2
  have hdg := dg_eq (hw x) a b
  obtain ⟨m, hm⟩ : ∃ m, hw x = m := ⟨_, rfl⟩
  rw [hm] at hh O2 O3 hdg ⊢
  clear hm
  rw [List.nil_append] at O2 O3
  have hlen : ((m : Int) != (m : Int)) = false := by simp
  rcases (show m = 1 ∨ m = 2 ∨ m = 3 ∨ m = 4 ∨ m = 5 ∨ m = 6 ∨ m = 7 ∨ m = 8 from by omega) with rfl | rfl | rfl | rfl | rfl | rfl | rfl | rfl
  · simp only [pw] at hdg
    have HD := hid hdg
    clear hh hlen hdg
    by_cases hs : a % 256 = b % 256
    · have hs1 : (a % 256 == b % 256) = true := by simp [hs]
      have hd : dg a 1 = dg b 1 := HD.out.2 (by simp [hs])
      have HD2 := hid hd
      clear hd hs HD
      go_wp2_with fail
      go_quiet (fail)
      go_wp2_with fail
      refine (same_any _ _ _ _ _ (by exact O2.out.kp0 ((Kp.refl No _).drewN _)) (by exact O3.out.kp0 ((Kp.refl No _).drewN _))).mono ?_
      rintro e w4 ⟨rfl, q, rfl⟩
      rw [decide_eq_true HD2.out]
      go_wp2_with fail
      go_ret
      exact ⟨rfl, K3.out.drewN _⟩
    · have hs1 : (a % 256 == b % 256) = false := by simp [hs]
      have hd : ¬ dg a 1 = dg b 1 := fun h => hs (by have := HD.out.1 h; omega)
      have HD2 := hid hd
      clear hd hs HD
      go_wp2_with fail
      go_quiet (fail)
      go_wp2_with fail
      refine (same_any _ _ _ _ _ (by exact O2.out.kp0 ((Kp.refl No _).drewN _)) (by exact O3.out.kp0 ((Kp.refl No _).drewN _))).mono ?_
      rintro e w4 ⟨rfl, q, rfl⟩
      rw [decide_eq_false HD2.out]
      go_wp2_with fail
      go_ret
      exact ⟨rfl, K3.out.drewN _⟩
  · simp only [pw] at hdg
    have HD := hid hdg
    clear hh hlen hdg
    by_cases hs : a % 65536 = b % 65536
    · have hs1 : (a % 65536 == b % 65536) = true := by simp [hs]
      have hd : dg a 2 = dg b 2 := HD.out.2 (by simp [hs])
      have HD2 := hid hd
      clear hd hs HD
      go_wp2_with fail
      go_quiet (fail)
      go_wp2_with fail
      refine (same_any _ _ _ _ _ (by exact O2.out.kp0 ((Kp.refl No _).drewN _)) (by exact O3.out.kp0 ((Kp.refl No _).drewN _))).mono ?_
      rintro e w4 ⟨rfl, q, rfl⟩
      rw [decide_eq_true HD2.out]
      go_wp2_with fail
      go_ret
      exact ⟨rfl, K3.out.drewN _⟩
    · have hs1 : (a % 65536 == b % 65536) = false := by simp [hs]
      have hd : ¬ dg a 2 = dg b 2 := fun h => hs (by have := HD.out.1 h; omega)
      have HD2 := hid hd
      clear hd hs HD
      go_wp2_with fail
      go_quiet (fail)
      go_wp2_with fail
      refine (same_any _ _ _ _ _ (by exact O2.out.kp0 ((Kp.refl No _).drewN _)) (by exact O3.out.kp0 ((Kp.refl No _).drewN _))).mono ?_
      rintro e w4 ⟨rfl, q, rfl⟩
      rw [decide_eq_false HD2.out]
      go_wp2_with fail
      go_ret
      exact ⟨rfl, K3.out.drewN _⟩
  · simp only [pw] at hdg
    have HD := hid hdg
    clear hh hlen hdg
    by_cases hs : a % 16777216 = b % 16777216
    · have hs1 : (a % 16777216 == b % 16777216) = true := by simp [hs]
      have hd : dg a 3 = dg b 3 := HD.out.2 (by simp [hs])
      have HD2 := hid hd
      clear hd hs HD
      go_wp2_with fail
      go_quiet (fail)
      go_wp2_with fail
      refine (same_any _ _ _ _ _ (by exact O2.out.kp0 ((Kp.refl No _).drewN _)) (by exact O3.out.kp0 ((Kp.refl No _).drewN _))).mono ?_
      rintro e w4 ⟨rfl, q, rfl⟩
      rw [decide_eq_true HD2.out]
      go_wp2_with fail
      go_ret
      exact ⟨rfl, K3.out.drewN _⟩
    · have hs1 : (a % 16777216 == b % 16777216) = false := by simp [hs]
      have hd : ¬ dg a 3 = dg b 3 := fun h => hs (by have := HD.out.1 h; omega)
      have HD2 := hid hd
      clear hd hs HD
      go_wp2_with fail
      go_quiet (fail)
      go_wp2_with fail
      refine (same_any _ _ _ _ _ (by exact O2.out.kp0 ((Kp.refl No _).drewN _)) (by exact O3.out.kp0 ((Kp.refl No _).drewN _))).mono ?_
      rintro e w4 ⟨rfl, q, rfl⟩
      rw [decide_eq_false HD2.out]
      go_wp2_with fail
      go_ret
      exact ⟨rfl, K3.out.drewN _⟩
  · simp only [pw] at hdg
    have HD := hid hdg
    clear hh hlen hdg
    by_cases hs : a % 4294967296 = b % 4294967296
    · have hs1 : (a % 4294967296 == b % 4294967296) = true := by simp [hs]
      have hd : dg a 4 = dg b 4 := HD.out.2 (by simp [hs])
      have HD2 := hid hd
      clear hd hs HD
      go_wp2_with fail
      go_quiet (fail)
      go_wp2_with fail
      refine (same_any _ _ _ _ _ (by exact O2.out.kp0 ((Kp.refl No _).drewN _)) (by exact O3.out.kp0 ((Kp.refl No _).drewN _))).mono ?_
      rintro e w4 ⟨rfl, q, rfl⟩
      rw [decide_eq_true HD2.out]
      go_wp2_with fail
      go_ret
      exact ⟨rfl, K3.out.drewN _⟩
    · have hs1 : (a % 4294967296 == b % 4294967296) = false := by simp [hs]
      have hd : ¬ dg a 4 = dg b 4 := fun h => hs (by have := HD.out.1 h; omega)
      have HD2 := hid hd
      clear hd hs HD
      go_wp2_with fail
      go_quiet (fail)
      go_wp2_with fail
      refine (same_any _ _ _ _ _ (by exact O2.out.kp0 ((Kp.refl No _).drewN _)) (by exact O3.out.kp0 ((Kp.refl No _).drewN _))).mono ?_
      rintro e w4 ⟨rfl, q, rfl⟩
      rw [decide_eq_false HD2.out]
      go_wp2_with fail
      go_ret
      exact ⟨rfl, K3.out.drewN _⟩
  · simp only [pw] at hdg
    have HD := hid hdg
    clear hh hlen hdg
    by_cases hs : a % 1099511627776 = b % 1099511627776
    · have hs1 : (a % 1099511627776 == b % 1099511627776) = true := by simp [hs]
      have hd : dg a 5 = dg b 5 := HD.out.2 (by simp [hs])
      have HD2 := hid hd
      clear hd hs HD
      go_wp2_with fail
      go_quiet (fail)
      go_wp2_with fail
      refine (same_any _ _ _ _ _ (by exact O2.out.kp0 ((Kp.refl No _).drewN _)) (by exact O3.out.kp0 ((Kp.refl No _).drewN _))).mono ?_
      rintro e w4 ⟨rfl, q, rfl⟩
      rw [decide_eq_true HD2.out]
      go_wp2_with fail
      go_ret
      exact ⟨rfl, K3.out.drewN _⟩
    · have hs1 : (a % 1099511627776 == b % 1099511627776) = false := by simp [hs]
      have hd : ¬ dg a 5 = dg b 5 := fun h => hs (by have := HD.out.1 h; omega)
      have HD2 := hid hd
      clear hd hs HD
      go_wp2_with fail
      go_quiet (fail)
      go_wp2_with fail
      refine (same_any _ _ _ _ _ (by exact O2.out.kp0 ((Kp.refl No _).drewN _)) (by exact O3.out.kp0 ((Kp.refl No _).drewN _))).mono ?_
      rintro e w4 ⟨rfl, q, rfl⟩
      rw [decide_eq_false HD2.out]
      go_wp2_with fail
      go_ret
      exact ⟨rfl, K3.out.drewN _⟩
  · simp only [pw] at hdg
    have HD := hid hdg
    clear hh hlen hdg
    by_cases hs : a % 281474976710656 = b % 281474976710656
    · have hs1 : (a % 281474976710656 == b % 281474976710656) = true := by simp [hs]
      have hd : dg a 6 = dg b 6 := HD.out.2 (by simp [hs])
      have HD2 := hid hd
      clear hd hs HD
      go_wp2_with fail
      go_quiet (fail)
      go_wp2_with fail
      refine (same_any _ _ _ _ _ (by exact O2.out.kp0 ((Kp.refl No _).drewN _)) (by exact O3.out.kp0 ((Kp.refl No _).drewN _))).mono ?_
      rintro e w4 ⟨rfl, q, rfl⟩
      rw [decide_eq_true HD2.out]
      go_wp2_with fail
      go_ret
      exact ⟨rfl, K3.out.drewN _⟩
    · have hs1 : (a % 281474976710656 == b % 281474976710656) = false := by simp [hs]
      have hd : ¬ dg a 6 = dg b 6 := fun h => hs (by have := HD.out.1 h; omega)
      have HD2 := hid hd
      clear hd hs HD
      go_wp2_with fail
      go_quiet (fail)
      go_wp2_with fail
      refine (same_any _ _ _ _ _ (by exact O2.out.kp0 ((Kp.refl No _).drewN _)) (by exact O3.out.kp0 ((Kp.refl No _).drewN _))).mono ?_
      rintro e w4 ⟨rfl, q, rfl⟩
      rw [decide_eq_false HD2.out]
      go_wp2_with fail
      go_ret
      exact ⟨rfl, K3.out.drewN _⟩
  · simp only [pw] at hdg
    have HD := hid hdg
    clear hh hlen hdg
    by_cases hs : a % 72057594037927936 = b % 72057594037927936
    · have hs1 : (a % 72057594037927936 == b % 72057594037927936) = true := by simp [hs]
      have hd : dg a 7 = dg b 7 := HD.out.2 (by simp [hs])
      have HD2 := hid hd
      clear hd hs HD
      go_wp2_with fail
      go_quiet (fail)
      go_wp2_with fail
      refine (same_any _ _ _ _ _ (by exact O2.out.kp0 ((Kp.refl No _).drewN _)) (by exact O3.out.kp0 ((Kp.refl No _).drewN _))).mono ?_
      rintro e w4 ⟨rfl, q, rfl⟩
      rw [decide_eq_true HD2.out]
      go_wp2_with fail
      go_ret
      exact ⟨rfl, K3.out.drewN _⟩
    · have hs1 : (a % 72057594037927936 == b % 72057594037927936) = false := by simp [hs]
      have hd : ¬ dg a 7 = dg b 7 := fun h => hs (by have := HD.out.1 h; omega)
      have HD2 := hid hd
      clear hd hs HD
      go_wp2_with fail
      go_quiet (fail)
      go_wp2_with fail
      refine (same_any _ _ _ _ _ (by exact O2.out.kp0 ((Kp.refl No _).drewN _)) (by exact O3.out.kp0 ((Kp.refl No _).drewN _))).mono ?_
      rintro e w4 ⟨rfl, q, rfl⟩
      rw [decide_eq_false HD2.out]
      go_wp2_with fail
      go_ret
      exact ⟨rfl, K3.out.drewN _⟩
  · simp only [pw] at hdg
    have HD := hid hdg
    clear hh hlen hdg
    by_cases hs : a = b
    · have hs1 : (a == b) = true := by simp [hs]
      have hd : dg a 8 = dg b 8 := HD.out.2 (by simp [hs])
      have HD2 := hid hd
      clear hd hs HD
      go_wp2_with fail
      refine (same_any _ _ _ _ _ O2.out O3.out).mono ?_
      rintro e w4 ⟨rfl, q, rfl⟩
      rw [decide_eq_true HD2.out]
      go_wp2_with fail
      go_ret
      exact ⟨rfl, K3.out.drewN _⟩
    · have hs1 : (a == b) = false := by simp [hs]
      have hd : ¬ dg a 8 = dg b 8 := fun h => hs (by have := HD.out.1 h; omega)
      have HD2 := hid hd
      clear hd hs HD
      go_wp2_with fail
      refine (same_any _ _ _ _ _ O2.out O3.out).mono ?_
      rintro e w4 ⟨rfl, q, rfl⟩
      rw [decide_eq_false HD2.out]
      go_wp2_with fail
      go_ret
      exact ⟨rfl, K3.out.drewN _⟩
end Go.Proofs.Ytbcekjnemigkkaa
