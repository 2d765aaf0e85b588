/-
  The walk of LeSides.
-/
import Derived.Test.YtbcekjnemigkkaaLeAwake
import Derived.Test.YtbcekjnemigkkaaArgs
import Derived.Deep.RegionWith
namespace Go.Proofs.Ytbcekjnemigkkaa
open Go.RowKit

theorem hw_of (k : Nat) (h1 : 1 ≤ k) (h8 : k ≤ 8) : hw (k : Int) = k := by
  unfold hw
  split <;> (try split) <;> omega

theorem same_true {S T : Nat → Prop} {v u : Value} {xs : List Int} {w : World} (h : Byt w S v xs) (h' : Byt w T u xs) :
    Calls Try.prog 12 #[v, u] w fun e w' => e = .returned (.bool true) ∧ ∃ n, w' = w.drewN n :=
  (same_any v u xs xs w h h').mono fun e w' ⟨he, hw⟩ => ⟨by rw [he, decide_eq_true rfl], hw⟩
theorem end_is {g : Nat} {xs : List Int} {e r : Int} {w : World} (h : Rd w g xs e) (hr : enE xs.length e = r) :
    Calls Try.prog 23 #[.pointer (some ⟨g, 0, none⟩)] w fun r' w' => r' = .returned (.int .i64 r) ∧ w' = w :=
  (end_any g xs e w h).mono fun e' w' ⟨he, hw⟩ => ⟨by rw [he, hr], hw.symm⟩
theorem number_is {S : Nat → Prop} {v : Value} {xs : List Int} {r : Int} {w : World} (h : Byt w S v xs) (hl : xs.length ≤ 8) (hr : num xs = r) :
    Calls Try.prog 25 #[v] w fun e w' => e = .returned (.int .u64 r) ∧ w' = w :=
  (number_any v xs w h hl).mono fun e' w' ⟨he, hw⟩ => ⟨by rw [he, hr], hw.symm⟩

set_option maxHeartbeats 2000000 in
theorem leSides_walk (w : World) (n low high : Int) (hn : 0 ≤ n ∧ n ≤ 18446744073709551615) (hlow : 0 ≤ low ∧ low ≤ 255) (hhigh : 0 ≤ high ∧ high ≤ 255) :
    Calls Try.prog 7 #[.int .u64 n, .int .u8 low, .int .u8 high] w fun e w' => e = .returned (.bool true) ∧ Kp No w w' := by
  go_enter Try.func7, Try.ntmps7
  go_wp2_with fail
  refine (awake_any _).mono ?_
  rintro e w1 ⟨rfl, k1⟩
  have K1 := hid k1
  clear k1
  go_wp2_with fail
  obtain ⟨b, hb⟩ : ∃ b : Nat, 1 + high % 4 = (b : Int) := ⟨(1 + high % 4).toNat, by omega⟩
  have hb4 : 1 ≤ b ∧ b ≤ 4 := by omega
  rw [hb]
  clear hb hhigh
  rcases (show 1 + low % 4 = 1 ∨ 1 + low % 4 = 2 ∨ 1 + low % 4 = 3 ∨ 1 + low % 4 = 4 from by omega) with ha | ha | ha | ha
  · rw [ha]
    clear ha
    refine (put_any (S := Anyb) _ [] n _ _ (Byt.nil _ _) hn (by simp)).mono ?_
    rintro e w2 ⟨v2, rfl, o2, k2⟩
    rw [show (1 + (b : Int)) = ((1 + b : Nat) : Int) from by omega, hw_of (1 + b) (by omega) (by omega), List.nil_append] at o2
    have K2 := hid (K1.out.trans k2)
    have O2 := hid (o2.byt (P := Anyb) fun _ _ => trivial)
    obtain ⟨A2, c2, rfl⟩ := o2.formN (n := 1 + b) (by simp [dg_len])
    clear o2 k2 K1
    have hsh : 0 ≤ n / 256 ∧ n / 256 ≤ 18446744073709551615 := by omega
    go_wp2_with fail
    have hw8 : IntKind.i64.wrap 8 = 8 := by decide
    go_region_with (first
      | (go_at_call_of 13 (Value.slice none 0 0)
         refine (put_any (S := Anyb) _ [] n 1 _ (Byt.nil _ _) hn (by simp)).mono ?_
         rintro e w3 ⟨v3, rfl, o3, k3⟩
         have O3 := hid (o3.byt (P := Anyb) fun _ _ => trivial)
         have K3 := hid k3
         clear o3 k3)
      | (go_at_call 13
         refine (put_any _ _ (n / 256) (b : Int) _ O3.out hsh (by simp [dg_len]; have := hw_bd 1; omega)).mono ?_
         rintro e w4 ⟨v4, rfl, o4, k4⟩
         have O4 := hid (o4.byt (P := Anyb) fun _ _ => trivial)
         have K4 := hid (K3.out.trans k4)
         clear o4 k4))
    clear hw8
    have K5 := hid (((Kp.refl No w2).drew).trans K4.out)
    have O5 := hid (O2.out.kp0 K5.out)
    have Y5 := O4.out
    rw [show hw 1 = 1 from rfl, List.nil_append, hw_of b (by omega) (by omega), show n / 256 = sr n 1 from by rw [sr_eq, show pw 1 = 256 from rfl], ← dg_add] at Y5
    have Y := hid Y5
    have K6 := hid (K2.out.trans K5.out)
    clear Y5 O3 O4 K3 K4 O2 K5 K2
    go_wp2_with fail
    refine (new_any _ _ _ O5.out (by simp [dg_len]; omega)).mono ?_
    rintro e w7 ⟨g, rfl, hg, r7, k7⟩
    have R7 := hid r7
    have hg0 : w.heap.size ≤ g := Nat.le_trans K6.out.size hg
    have K7 := hid (K6.out.trans k7)
    have hg1 : w4.heap.size ≤ g := hg
    have O7 := hid (O5.out.old.kp0 k7)
    have Y7 := hid (Y.out.old.kp0 k7)
    clear r7 k7 K6 hg O5 Y
    go_wp2_with fail
    refine (take_any g _ 0 1 _ R7.out).mono ?_
    rintro e w8 ⟨rfl, r8, k8⟩
    rw [show hw 1 = 1 from rfl] at r8 ⊢
    have p1 : nxP (dg n (1 + b)) 0 ((1 : Nat) : Int) = dg n 1 := by rw [nxP, if_pos ⟨rfl, by omega, by simp [dg_len]; omega⟩, dg_add]; simp [dg_len]
    have p2 : nxR (dg n (1 + b)) 0 ((1 : Nat) : Int) = dg (sr n 1) b := by rw [nxR, if_pos ⟨rfl, by omega, by simp [dg_len]; omega⟩, dg_add]; simp [dg_len]
    have p3 : nxE (dg n (1 + b)) 0 ((1 : Nat) : Int) = 0 := by rw [nxE, if_pos rfl, if_neg (by omega), if_neg (by simp [dg_len]; omega)]
    rw [p2, p3] at r8
    rw [p1]
    have K8 := hid (K7.out.step k8 fun i hi h => by have : i = g := h; omega)
    have O8 := hid (O7.out.kp k8 fun i hi h => by have : i = g := h; have := hi.2; omega)
    have Y8 := hid (Y7.out.kp k8 fun i hi h => by have : i = g := h; have := hi.2; omega)
    have R8 := hid r8
    clear p1 p2 p3 r8 k8 K7 R7 O7 Y7
    go_wp2_with fail
    refine (take_any g _ 0 (b : Int) _ R8.out).mono ?_
    rintro e w9 ⟨rfl, r9, k9⟩
    rw [hw_of b (by omega) (by omega)] at r9 ⊢
    have p1 : nxP (dg (sr n 1) b) 0 (b : Int) = dg (sr n 1) b := by rw [nxP, if_pos ⟨rfl, by omega, by simp [dg_len]⟩]; simp [dg_len, List.take_of_length_le]
    have p2 : nxR (dg (sr n 1) b) 0 (b : Int) = [] := by rw [nxR, if_pos ⟨rfl, by omega, by simp [dg_len]⟩]; simp [dg_len]
    have p3 : nxE (dg (sr n 1) b) 0 (b : Int) = 0 := by rw [nxE, if_pos rfl, if_neg (by omega), if_neg (by simp [dg_len])]
    rw [p2, p3] at r9
    rw [p1]
    have K9 := hid (K8.out.step k9 fun i hi h => by have : i = g := h; omega)
    have O9 := hid (O8.out.kp k9 fun i hi h => by have : i = g := h; have := hi.2; omega)
    have Y9 := hid (Y8.out.kp k9 fun i hi h => by have : i = g := h; have := hi.2; omega)
    have R9 := hid r9
    clear p1 p2 p3 r9 k9 K8 R8 O8 Y8
    have hs := sides n 1 b (by omega) (by omega) (by omega) (by omega)
    rw [show pw 1 = 256 from rfl] at hs
    obtain ⟨P, hP⟩ : ∃ P, num (dg n 1) = P := ⟨_, rfl⟩
    obtain ⟨Q, hQ⟩ : ∃ Q, num (dg (sr n 1) b) = Q := ⟨_, rfl⟩
    obtain ⟨R, hR⟩ : ∃ R, num (dg n (1 + b)) = R := ⟨_, rfl⟩
    rw [hP, hQ, hR] at hs
    rw [hP, hQ]
    have HRR := hid hR
    have hrr : (R == R) = true := by simp
    have hw8 : IntKind.i64.wrap 8 = 8 := by decide
    clear hP hQ hR
    go_wp2_with fail
    go_quiet (first
      | (go_at_call 12; exact Calls.quiet_of (same_true (by exact O9.out.kp0 ((Kp.refl No _).drewN _)) (by exact Y9.out.kp0 ((Kp.refl No _).drewN _))))
      | (go_at_call 23; exact Calls.quiet_of_same (end_is (r := 0) (by exact R9.out.kp ((Kp.refl No _).drewN _) fun _ _ h => h) rfl))
      | (go_at_call 25; exact Calls.quiet_of_same (number_is (by exact O9.out.kp0 ((Kp.refl No _).drewN _)) (by rw [dg_len]; omega) HRR.out)))
    go_wp2_with fail
    go_ret
    exact ⟨rfl, K9.out.drewN _⟩
  · rw [ha]
    clear ha
    refine (put_any (S := Anyb) _ [] n _ _ (Byt.nil _ _) hn (by simp)).mono ?_
    rintro e w2 ⟨v2, rfl, o2, k2⟩
    rw [show (2 + (b : Int)) = ((2 + b : Nat) : Int) from by omega, hw_of (2 + b) (by omega) (by omega), List.nil_append] at o2
    have K2 := hid (K1.out.trans k2)
    have O2 := hid (o2.byt (P := Anyb) fun _ _ => trivial)
    obtain ⟨A2, c2, rfl⟩ := o2.formN (n := 2 + b) (by simp [dg_len])
    clear o2 k2 K1
    have hsh : 0 ≤ n / 65536 ∧ n / 65536 ≤ 18446744073709551615 := by omega
    go_wp2_with fail
    have hw8 : IntKind.i64.wrap 16 = 16 := by decide
    go_region_with (first
      | (go_at_call_of 13 (Value.slice none 0 0)
         refine (put_any (S := Anyb) _ [] n 2 _ (Byt.nil _ _) hn (by simp)).mono ?_
         rintro e w3 ⟨v3, rfl, o3, k3⟩
         have O3 := hid (o3.byt (P := Anyb) fun _ _ => trivial)
         have K3 := hid k3
         clear o3 k3)
      | (go_at_call 13
         refine (put_any _ _ (n / 65536) (b : Int) _ O3.out hsh (by simp [dg_len]; have := hw_bd 2; omega)).mono ?_
         rintro e w4 ⟨v4, rfl, o4, k4⟩
         have O4 := hid (o4.byt (P := Anyb) fun _ _ => trivial)
         have K4 := hid (K3.out.trans k4)
         clear o4 k4))
    clear hw8
    have K5 := hid (((Kp.refl No w2).drew).trans K4.out)
    have O5 := hid (O2.out.kp0 K5.out)
    have Y5 := O4.out
    rw [show hw 2 = 2 from rfl, List.nil_append, hw_of b (by omega) (by omega), show n / 65536 = sr n 2 from by rw [sr_eq, show pw 2 = 65536 from rfl], ← dg_add] at Y5
    have Y := hid Y5
    have K6 := hid (K2.out.trans K5.out)
    clear Y5 O3 O4 K3 K4 O2 K5 K2
    go_wp2_with fail
    refine (new_any _ _ _ O5.out (by simp [dg_len]; omega)).mono ?_
    rintro e w7 ⟨g, rfl, hg, r7, k7⟩
    have R7 := hid r7
    have hg0 : w.heap.size ≤ g := Nat.le_trans K6.out.size hg
    have K7 := hid (K6.out.trans k7)
    have hg1 : w4.heap.size ≤ g := hg
    have O7 := hid (O5.out.old.kp0 k7)
    have Y7 := hid (Y.out.old.kp0 k7)
    clear r7 k7 K6 hg O5 Y
    go_wp2_with fail
    refine (take_any g _ 0 2 _ R7.out).mono ?_
    rintro e w8 ⟨rfl, r8, k8⟩
    rw [show hw 2 = 2 from rfl] at r8 ⊢
    have p1 : nxP (dg n (2 + b)) 0 ((2 : Nat) : Int) = dg n 2 := by rw [nxP, if_pos ⟨rfl, by omega, by simp [dg_len]; omega⟩, dg_add]; simp [dg_len]
    have p2 : nxR (dg n (2 + b)) 0 ((2 : Nat) : Int) = dg (sr n 2) b := by rw [nxR, if_pos ⟨rfl, by omega, by simp [dg_len]; omega⟩, dg_add]; simp [dg_len]
    have p3 : nxE (dg n (2 + b)) 0 ((2 : Nat) : Int) = 0 := by rw [nxE, if_pos rfl, if_neg (by omega), if_neg (by simp [dg_len]; omega)]
    rw [p2, p3] at r8
    rw [p1]
    have K8 := hid (K7.out.step k8 fun i hi h => by have : i = g := h; omega)
    have O8 := hid (O7.out.kp k8 fun i hi h => by have : i = g := h; have := hi.2; omega)
    have Y8 := hid (Y7.out.kp k8 fun i hi h => by have : i = g := h; have := hi.2; omega)
    have R8 := hid r8
    clear p1 p2 p3 r8 k8 K7 R7 O7 Y7
    go_wp2_with fail
    refine (take_any g _ 0 (b : Int) _ R8.out).mono ?_
    rintro e w9 ⟨rfl, r9, k9⟩
    rw [hw_of b (by omega) (by omega)] at r9 ⊢
    have p1 : nxP (dg (sr n 2) b) 0 (b : Int) = dg (sr n 2) b := by rw [nxP, if_pos ⟨rfl, by omega, by simp [dg_len]⟩]; simp [dg_len, List.take_of_length_le]
    have p2 : nxR (dg (sr n 2) b) 0 (b : Int) = [] := by rw [nxR, if_pos ⟨rfl, by omega, by simp [dg_len]⟩]; simp [dg_len]
    have p3 : nxE (dg (sr n 2) b) 0 (b : Int) = 0 := by rw [nxE, if_pos rfl, if_neg (by omega), if_neg (by simp [dg_len])]
    rw [p2, p3] at r9
    rw [p1]
    have K9 := hid (K8.out.step k9 fun i hi h => by have : i = g := h; omega)
    have O9 := hid (O8.out.kp k9 fun i hi h => by have : i = g := h; have := hi.2; omega)
    have Y9 := hid (Y8.out.kp k9 fun i hi h => by have : i = g := h; have := hi.2; omega)
    have R9 := hid r9
    clear p1 p2 p3 r9 k9 K8 R8 O8 Y8
    have hs := sides n 2 b (by omega) (by omega) (by omega) (by omega)
    rw [show pw 2 = 65536 from rfl] at hs
    obtain ⟨P, hP⟩ : ∃ P, num (dg n 2) = P := ⟨_, rfl⟩
    obtain ⟨Q, hQ⟩ : ∃ Q, num (dg (sr n 2) b) = Q := ⟨_, rfl⟩
    obtain ⟨R, hR⟩ : ∃ R, num (dg n (2 + b)) = R := ⟨_, rfl⟩
    rw [hP, hQ, hR] at hs
    rw [hP, hQ]
    have HRR := hid hR
    have hrr : (R == R) = true := by simp
    have hw8 : IntKind.i64.wrap 16 = 16 := by decide
    clear hP hQ hR
    go_wp2_with fail
    go_quiet (first
      | (go_at_call 12; exact Calls.quiet_of (same_true (by exact O9.out.kp0 ((Kp.refl No _).drewN _)) (by exact Y9.out.kp0 ((Kp.refl No _).drewN _))))
      | (go_at_call 23; exact Calls.quiet_of_same (end_is (r := 0) (by exact R9.out.kp ((Kp.refl No _).drewN _) fun _ _ h => h) rfl))
      | (go_at_call 25; exact Calls.quiet_of_same (number_is (by exact O9.out.kp0 ((Kp.refl No _).drewN _)) (by rw [dg_len]; omega) HRR.out)))
    go_wp2_with fail
    go_ret
    exact ⟨rfl, K9.out.drewN _⟩
  · rw [ha]
    clear ha
    refine (put_any (S := Anyb) _ [] n _ _ (Byt.nil _ _) hn (by simp)).mono ?_
    rintro e w2 ⟨v2, rfl, o2, k2⟩
    rw [show (3 + (b : Int)) = ((3 + b : Nat) : Int) from by omega, hw_of (3 + b) (by omega) (by omega), List.nil_append] at o2
    have K2 := hid (K1.out.trans k2)
    have O2 := hid (o2.byt (P := Anyb) fun _ _ => trivial)
    obtain ⟨A2, c2, rfl⟩ := o2.formN (n := 3 + b) (by simp [dg_len])
    clear o2 k2 K1
    have hsh : 0 ≤ n / 16777216 ∧ n / 16777216 ≤ 18446744073709551615 := by omega
    go_wp2_with fail
    have hw8 : IntKind.i64.wrap 24 = 24 := by decide
    go_region_with (first
      | (go_at_call_of 13 (Value.slice none 0 0)
         refine (put_any (S := Anyb) _ [] n 3 _ (Byt.nil _ _) hn (by simp)).mono ?_
         rintro e w3 ⟨v3, rfl, o3, k3⟩
         have O3 := hid (o3.byt (P := Anyb) fun _ _ => trivial)
         have K3 := hid k3
         clear o3 k3)
      | (go_at_call 13
         refine (put_any _ _ (n / 16777216) (b : Int) _ O3.out hsh (by simp [dg_len]; have := hw_bd 3; omega)).mono ?_
         rintro e w4 ⟨v4, rfl, o4, k4⟩
         have O4 := hid (o4.byt (P := Anyb) fun _ _ => trivial)
         have K4 := hid (K3.out.trans k4)
         clear o4 k4))
    clear hw8
    have K5 := hid (((Kp.refl No w2).drew).trans K4.out)
    have O5 := hid (O2.out.kp0 K5.out)
    have Y5 := O4.out
    rw [show hw 3 = 3 from rfl, List.nil_append, hw_of b (by omega) (by omega), show n / 16777216 = sr n 3 from by rw [sr_eq, show pw 3 = 16777216 from rfl], ← dg_add] at Y5
    have Y := hid Y5
    have K6 := hid (K2.out.trans K5.out)
    clear Y5 O3 O4 K3 K4 O2 K5 K2
    go_wp2_with fail
    refine (new_any _ _ _ O5.out (by simp [dg_len]; omega)).mono ?_
    rintro e w7 ⟨g, rfl, hg, r7, k7⟩
    have R7 := hid r7
    have hg0 : w.heap.size ≤ g := Nat.le_trans K6.out.size hg
    have K7 := hid (K6.out.trans k7)
    have hg1 : w4.heap.size ≤ g := hg
    have O7 := hid (O5.out.old.kp0 k7)
    have Y7 := hid (Y.out.old.kp0 k7)
    clear r7 k7 K6 hg O5 Y
    go_wp2_with fail
    refine (take_any g _ 0 3 _ R7.out).mono ?_
    rintro e w8 ⟨rfl, r8, k8⟩
    rw [show hw 3 = 3 from rfl] at r8 ⊢
    have p1 : nxP (dg n (3 + b)) 0 ((3 : Nat) : Int) = dg n 3 := by rw [nxP, if_pos ⟨rfl, by omega, by simp [dg_len]; omega⟩, dg_add]; simp [dg_len]
    have p2 : nxR (dg n (3 + b)) 0 ((3 : Nat) : Int) = dg (sr n 3) b := by rw [nxR, if_pos ⟨rfl, by omega, by simp [dg_len]; omega⟩, dg_add]; simp [dg_len]
    have p3 : nxE (dg n (3 + b)) 0 ((3 : Nat) : Int) = 0 := by rw [nxE, if_pos rfl, if_neg (by omega), if_neg (by simp [dg_len]; omega)]
    rw [p2, p3] at r8
    rw [p1]
    have K8 := hid (K7.out.step k8 fun i hi h => by have : i = g := h; omega)
    have O8 := hid (O7.out.kp k8 fun i hi h => by have : i = g := h; have := hi.2; omega)
    have Y8 := hid (Y7.out.kp k8 fun i hi h => by have : i = g := h; have := hi.2; omega)
    have R8 := hid r8
    clear p1 p2 p3 r8 k8 K7 R7 O7 Y7
    go_wp2_with fail
    refine (take_any g _ 0 (b : Int) _ R8.out).mono ?_
    rintro e w9 ⟨rfl, r9, k9⟩
    rw [hw_of b (by omega) (by omega)] at r9 ⊢
    have p1 : nxP (dg (sr n 3) b) 0 (b : Int) = dg (sr n 3) b := by rw [nxP, if_pos ⟨rfl, by omega, by simp [dg_len]⟩]; simp [dg_len, List.take_of_length_le]
    have p2 : nxR (dg (sr n 3) b) 0 (b : Int) = [] := by rw [nxR, if_pos ⟨rfl, by omega, by simp [dg_len]⟩]; simp [dg_len]
    have p3 : nxE (dg (sr n 3) b) 0 (b : Int) = 0 := by rw [nxE, if_pos rfl, if_neg (by omega), if_neg (by simp [dg_len])]
    rw [p2, p3] at r9
    rw [p1]
    have K9 := hid (K8.out.step k9 fun i hi h => by have : i = g := h; omega)
    have O9 := hid (O8.out.kp k9 fun i hi h => by have : i = g := h; have := hi.2; omega)
    have Y9 := hid (Y8.out.kp k9 fun i hi h => by have : i = g := h; have := hi.2; omega)
    have R9 := hid r9
    clear p1 p2 p3 r9 k9 K8 R8 O8 Y8
    have hs := sides n 3 b (by omega) (by omega) (by omega) (by omega)
    rw [show pw 3 = 16777216 from rfl] at hs
    obtain ⟨P, hP⟩ : ∃ P, num (dg n 3) = P := ⟨_, rfl⟩
    obtain ⟨Q, hQ⟩ : ∃ Q, num (dg (sr n 3) b) = Q := ⟨_, rfl⟩
    obtain ⟨R, hR⟩ : ∃ R, num (dg n (3 + b)) = R := ⟨_, rfl⟩
    rw [hP, hQ, hR] at hs
    rw [hP, hQ]
    have HRR := hid hR
    have hrr : (R == R) = true := by simp
    have hw8 : IntKind.i64.wrap 24 = 24 := by decide
    clear hP hQ hR
    go_wp2_with fail
    go_quiet (first
      | (go_at_call 12; exact Calls.quiet_of (same_true (by exact O9.out.kp0 ((Kp.refl No _).drewN _)) (by exact Y9.out.kp0 ((Kp.refl No _).drewN _))))
      | (go_at_call 23; exact Calls.quiet_of_same (end_is (r := 0) (by exact R9.out.kp ((Kp.refl No _).drewN _) fun _ _ h => h) rfl))
      | (go_at_call 25; exact Calls.quiet_of_same (number_is (by exact O9.out.kp0 ((Kp.refl No _).drewN _)) (by rw [dg_len]; omega) HRR.out)))
    go_wp2_with fail
    go_ret
    exact ⟨rfl, K9.out.drewN _⟩
  · rw [ha]
    clear ha
    refine (put_any (S := Anyb) _ [] n _ _ (Byt.nil _ _) hn (by simp)).mono ?_
    rintro e w2 ⟨v2, rfl, o2, k2⟩
    rw [show (4 + (b : Int)) = ((4 + b : Nat) : Int) from by omega, hw_of (4 + b) (by omega) (by omega), List.nil_append] at o2
    have K2 := hid (K1.out.trans k2)
    have O2 := hid (o2.byt (P := Anyb) fun _ _ => trivial)
    obtain ⟨A2, c2, rfl⟩ := o2.formN (n := 4 + b) (by simp [dg_len])
    clear o2 k2 K1
    have hsh : 0 ≤ n / 4294967296 ∧ n / 4294967296 ≤ 18446744073709551615 := by omega
    go_wp2_with fail
    have hw8 : IntKind.i64.wrap 32 = 32 := by decide
    go_region_with (first
      | (go_at_call_of 13 (Value.slice none 0 0)
         refine (put_any (S := Anyb) _ [] n 4 _ (Byt.nil _ _) hn (by simp)).mono ?_
         rintro e w3 ⟨v3, rfl, o3, k3⟩
         have O3 := hid (o3.byt (P := Anyb) fun _ _ => trivial)
         have K3 := hid k3
         clear o3 k3)
      | (go_at_call 13
         refine (put_any _ _ (n / 4294967296) (b : Int) _ O3.out hsh (by simp [dg_len]; have := hw_bd 4; omega)).mono ?_
         rintro e w4 ⟨v4, rfl, o4, k4⟩
         have O4 := hid (o4.byt (P := Anyb) fun _ _ => trivial)
         have K4 := hid (K3.out.trans k4)
         clear o4 k4))
    clear hw8
    have K5 := hid (((Kp.refl No w2).drew).trans K4.out)
    have O5 := hid (O2.out.kp0 K5.out)
    have Y5 := O4.out
    rw [show hw 4 = 4 from rfl, List.nil_append, hw_of b (by omega) (by omega), show n / 4294967296 = sr n 4 from by rw [sr_eq, show pw 4 = 4294967296 from rfl], ← dg_add] at Y5
    have Y := hid Y5
    have K6 := hid (K2.out.trans K5.out)
    clear Y5 O3 O4 K3 K4 O2 K5 K2
    go_wp2_with fail
    refine (new_any _ _ _ O5.out (by simp [dg_len]; omega)).mono ?_
    rintro e w7 ⟨g, rfl, hg, r7, k7⟩
    have R7 := hid r7
    have hg0 : w.heap.size ≤ g := Nat.le_trans K6.out.size hg
    have K7 := hid (K6.out.trans k7)
    have hg1 : w4.heap.size ≤ g := hg
    have O7 := hid (O5.out.old.kp0 k7)
    have Y7 := hid (Y.out.old.kp0 k7)
    clear r7 k7 K6 hg O5 Y
    go_wp2_with fail
    refine (take_any g _ 0 4 _ R7.out).mono ?_
    rintro e w8 ⟨rfl, r8, k8⟩
    rw [show hw 4 = 4 from rfl] at r8 ⊢
    have p1 : nxP (dg n (4 + b)) 0 ((4 : Nat) : Int) = dg n 4 := by rw [nxP, if_pos ⟨rfl, by omega, by simp [dg_len]; omega⟩, dg_add]; simp [dg_len]
    have p2 : nxR (dg n (4 + b)) 0 ((4 : Nat) : Int) = dg (sr n 4) b := by rw [nxR, if_pos ⟨rfl, by omega, by simp [dg_len]; omega⟩, dg_add]; simp [dg_len]
    have p3 : nxE (dg n (4 + b)) 0 ((4 : Nat) : Int) = 0 := by rw [nxE, if_pos rfl, if_neg (by omega), if_neg (by simp [dg_len]; omega)]
    rw [p2, p3] at r8
    rw [p1]
    have K8 := hid (K7.out.step k8 fun i hi h => by have : i = g := h; omega)
    have O8 := hid (O7.out.kp k8 fun i hi h => by have : i = g := h; have := hi.2; omega)
    have Y8 := hid (Y7.out.kp k8 fun i hi h => by have : i = g := h; have := hi.2; omega)
    have R8 := hid r8
    clear p1 p2 p3 r8 k8 K7 R7 O7 Y7
    go_wp2_with fail
    refine (take_any g _ 0 (b : Int) _ R8.out).mono ?_
    rintro e w9 ⟨rfl, r9, k9⟩
    rw [hw_of b (by omega) (by omega)] at r9 ⊢
    have p1 : nxP (dg (sr n 4) b) 0 (b : Int) = dg (sr n 4) b := by rw [nxP, if_pos ⟨rfl, by omega, by simp [dg_len]⟩]; simp [dg_len, List.take_of_length_le]
    have p2 : nxR (dg (sr n 4) b) 0 (b : Int) = [] := by rw [nxR, if_pos ⟨rfl, by omega, by simp [dg_len]⟩]; simp [dg_len]
    have p3 : nxE (dg (sr n 4) b) 0 (b : Int) = 0 := by rw [nxE, if_pos rfl, if_neg (by omega), if_neg (by simp [dg_len])]
    rw [p2, p3] at r9
    rw [p1]
    have K9 := hid (K8.out.step k9 fun i hi h => by have : i = g := h; omega)
    have O9 := hid (O8.out.kp k9 fun i hi h => by have : i = g := h; have := hi.2; omega)
    have Y9 := hid (Y8.out.kp k9 fun i hi h => by have : i = g := h; have := hi.2; omega)
    have R9 := hid r9
    clear p1 p2 p3 r9 k9 K8 R8 O8 Y8
    have hs := sides n 4 b (by omega) (by omega) (by omega) (by omega)
    rw [show pw 4 = 4294967296 from rfl] at hs
    obtain ⟨P, hP⟩ : ∃ P, num (dg n 4) = P := ⟨_, rfl⟩
    obtain ⟨Q, hQ⟩ : ∃ Q, num (dg (sr n 4) b) = Q := ⟨_, rfl⟩
    obtain ⟨R, hR⟩ : ∃ R, num (dg n (4 + b)) = R := ⟨_, rfl⟩
    rw [hP, hQ, hR] at hs
    rw [hP, hQ]
    have HRR := hid hR
    have hrr : (R == R) = true := by simp
    have hw8 : IntKind.i64.wrap 32 = 32 := by decide
    clear hP hQ hR
    go_wp2_with fail
    go_quiet (first
      | (go_at_call 12; exact Calls.quiet_of (same_true (by exact O9.out.kp0 ((Kp.refl No _).drewN _)) (by exact Y9.out.kp0 ((Kp.refl No _).drewN _))))
      | (go_at_call 23; exact Calls.quiet_of_same (end_is (r := 0) (by exact R9.out.kp ((Kp.refl No _).drewN _) fun _ _ h => h) rfl))
      | (go_at_call 25; exact Calls.quiet_of_same (number_is (by exact O9.out.kp0 ((Kp.refl No _).drewN _)) (by rw [dg_len]; omega) HRR.out)))
    go_wp2_with fail
    go_ret
    exact ⟨rfl, K9.out.drewN _⟩
end Go.Proofs.Ytbcekjnemigkkaa
