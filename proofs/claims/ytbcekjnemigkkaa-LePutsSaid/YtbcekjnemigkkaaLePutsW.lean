/-
  The walk of LePuts.
-/
import Derived.Test.YtbcekjnemigkkaaLeAwake
import Derived.Test.YtbcekjnemigkkaaArgs
namespace Go.Proofs.Ytbcekjnemigkkaa
open Go.RowKit

theorem lePuts_walk (w : World) (v : Value) (n x : Int) {xs : List Int} (hv : Byt w Anyb v xs) (hn : 0 ≤ n ∧ n ≤ 18446744073709551615) (_ : -9223372036854775808 ≤ x ∧ x ≤ 9223372036854775807) :
    Calls Try.prog 3 #[v, .int .u64 n, .int .i64 x] w fun e w' => e = .returned (.bool true) ∧ Kp No w w' := by
  have HV := hid hv
  obtain ⟨A, c, rfl, hc, hm, _, _⟩ := hv
  unfold maxLen at hm
  go_enter Try.func3, Try.ntmps3
  go_wp2_with fail
  refine (awake_any _).mono ?_
  rintro e w1 ⟨rfl, k1⟩
  have V1 := hid (HV.out.kp0 k1)
  have K1 := hid k1
  clear HV k1
  by_cases hbig : 200 < xs.length
  · go_wp2
    go_ret
    exact ⟨rfl, K1.out⟩
  · go_wp2_with (first
      | (at_builtin
         refine wp_app isU8 rfl (.tmp 14) (.tmp 15) rfl (base := w1.heap.size) (xs := []) (ys := xs) (by exact Own.mt _ _) (by exact V1.out.kp0 ((Kp.refl _ _).alloc _)) (by simp; omega) (by simp) ?_
         intro v2 w2 o2 k2))
    rw [List.nil_append] at o2
    have K2 := hid ((Kp.refl No w1).alloc (.cells #[] 5) |>.step k2 fun i hi h => by omega)
    have O2 := hid o2
    clear o2 k2
    refine (digits_any n x _ hn).mono ?_
    rintro e w3 ⟨v3, rfl, o3, k3⟩
    have O2 := hid (O2.out.kp k3 fun _ _ h => h)
    have K3 := hid (K2.out.trans k3)
    have O3 := hid (o3.byt (P := Anyb) fun _ _ => trivial)
    clear o3 k3 K2
    go_wp2_with (first
      | (at_builtin
         refine wp_app isU8 rfl (.tmp 16) (.tmp 19) rfl (base := w1.heap.size) (xs := xs) (ys := dg n (hw x)) (by exact O2.out) (by exact O3.out) (by have := hw_bd x; simp [dg_len]; omega) (by exact K3.out.size) ?_
         intro v4 w4 o4 k4
         have K4 := hid (K3.out.step k4 fun i hi h => by omega)
         have O4 := hid o4
         clear o4 k4 O2 O3)
      | (at_builtin
         refine wp_app isU8 rfl (.tmp 23) (.tmp 24) rfl (base := w4.heap.size) (xs := []) (ys := xs) (by exact Own.mt _ _) (by exact (V1.out.kp0 K4.out).kp0 ((Kp.refl _ _).alloc _)) (by simp; omega) (by simp) ?_
         intro v5 w5 o5 k5))
    rw [List.nil_append] at o5
    have K5 := hid (K4.out.step ((Kp.refl No w4).alloc (.cells #[] 5) |>.step k5 fun i hi h => by omega) fun _ _ h => h)
    have O4 := hid ((O4.out.byt (P := Anyb) fun _ _ => trivial).kp0 ((Kp.refl No w4).alloc (.cells #[] 5) |>.step k5 fun i hi h => by omega))
    refine (put_any v5 xs n x _ (o5.byt (P := Anyb) fun _ _ => trivial) hn (by omega)).mono ?_
    clear o5 k5
    rintro e w6 ⟨v6, rfl, o6, k6⟩
    have K6 := hid (K5.out.trans k6)
    have O6 := hid (o6.byt (P := Anyb) fun _ _ => trivial)
    have O4 := hid (O4.out.kp0 k6)
    clear o6 k6 K5
    go_wp2_with fail
    refine (same_any _ _ _ _ _ O6.out O4.out).mono ?_
    rintro e w7 ⟨rfl, m, rfl⟩
    have K7 := hid (K6.out.drewN m)
    rw [decide_eq_true rfl]
    clear O4 O6 K6
    go_wp2_with fail
    refine (sign_any n x _ hn).mono ?_
    rintro e w8 ⟨rfl, rfl⟩
    go_wp2_with fail
    refine (refsign_any n x _ hn).mono ?_
    rintro e w9 ⟨rfl, k9⟩
    have K9 := hid (K1.out.trans (K7.out.trans k9))
    clear k9 K7 K1
    have hself : (sg n (hw x) == sg n (hw x)) = true := by simp
    go_wp2_with fail
    go_ret
    exact ⟨rfl, K9.out⟩
end Go.Proofs.Ytbcekjnemigkkaa
