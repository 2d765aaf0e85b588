/-
  The walk of MaskTells.
-/
import Derived.Test.YtjmnclneopofhaaDoorMaskF
import Derived.Test.YtjmnclneopofhaaDoorMaskH
namespace Go.Proofs.YtjmnclneopofhaaDoor
open Go.RowKit

set_option maxHeartbeats 2000000 in
theorem maskTells_walk (w : World) (m c n k : Int) (E : Env w) (hm : 0 ≤ m ∧ m ≤ 18446744073709551615) (_ : I64 c) (_ : I64 n) (_ : I64 k) :
    Calls Tryd.prog 3 #[.int .u64 m, .int .i64 c, .int .i64 n, .int .i64 k] w fun e w' => e = .returned (.bool true) ∧ Kp No w w' := by
  obtain ⟨s, rfl⟩ : ∃ s : Nat, m = (s : Int) := ⟨m.toNat, by omega⟩
  have hs : U64 s := by unfold U64; omega
  have HE := hid E
  clear E hm
  have hlen := al_len s
  have HL := hid (nums_len (al s))
  go_enter Tryd.func3, Tryd.ntmps3
  go_wp2_with fail
  refine (awake_any _ HE.out).mono ?_
  rintro e w1 ⟨rfl, k1⟩
  have K1 := hid k1
  clear k1 HE
  go_wp2_with fail
  refine (up_any n _).mono ?_
  rintro e w' ⟨rfl, rfl⟩
  go_wp2_with fail
  refine (refUp_any n _).mono ?_
  rintro e w2 ⟨rfl, k2⟩
  have K2 := hid (K1.out.trans k2)
  clear k2 K1
  go_wp2_with fail
  refine (has_any s c _ hs).mono ?_
  rintro e w' ⟨rfl, rfl⟩
  go_wp2_with fail
  refine (refHas_any s c _ hs).mono ?_
  rintro e w' ⟨rfl, rfl⟩
  have hbb : (isIn s c != isIn s c) = false := by simp
  go_wp2_with fail
  refine (with_any s c _ hs).mono ?_
  rintro e w' ⟨rfl, rfl⟩
  go_wp2_with fail
  refine (refWith_any s c true _ hs).mono ?_
  rw [show wi s c true = wth s c from rfl]
  rintro e w3 ⟨rfl, k3⟩
  have K3 := hid (K2.out.trans k3)
  clear k3 K2
  go_wp2_with fail
  refine (without_any s c _ hs).mono ?_
  rintro e w' ⟨rfl, rfl⟩
  go_wp2_with fail
  refine (refWith_any s c false _ hs).mono ?_
  rw [show wi s c false = wot s c from rfl]
  rintro e w4 ⟨rfl, k4⟩
  have K4 := hid (K3.out.trans k4)
  clear k4 K3
  go_wp2_with fail
  refine (refAll_any s _ hs).mono ?_
  rintro e w5 ⟨v, rfl, o5, k5⟩
  have K5 := hid (K4.out.trans k5)
  have V5 := hid ((o5.sl (P := Anyb) fun _ _ => trivial).below)
  obtain ⟨A, cp, rfl⟩ := o5.form (n := (al s).length) HL.out
  clear k5 K4 o5
  go_wp2_with fail
  refine (all_any s _ hs).mono ?_
  rintro e w6 ⟨v6, rfl, o6, k6⟩
  have K6 := hid (K5.out.trans k6)
  have V6 := hid (V5.out.kp k6 fun _ _ _ h => h)
  have W6 := hid o6
  clear k6 K5 V5 o6
  go_wp2_with fail
  refine (refSame_any _ _ (nums (al s)) _ W6.out V6.out (by have := HL.out; omega)).mono ?_
  rintro e w7 ⟨rfl, k7⟩
  have K7 := hid (K6.out.trans k7)
  clear k7 K6
  go_wp2_with fail
  refine (len_any s _ hs).mono ?_
  rintro e w8 ⟨rfl, k8⟩
  have K8 := hid (K7.out.trans k8)
  clear k8 K7
  go_wp2_with fail
  refine (nth_any s k _ hs).mono ?_
  rintro e w9 ⟨rfl, k9⟩
  have K9 := hid (K8.out.trans k9)
  clear k9 K8
  go_wp2_with fail
  refine (refNth_any s k _ hs).mono ?_
  rintro e w10 ⟨rfl, k10⟩
  have K10 := hid (K9.out.trans k10)
  clear k10 K9
  go_wp2_with fail
  refine (first_any s _ hs).mono ?_
  rintro e w11 ⟨rfl, k11⟩
  have K11 := hid (K10.out.trans k11)
  clear k11 K10
  go_wp2_with fail
  refine (refNth_any s 0 _ hs).mono ?_
  rintro e w12 ⟨rfl, k12⟩
  have K12 := hid (K11.out.trans k12)
  clear k12 K11
  go_wp2_with fail
  go_ret
  exact ⟨rfl, K12.out⟩
end Go.Proofs.YtjmnclneopofhaaDoor
