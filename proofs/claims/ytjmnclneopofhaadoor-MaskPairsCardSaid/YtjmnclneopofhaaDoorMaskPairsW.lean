/-
  The walk of MaskPairs.
-/
import Derived.Test.YtjmnclneopofhaaDoorMaskF
import Derived.Test.YtjmnclneopofhaaDoorMaskLen
namespace Go.Proofs.YtjmnclneopofhaaDoor
open Go.RowKit

set_option maxHeartbeats 2000000 in
theorem maskPairs_walk (w : World) (n a b : Int) (E : Env w) (hn : 0 ≤ n ∧ n ≤ 18446744073709551615) (_ : I64 a) (_ : I64 b) :
    Calls Tryd.prog 7 #[.int .u64 n, .int .i64 a, .int .i64 b] w fun e w' => e = .returned (.bool true) ∧ Kp No w w' := by
  obtain ⟨s, rfl⟩ : ∃ s : Nat, n = (s : Int) := ⟨n.toNat, by omega⟩
  have hs : U64 s := by unfold U64; omega
  have HE := hid E
  clear E hn
  have X1 := hid (wth_twice s a)
  have X2 := hid (wot_twice s a)
  have X3 := hid (wth_wot hs a)
  have X4 := hid (wot_wth hs a)
  have XA := hid (isIn_wth s a)
  have XO := hid (isIn_wot s a)
  have XC := hid (wth_comm s a b)
  have hux := wth_U64 hs a
  have huy := wot_U64 hs a
  have hub := wth_U64 hs b
  have XL : Hid ((0 ≤ a ∧ a < 64 → (al (wth s a)).length = (al (wot s a)).length + 1) ∧ (¬ (0 ≤ a ∧ a < 64) → (al (wth s a)).length = (al (wot s a)).length)) := hid ⟨al_one s a, fun h => by rw [wth_none s h, wot_none hs h]⟩
  have hl := al_len (wot s a)
  obtain ⟨x, hx⟩ : ∃ x, wth s a = x := ⟨_, rfl⟩
  obtain ⟨y, hy⟩ : ∃ y, wot s a = y := ⟨_, rfl⟩
  rw [hx] at X1 X3 X4 XA XC XL hux
  rw [hy] at X2 X3 X4 XO XL huy hl
  have HX := hid hx
  have HY := hid hy
  clear hx hy
  go_enter Tryd.func7, Tryd.ntmps7
  go_wp2_with fail
  refine (awake_any _ HE.out).mono ?_
  rintro e w1 ⟨rfl, k1⟩
  have K1 := hid k1
  clear k1 HE
  go_wp2_with fail
  refine (with_any s a _ hs).mono ?_
  rw [HX.out]
  rintro e w' ⟨rfl, rfl⟩
  go_wp2_with fail
  refine (without_any s a _ hs).mono ?_
  rw [HY.out]
  rintro e w' ⟨rfl, rfl⟩
  have P1 := hid (show isIn x a = decide (0 ≤ a ∧ a < 64) by
    rw [XA.out]
    by_cases h : 0 ≤ a ∧ a < 64
    · rw [decide_eq_true ⟨h.1, h.2, rfl⟩, decide_eq_true h, Bool.or_true]
    · rw [decide_eq_false (fun h' => h ⟨h'.1, h'.2.1⟩), decide_eq_false h, isIn_out _ _ h]; rfl)
  have P2 := hid (show isIn y a = false by
    rw [XO.out]
    by_cases h : 0 ≤ a ∧ a < 64
    · rw [decide_eq_true ⟨h.1, h.2, rfl⟩, Bool.not_true, Bool.and_false]
    · rw [isIn_out _ _ h, Bool.false_and])
  have P3 : Hid (¬ a = b → isIn x b = isIn s b ∧ isIn y b = isIn s b) := hid fun h => by
    rw [XA.out, XO.out, decide_eq_false (fun h' => h h'.2.2.symm), Bool.or_false, Bool.not_false, Bool.and_true]
    exact ⟨rfl, rfl⟩
  clear XA XO HY
  by_cases hc : 0 ≤ a ∧ a < 64
  · have Q1 := hid (P1.out.trans (decide_eq_true hc))
    have XM := hid (XL.out.1 hc)
    obtain ⟨h0, h1⟩ := hc
    go_wp2_with fail
    refine (has_any x a _ hux).mono ?_
    rw [Q1.out]
    rintro e w' ⟨rfl, rfl⟩
    go_wp2_with fail
    refine (has_any y a _ huy).mono ?_
    rw [P2.out]
    rintro e w' ⟨rfl, rfl⟩
    go_wp2_with fail
    refine (with_any x a _ hux).mono ?_
    rw [X1.out]
    rintro e w' ⟨rfl, rfl⟩
    go_wp2_with fail
    refine (without_any y a _ huy).mono ?_
    rw [X2.out]
    rintro e w' ⟨rfl, rfl⟩
    go_wp2_with fail
    refine (with_any y a _ huy).mono ?_
    rw [X3.out]
    rintro e w' ⟨rfl, rfl⟩
    go_wp2_with fail
    refine (without_any x a _ hux).mono ?_
    rw [X4.out]
    rintro e w' ⟨rfl, rfl⟩
    by_cases hab : a = b
    · subst hab
      have XD := hid XC.out
      have hu2 := wth_U64 hux a
      go_wp2_with fail
      refine (with_any s a _ hs).mono ?_
      rw [HX.out]
      rintro e w' ⟨rfl, rfl⟩
      go_wp2_with fail
      refine (with_any x a _ hux).mono ?_
      rw [XC.out]
      rintro e w' ⟨rfl, rfl⟩
      go_wp2_with fail
      refine (with_any s a _ hs).mono ?_
      rintro e w' ⟨rfl, rfl⟩
      go_wp2_with fail
      refine (with_any (wth s a) a _ hub).mono ?_
      rintro e w' ⟨rfl, rfl⟩
      go_wp2_with fail
      refine (len_any x _ hux).mono ?_
      rw [XM.out]
      rintro e v0 ⟨rfl, k2⟩
      have K2 := hid (K1.out.trans k2)
      clear k2 K1
      go_wp2_with fail
      refine (len_any y _ huy).mono ?_
      rintro e v1 ⟨rfl, k3⟩
      have K3 := hid (K2.out.trans k3)
      clear k3 K2
      go_wp2_with fail
      refine (len_any x _ hux).mono ?_
      rw [XM.out]
      rintro e v2 ⟨rfl, k4⟩
      have K4 := hid (K3.out.trans k4)
      clear k4 K3
      go_wp2_with fail
      refine (len_any y _ huy).mono ?_
      rintro e v3 ⟨rfl, k5⟩
      have K5 := hid (K4.out.trans k5)
      clear k5 K4
      go_wp2_with fail
      go_ret
      refine ⟨?_, K5.out⟩
      show Ending.returned (.bool (((al y).length : Int) + 1 - ((al y).length : Int) == 1)) = _
      rw [show ((al y).length : Int) + 1 - ((al y).length : Int) = 1 by omega]
      rfl
    · obtain ⟨q1, q2⟩ := P3.out hab
      have Q2 := hid q1
      have Q3 := hid q2
      clear q1 q2
      go_wp2_with fail
      refine (has_any x b _ hux).mono ?_
      rw [Q2.out]
      rintro e w' ⟨rfl, rfl⟩
      go_wp2_with fail
      refine (has_any s b _ hs).mono ?_
      rintro e w' ⟨rfl, rfl⟩
      have hqq : (isIn s b != isIn s b) = false := by simp
      go_wp2_with fail
      refine (has_any y b _ huy).mono ?_
      rw [Q3.out]
      rintro e w' ⟨rfl, rfl⟩
      go_wp2_with fail
      refine (has_any s b _ hs).mono ?_
      rintro e w' ⟨rfl, rfl⟩
      have XD := hid XC.out
      have hu2 := wth_U64 hux b
      go_wp2_with fail
      refine (with_any s a _ hs).mono ?_
      rw [HX.out]
      rintro e w' ⟨rfl, rfl⟩
      go_wp2_with fail
      refine (with_any x b _ hux).mono ?_
      rw [XC.out]
      rintro e w' ⟨rfl, rfl⟩
      go_wp2_with fail
      refine (with_any s b _ hs).mono ?_
      rintro e w' ⟨rfl, rfl⟩
      go_wp2_with fail
      refine (with_any (wth s b) a _ hub).mono ?_
      rintro e w' ⟨rfl, rfl⟩
      go_wp2_with fail
      refine (len_any x _ hux).mono ?_
      rw [XM.out]
      rintro e v0 ⟨rfl, k2⟩
      have K2 := hid (K1.out.trans k2)
      clear k2 K1
      go_wp2_with fail
      refine (len_any y _ huy).mono ?_
      rintro e v1 ⟨rfl, k3⟩
      have K3 := hid (K2.out.trans k3)
      clear k3 K2
      go_wp2_with fail
      refine (len_any x _ hux).mono ?_
      rw [XM.out]
      rintro e v2 ⟨rfl, k4⟩
      have K4 := hid (K3.out.trans k4)
      clear k4 K3
      go_wp2_with fail
      refine (len_any y _ huy).mono ?_
      rintro e v3 ⟨rfl, k5⟩
      have K5 := hid (K4.out.trans k5)
      clear k5 K4
      go_wp2_with fail
      go_ret
      refine ⟨?_, K5.out⟩
      show Ending.returned (.bool (((al y).length : Int) + 1 - ((al y).length : Int) == 1)) = _
      rw [show ((al y).length : Int) + 1 - ((al y).length : Int) = 1 by omega]
      rfl
  · have Q1 := hid (P1.out.trans (decide_eq_false hc))
    have XM := hid (XL.out.2 hc)
    by_cases h0 : a < 0
    · clear hc
      go_wp2_with fail
      refine (has_any x a _ hux).mono ?_
      rw [Q1.out]
      rintro e w' ⟨rfl, rfl⟩
      go_wp2_with fail
      refine (has_any y a _ huy).mono ?_
      rw [P2.out]
      rintro e w' ⟨rfl, rfl⟩
      go_wp2_with fail
      refine (with_any x a _ hux).mono ?_
      rw [X1.out]
      rintro e w' ⟨rfl, rfl⟩
      go_wp2_with fail
      refine (without_any y a _ huy).mono ?_
      rw [X2.out]
      rintro e w' ⟨rfl, rfl⟩
      go_wp2_with fail
      refine (with_any y a _ huy).mono ?_
      rw [X3.out]
      rintro e w' ⟨rfl, rfl⟩
      go_wp2_with fail
      refine (without_any x a _ hux).mono ?_
      rw [X4.out]
      rintro e w' ⟨rfl, rfl⟩
      by_cases hab : a = b
      · subst hab
        have XD := hid XC.out
        have hu2 := wth_U64 hux a
        go_wp2_with fail
        refine (with_any s a _ hs).mono ?_
        rw [HX.out]
        rintro e w' ⟨rfl, rfl⟩
        go_wp2_with fail
        refine (with_any x a _ hux).mono ?_
        rw [XC.out]
        rintro e w' ⟨rfl, rfl⟩
        go_wp2_with fail
        refine (with_any s a _ hs).mono ?_
        rintro e w' ⟨rfl, rfl⟩
        go_wp2_with fail
        refine (with_any (wth s a) a _ hub).mono ?_
        rintro e w' ⟨rfl, rfl⟩
        go_wp2_with fail
        refine (len_any x _ hux).mono ?_
        rw [XM.out]
        rintro e v0 ⟨rfl, k2⟩
        have K2 := hid (K1.out.trans k2)
        clear k2 K1
        go_wp2_with fail
        refine (len_any y _ huy).mono ?_
        rintro e v1 ⟨rfl, k3⟩
        have K3 := hid (K2.out.trans k3)
        clear k3 K2
        go_wp2_with fail
        refine (len_any x _ hux).mono ?_
        rw [XM.out]
        rintro e v2 ⟨rfl, k4⟩
        have K4 := hid (K3.out.trans k4)
        clear k4 K3
        go_wp2_with fail
        refine (len_any y _ huy).mono ?_
        rintro e v3 ⟨rfl, k5⟩
        have K5 := hid (K4.out.trans k5)
        clear k5 K4
        go_wp2_with fail
        go_ret
        exact ⟨rfl, K5.out⟩
      · obtain ⟨q1, q2⟩ := P3.out hab
        have Q2 := hid q1
        have Q3 := hid q2
        clear q1 q2
        go_wp2_with fail
        refine (has_any x b _ hux).mono ?_
        rw [Q2.out]
        rintro e w' ⟨rfl, rfl⟩
        go_wp2_with fail
        refine (has_any s b _ hs).mono ?_
        rintro e w' ⟨rfl, rfl⟩
        have hqq : (isIn s b != isIn s b) = false := by simp
        go_wp2_with fail
        refine (has_any y b _ huy).mono ?_
        rw [Q3.out]
        rintro e w' ⟨rfl, rfl⟩
        go_wp2_with fail
        refine (has_any s b _ hs).mono ?_
        rintro e w' ⟨rfl, rfl⟩
        have XD := hid XC.out
        have hu2 := wth_U64 hux b
        go_wp2_with fail
        refine (with_any s a _ hs).mono ?_
        rw [HX.out]
        rintro e w' ⟨rfl, rfl⟩
        go_wp2_with fail
        refine (with_any x b _ hux).mono ?_
        rw [XC.out]
        rintro e w' ⟨rfl, rfl⟩
        go_wp2_with fail
        refine (with_any s b _ hs).mono ?_
        rintro e w' ⟨rfl, rfl⟩
        go_wp2_with fail
        refine (with_any (wth s b) a _ hub).mono ?_
        rintro e w' ⟨rfl, rfl⟩
        go_wp2_with fail
        refine (len_any x _ hux).mono ?_
        rw [XM.out]
        rintro e v0 ⟨rfl, k2⟩
        have K2 := hid (K1.out.trans k2)
        clear k2 K1
        go_wp2_with fail
        refine (len_any y _ huy).mono ?_
        rintro e v1 ⟨rfl, k3⟩
        have K3 := hid (K2.out.trans k3)
        clear k3 K2
        go_wp2_with fail
        refine (len_any x _ hux).mono ?_
        rw [XM.out]
        rintro e v2 ⟨rfl, k4⟩
        have K4 := hid (K3.out.trans k4)
        clear k4 K3
        go_wp2_with fail
        refine (len_any y _ huy).mono ?_
        rintro e v3 ⟨rfl, k5⟩
        have K5 := hid (K4.out.trans k5)
        clear k5 K4
        go_wp2_with fail
        go_ret
        exact ⟨rfl, K5.out⟩
    · have h1 : 64 ≤ a := by omega
      have h2 : 0 ≤ a := by omega
      have hd : decide (a < 64) = false := decide_eq_false (by omega)
      clear hc h0
      go_wp2_with fail
      refine (has_any x a _ hux).mono ?_
      rw [Q1.out]
      rintro e w' ⟨rfl, rfl⟩
      go_wp2_with fail
      refine (has_any y a _ huy).mono ?_
      rw [P2.out]
      rintro e w' ⟨rfl, rfl⟩
      go_wp2_with fail
      refine (with_any x a _ hux).mono ?_
      rw [X1.out]
      rintro e w' ⟨rfl, rfl⟩
      go_wp2_with fail
      refine (without_any y a _ huy).mono ?_
      rw [X2.out]
      rintro e w' ⟨rfl, rfl⟩
      go_wp2_with fail
      refine (with_any y a _ huy).mono ?_
      rw [X3.out]
      rintro e w' ⟨rfl, rfl⟩
      go_wp2_with fail
      refine (without_any x a _ hux).mono ?_
      rw [X4.out]
      rintro e w' ⟨rfl, rfl⟩
      by_cases hab : a = b
      · subst hab
        have XD := hid XC.out
        have hu2 := wth_U64 hux a
        go_wp2_with fail
        refine (with_any s a _ hs).mono ?_
        rw [HX.out]
        rintro e w' ⟨rfl, rfl⟩
        go_wp2_with fail
        refine (with_any x a _ hux).mono ?_
        rw [XC.out]
        rintro e w' ⟨rfl, rfl⟩
        go_wp2_with fail
        refine (with_any s a _ hs).mono ?_
        rintro e w' ⟨rfl, rfl⟩
        go_wp2_with fail
        refine (with_any (wth s a) a _ hub).mono ?_
        rintro e w' ⟨rfl, rfl⟩
        go_wp2_with fail
        refine (len_any x _ hux).mono ?_
        rw [XM.out]
        rintro e v0 ⟨rfl, k2⟩
        have K2 := hid (K1.out.trans k2)
        clear k2 K1
        go_wp2_with fail
        refine (len_any y _ huy).mono ?_
        rintro e v1 ⟨rfl, k3⟩
        have K3 := hid (K2.out.trans k3)
        clear k3 K2
        go_wp2_with fail
        refine (len_any x _ hux).mono ?_
        rw [XM.out]
        rintro e v2 ⟨rfl, k4⟩
        have K4 := hid (K3.out.trans k4)
        clear k4 K3
        go_wp2_with fail
        refine (len_any y _ huy).mono ?_
        rintro e v3 ⟨rfl, k5⟩
        have K5 := hid (K4.out.trans k5)
        clear k5 K4
        go_wp2_with fail
        go_ret
        exact ⟨rfl, K5.out⟩
      · obtain ⟨q1, q2⟩ := P3.out hab
        have Q2 := hid q1
        have Q3 := hid q2
        clear q1 q2
        go_wp2_with fail
        refine (has_any x b _ hux).mono ?_
        rw [Q2.out]
        rintro e w' ⟨rfl, rfl⟩
        go_wp2_with fail
        refine (has_any s b _ hs).mono ?_
        rintro e w' ⟨rfl, rfl⟩
        have hqq : (isIn s b != isIn s b) = false := by simp
        go_wp2_with fail
        refine (has_any y b _ huy).mono ?_
        rw [Q3.out]
        rintro e w' ⟨rfl, rfl⟩
        go_wp2_with fail
        refine (has_any s b _ hs).mono ?_
        rintro e w' ⟨rfl, rfl⟩
        have XD := hid XC.out
        have hu2 := wth_U64 hux b
        go_wp2_with fail
        refine (with_any s a _ hs).mono ?_
        rw [HX.out]
        rintro e w' ⟨rfl, rfl⟩
        go_wp2_with fail
        refine (with_any x b _ hux).mono ?_
        rw [XC.out]
        rintro e w' ⟨rfl, rfl⟩
        go_wp2_with fail
        refine (with_any s b _ hs).mono ?_
        rintro e w' ⟨rfl, rfl⟩
        go_wp2_with fail
        refine (with_any (wth s b) a _ hub).mono ?_
        rintro e w' ⟨rfl, rfl⟩
        go_wp2_with fail
        refine (len_any x _ hux).mono ?_
        rw [XM.out]
        rintro e v0 ⟨rfl, k2⟩
        have K2 := hid (K1.out.trans k2)
        clear k2 K1
        go_wp2_with fail
        refine (len_any y _ huy).mono ?_
        rintro e v1 ⟨rfl, k3⟩
        have K3 := hid (K2.out.trans k3)
        clear k3 K2
        go_wp2_with fail
        refine (len_any x _ hux).mono ?_
        rw [XM.out]
        rintro e v2 ⟨rfl, k4⟩
        have K4 := hid (K3.out.trans k4)
        clear k4 K3
        go_wp2_with fail
        refine (len_any y _ huy).mono ?_
        rintro e v3 ⟨rfl, k5⟩
        have K5 := hid (K4.out.trans k5)
        clear k5 K4
        go_wp2_with fail
        go_ret
        exact ⟨rfl, K5.out⟩
end Go.Proofs.YtjmnclneopofhaaDoor
