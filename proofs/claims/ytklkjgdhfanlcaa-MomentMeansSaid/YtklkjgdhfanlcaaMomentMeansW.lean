/-
  The walk of MomentMeans.
-/
import Derived.Test.YtklkjgdhfanlcaaMomE
namespace Go.Proofs.Ytklkjgdhfanlcaa
open Go.RowKit

/-- What is known of the least and the greatest one of those that have a weight. -/
def Lh (b W P lo hi : Int) (an : Bool) : Prop :=
  (an = false → W = 0 ∧ P = 0) ∧
  (an = true → 0 < W ∧ (lo - b) * W ≤ P ∧ P ≤ (hi - b) * W ∧ b - 1048576 ≤ lo ∧ lo ≤ b + 1048576 ∧ b - 1048576 ≤ hi ∧ hi ≤ b + 1048576)

theorem lh_nil (b : Int) : Lh b 0 0 0 0 false := ⟨fun _ => ⟨rfl, rfl⟩, fun h => by cases h⟩
theorem lh_zero {b W P lo hi w x : Int} {an : Bool} (h : Lh b W P lo hi an) (hw : w = 0) : Lh b (W + w) (P + w * x) lo hi an := by
  subst hw
  rwa [Int.zero_mul, Int.add_zero, Int.add_zero]
theorem lh_first {b W P lo hi w x : Int} (h : Lh b W P lo hi false) (hw : 0 < w) (x0 : -1048576 < x) (x1 : x < 1048576) : Lh b (W + w) (P + w * x) (b + x) (b + x) true := by
  obtain ⟨h1, h2⟩ := h.1 rfl
  refine ⟨(fun h => by cases h), fun _ => ?_⟩
  have e : (b + x - b) * (W + w) = P + w * x := by rw [h1, h2, show b + x - b = x by omega, Int.zero_add, Int.zero_add, Int.mul_comm]
  omega
theorem lh_next {b W P lo hi w x lo' hi' : Int} (h : Lh b W P lo hi true) (hw : 0 < w) (x0 : -1048576 < x) (x1 : x < 1048576) (hl : lo' = if b + x < lo then b + x else lo) (hh : hi' = if hi < b + x then b + x else hi) : Lh b (W + w) (P + w * x) lo' hi' true := by
  obtain ⟨h1, h2, h3, h4, h5, h6, h7⟩ := h.2 rfl
  have l1 : lo' ≤ lo := by rw [hl]; split <;> omega
  have l2 : lo' - b ≤ x := by rw [hl]; split <;> omega
  have g1 : hi ≤ hi' := by rw [hh]; split <;> omega
  have g2 : x ≤ hi' - b := by rw [hh]; split <;> omega
  have l3 : b - 1048576 ≤ lo' := by rw [hl]; split <;> omega
  have g3 : hi' ≤ b + 1048576 := by rw [hh]; split <;> omega
  have e1 := Int.mul_le_mul_of_nonneg_right (show lo' - b ≤ lo - b by omega) (show 0 ≤ W by omega)
  have e2 := Int.mul_le_mul_of_nonneg_right l2 (show 0 ≤ w by omega)
  have e3 := Int.mul_le_mul_of_nonneg_right (show hi - b ≤ hi' - b by omega) (show 0 ≤ W by omega)
  have e4 := Int.mul_le_mul_of_nonneg_right g2 (show 0 ≤ w by omega)
  have c1 : (lo' - b) * (W + w) = (lo' - b) * W + (lo' - b) * w := Int.mul_add _ _ _
  have c2 : (hi' - b) * (W + w) = (hi' - b) * W + (hi' - b) * w := Int.mul_add _ _ _
  have c3 : w * x = x * w := Int.mul_comm _ _
  exact ⟨(fun h => by cases h), fun _ => by omega⟩

theorem mul_bd {a d : Int} (h0 : 0 ≤ a) (h1 : a ≤ 67108864) (h2 : -2097152 ≤ d) (h3 : d ≤ 2097152) : -140737488355328 ≤ a * d ∧ a * d ≤ 140737488355328 := by
  have e1 := Int.mul_le_mul_of_nonneg_left h3 h0
  have e2 := Int.mul_le_mul_of_nonneg_left h2 h0
  omega

/-- What comes of it. -/
structure Mid (b W P lo hi m : Int) : Prop where
  low : lo ≤ m
  high : m ≤ hi
  g1 : 0 ≤ P + W * (b - lo)
  g2 : P + W * (b - hi) ≤ 0
  g3 : 0 ≤ P + W * (b - m)
  g4 : P + W * (b - (m + 1)) < 0
theorem mid {b W P lo hi : Int} (h : Lh b W P lo hi true) : Mid b W P lo hi (mean b W P) := by
  obtain ⟨h1, h2, h3, _⟩ := h.2 rfl
  have hm : mean b W P = b + P / W := by unfold mean; rw [if_neg (by omega)]
  rw [hm]
  have q1 : lo - b ≤ P / W := Int.le_ediv_of_mul_le h1 h2
  have q2 : P / W ≤ hi - b := Int.ediv_le_of_le_mul h1 h3
  have q3 : W * (P / W) + P % W = P := Int.mul_ediv_add_emod P W
  have q4 := Int.emod_nonneg P (show W ≠ 0 by omega)
  have q5 := Int.emod_lt_of_pos P h1
  have c1 : W * (b - lo) = -((lo - b) * W) := by rw [← Int.neg_mul, Int.mul_comm]; congr 1; omega
  have c2 : W * (b - hi) = -((hi - b) * W) := by rw [← Int.neg_mul, Int.mul_comm]; congr 1; omega
  have c3 : W * (b - (b + P / W)) = -(W * (P / W)) := by rw [← Int.mul_neg]; congr 1; omega
  have c4 : W * (b - (b + P / W + 1)) = -(W * (P / W)) - W := by rw [show b - (b + P / W + 1) = -(P / W) - 1 by omega, Int.mul_sub, Int.mul_neg, Int.mul_one]
  exact ⟨by omega, by omega, by omega, by omega, by omega, by omega⟩

set_option maxHeartbeats 2000000 in
theorem momentMeans_walk (w : World) (n : Int) (u : Value) {xs : List Mem} (_ : I64 n) (hu : Rw 3 mc m0 w Anyb u xs ∧ Pos xs) :
    Calls Try.prog 7 #[.int .i64 n, u] w fun e w' => e = .returned (.bool true) ∧ Kp No w w' := by
  have HU := hid hu.1
  have HX := hid hu.2
  obtain ⟨hu1, _⟩ := hu
  obtain ⟨A, c, rfl, hc, hmx, _⟩ := hu1
  unfold maxLen at hmx
  by_cases hl : 30 < xs.length
  · have hb1 : decide ((30 : Int) < (xs.length : Int)) = true := by simp; omega
    go_enter Try.func7, Try.ntmps7
    go_wp2_with fail
    refine (awake_any _).mono ?_
    rintro e w1 ⟨rfl, k1⟩
    have K1 := hid k1
    clear k1
    go_wp2
    go_ret
    exact ⟨rfl, K1.out⟩
  · have hb1 : decide ((30 : Int) < (xs.length : Int)) = false := by simp; omega
    obtain ⟨s0, s1, s2, s3⟩ := sums_bd HX.out
    obtain ⟨a, ha⟩ : ∃ a, Ws xs = a := ⟨_, rfl⟩
    obtain ⟨p, hp⟩ : ∃ p, Ps xs = p := ⟨_, rfl⟩
    obtain ⟨b, hb⟩ : ∃ b, bsd n = b := ⟨_, rfl⟩
    have nb := bsd_bd n
    rw [ha] at s0 s1
    rw [hp] at s2 s3
    rw [hb] at nb
    have HSUM := hid (fun w' => fun (h : Rw 3 mc m0 w' Anyb (.slice A xs.length c) xs) => summed_is (w := w') (b := b) h HX.out (by omega) (by omega) (by omega) ha hp)
    have HW2 := hid (fun w' => weight_any (b := b) (a := a) (fl p) w' ⟨by omega, by omega⟩)
    have HM2 := hid (fun w' => mean_is (w := w') (b := b) (a := a) (p := p) rfl s0 ⟨by omega, by omega⟩ ⟨by omega, by omega⟩ (by omega) (by omega))
    have HBS := hid hb
    have HAP := hid (And.intro ha hp)
    clear ha hp hb
    go_enter Try.func7, Try.ntmps7
    go_wp2_with fail
    refine (awake_any _).mono ?_
    rintro e1 w1 ⟨rfl, k1⟩
    have K1 := hid k1
    clear k1
    go_wp2_with fail
    refine (based_any n _).mono ?_
    rintro e1 w2 ⟨rfl, rfl⟩
    rw [HBS.out]
    go_wp2_with fail
    refine (HSUM.out _ (HU.out.kp0 K1.out)).mono ?_
    rintro e1 w3 ⟨rfl, k3⟩
    have A3 := hid (At.mk ((K1.out.trans k3).alloc (.cells #[.int .i64 b, .complex .f64 (fl a) (fl p)] 27)) (Blk.new w3 27 #[.int .i64 b, .complex .f64 (fl a) (fl p)]))
    clear k3 K1 HSUM hb1
    go_wp2_with fail
    go_loopw [8, 9, 10, 11] (fun l h an i wr => ∃ (k : Nat) (lo hi : Int) (q : Bool), k ≤ xs.length ∧ i = .int .i64 k ∧ l = .int .i64 lo ∧ h = .int .i64 hi ∧ an = .bool q ∧ Hid (Lh b (Ws (xs.take k)) (Ps (xs.take k)) lo hi q) ∧ Hid (At w w3.heap.size 27 #[.int .i64 b, .complex .f64 (fl a) (fl p)] wr)) (fun _ _ _ i _ => xs.length - (intOf i).toNat)
    case atStart => exact ⟨0, 0, 0, false, Nat.zero_le _, rfl, rfl, rfl, rfl, hid (lh_nil b), A3⟩
    case round =>
      obtain ⟨k, lo, hi, q, hk, rfl, rfl, rfl, rfl, HL, HH⟩ := hrel
      clear A3
      by_cases hlt : k < xs.length
      · have hlt' : (k : Int) < (xs.length : Int) := by omega
        obtain ⟨b1, o1, rfl⟩ := HU.out.there (by omega)
        have t1 := sums_take hlt
        have hy := HX.out (xs.getD k m0) (by simp [List.getD, hlt])
        obtain ⟨⟨x, y, o⟩, he⟩ : ∃ m, xs.getD k m0 = m := ⟨_, rfl⟩
        rw [he] at t1 hy
        dsimp only at t1 hy
        have o2' := owt_bd hy
        have o3' := oby_bd x
        have HC := hid (fun (w' : World) (h : Kp No w w') => mem_cells HU.out hlt he h)
        have HS := hid t1
        have HY := hid hy
        have wr1 : IntKind.i64.wrap (b + oby x) = b + oby x := wrapI ⟨by omega, by omega⟩
        clear t1 hy he
        obtain ⟨c4, c5, c6⟩ := HC.out _ HH.out.kept
        have lt3 := HH.out.blk.lt
        by_cases hz : owt y = 0
        · have hz1 : (owt y == 0) = true := by simp [hz]
          have HZ := hid hz
          clear hz
          go_wp2_with fail
          refine (wgt_any x y o _ HY.out).mono ?_
          rintro e1 w5 ⟨rfl, k5⟩
          have H5 := hid (HH.out.kp k5)
          clear k5 c4 c5 c6 lt3
          go_wp2_with fail
          go_roundw
          case rel => exact ⟨k + 1, lo, hi, q, by omega, by go_num, rfl, rfl, rfl, hid (by rw [HS.out.1, HS.out.2]; exact lh_zero HL.out HZ.out), H5⟩
          case measure => simp [intOf]; omega
        · have hz1 : (owt y == 0) = false := by simp [hz]
          have HZ := hid (show 0 < owt y by omega)
          have HO := hid o3'
          clear hz o2' o3'
          cases q
          · go_wp2_with fail
            refine (wgt_any x y o _ HY.out).mono ?_
            rintro e1 w5 ⟨rfl, k5⟩
            have H5 := hid (HH.out.kp k5)
            clear k5 c4 c5 c6 lt3
            obtain ⟨c4, c5, c6⟩ := HC.out _ H5.out.kept
            have lt3 := H5.out.blk.lt
            go_wp2_with fail
            refine (by_any x y o _).mono ?_
            rintro e1 w6 ⟨rfl, k6⟩
            have H6 := hid (H5.out.kp k6)
            clear k6 c4 c5 c6 lt3
            go_wp2_with fail
            go_roundw
            case rel => exact ⟨k + 1, b + oby x, b + oby x, true, by omega, by go_num, rfl, rfl, rfl, hid (by rw [HS.out.1, HS.out.2]; exact lh_first HL.out HZ.out HO.out.1 HO.out.2), H6⟩
            case measure => simp [intOf]; omega
          · by_cases h1 : b + oby x < lo
            · have d1 := decide_eq_true h1
              by_cases h2 : hi < b + oby x
              · have d2 := decide_eq_true h2
                have HN := hid (lh_next (lo' := b + oby x) (hi' := b + oby x) HL.out HZ.out HO.out.1 HO.out.2 (by rw [if_pos h1]) (by rw [if_pos h2]))
                clear h1 h2
                go_wp2_with fail
                refine (wgt_any x y o _ HY.out).mono ?_
                rintro e1 w5 ⟨rfl, k5⟩
                have H5 := hid (HH.out.kp k5)
                clear k5 c4 c5 c6 lt3
                obtain ⟨c4, c5, c6⟩ := HC.out _ H5.out.kept
                have lt3 := H5.out.blk.lt
                go_wp2_with fail
                refine (by_any x y o _).mono ?_
                rintro e1 w6 ⟨rfl, k6⟩
                have H6 := hid (H5.out.kp k6)
                clear k6 c4 c5 c6 lt3
                go_wp2_with fail
                go_roundw
                case rel => exact ⟨k + 1, b + oby x, b + oby x, true, by omega, by go_num, rfl, rfl, rfl, hid (by rw [HS.out.1, HS.out.2]; exact HN.out), H6⟩
                case measure => simp [intOf]; omega
              · have d2 := decide_eq_false h2
                have HN := hid (lh_next (lo' := b + oby x) (hi' := hi) HL.out HZ.out HO.out.1 HO.out.2 (by rw [if_pos h1]) (by rw [if_neg h2]))
                clear h1 h2
                go_wp2_with fail
                refine (wgt_any x y o _ HY.out).mono ?_
                rintro e1 w5 ⟨rfl, k5⟩
                have H5 := hid (HH.out.kp k5)
                clear k5 c4 c5 c6 lt3
                obtain ⟨c4, c5, c6⟩ := HC.out _ H5.out.kept
                have lt3 := H5.out.blk.lt
                go_wp2_with fail
                refine (by_any x y o _).mono ?_
                rintro e1 w6 ⟨rfl, k6⟩
                have H6 := hid (H5.out.kp k6)
                clear k6 c4 c5 c6 lt3
                go_wp2_with fail
                go_roundw
                case rel => exact ⟨k + 1, b + oby x, hi, true, by omega, by go_num, rfl, rfl, rfl, hid (by rw [HS.out.1, HS.out.2]; exact HN.out), H6⟩
                case measure => simp [intOf]; omega
            · have d1 := decide_eq_false h1
              by_cases h2 : hi < b + oby x
              · have d2 := decide_eq_true h2
                have HN := hid (lh_next (lo' := lo) (hi' := b + oby x) HL.out HZ.out HO.out.1 HO.out.2 (by rw [if_neg h1]) (by rw [if_pos h2]))
                clear h1 h2
                go_wp2_with fail
                refine (wgt_any x y o _ HY.out).mono ?_
                rintro e1 w5 ⟨rfl, k5⟩
                have H5 := hid (HH.out.kp k5)
                clear k5 c4 c5 c6 lt3
                obtain ⟨c4, c5, c6⟩ := HC.out _ H5.out.kept
                have lt3 := H5.out.blk.lt
                go_wp2_with fail
                refine (by_any x y o _).mono ?_
                rintro e1 w6 ⟨rfl, k6⟩
                have H6 := hid (H5.out.kp k6)
                clear k6 c4 c5 c6 lt3
                go_wp2_with fail
                go_roundw
                case rel => exact ⟨k + 1, lo, b + oby x, true, by omega, by go_num, rfl, rfl, rfl, hid (by rw [HS.out.1, HS.out.2]; exact HN.out), H6⟩
                case measure => simp [intOf]; omega
              · have d2 := decide_eq_false h2
                have HN := hid (lh_next (lo' := lo) (hi' := hi) HL.out HZ.out HO.out.1 HO.out.2 (by rw [if_neg h1]) (by rw [if_neg h2]))
                clear h1 h2
                go_wp2_with fail
                refine (wgt_any x y o _ HY.out).mono ?_
                rintro e1 w5 ⟨rfl, k5⟩
                have H5 := hid (HH.out.kp k5)
                clear k5 c4 c5 c6 lt3
                obtain ⟨c4, c5, c6⟩ := HC.out _ H5.out.kept
                have lt3 := H5.out.blk.lt
                go_wp2_with fail
                refine (by_any x y o _).mono ?_
                rintro e1 w6 ⟨rfl, k6⟩
                have H6 := hid (H5.out.kp k6)
                clear k6 c4 c5 c6 lt3
                go_wp2_with fail
                go_roundw
                case rel => exact ⟨k + 1, lo, hi, true, by omega, by go_num, rfl, rfl, rfl, hid (by rw [HS.out.1, HS.out.2]; exact HN.out), H6⟩
                case measure => simp [intOf]; omega
      · have hlt' : ¬ (k : Int) < (xs.length : Int) := by omega
        have hd := decide_eq_false hlt'
        have ek : xs.take k = xs := List.take_of_length_le (by omega)
        rw [ek, HAP.out.1, HAP.out.2] at HL
        obtain ⟨c0, c1, _⟩ := HH.out.all
        have lt3 := HH.out.blk.lt
        clear ek
        cases q
        · obtain ⟨za, zp⟩ := HL.out.1 rfl
          have hz1 : (a == 0) = true := by simp [za]
          have HME := hid (show mean b a p = b by unfold mean; rw [if_pos za])
          have r0 : (b == b) = true := by simp
          clear za zp
          go_wp2_with fail
          refine (HW2.out _).mono ?_
          rintro e1 w5 ⟨rfl, k5⟩
          have H5 := hid (HH.out.kp k5)
          clear k5 c0 c1 lt3
          obtain ⟨c0, c1, _⟩ := H5.out.all
          have lt3 := H5.out.blk.lt
          go_wp2_with fail
          refine (HM2.out _).mono ?_
          rintro e1 w6 ⟨rfl, k6⟩
          have H6 := hid (H5.out.kp k6)
          rw [HME.out]
          clear k6 c0 c1 lt3
          go_wp2_with fail
          go_ret
          exact ⟨rfl, H6.out.kept⟩
        · obtain ⟨m1, m2, m3, m4, m5, m6⟩ := mid HL.out
          obtain ⟨v1, v2, v3, v4, v5, v6, v7⟩ := HL.out.2 rfl
          obtain ⟨m, hm⟩ : ∃ m, mean b a p = m := ⟨_, rfl⟩
          rw [hm] at HM2 m1 m2 m5 m6
          have z1 := mul_bd (a := a) (d := b - lo) s0 (by omega) (by omega) (by omega)
          have z2 := mul_bd (a := a) (d := b - hi) s0 (by omega) (by omega) (by omega)
          have z3 := mul_bd (a := a) (d := b - m) s0 (by omega) (by omega) (by omega)
          have z4 := mul_bd (a := a) (d := b - (m + 1)) s0 (by omega) (by omega) (by omega)
          have G1 := hid (fun w' => gap_is (w := w') (b := b) (a := a) (p := p) (v := lo) (d := b - lo) (z := a * (b - lo)) rfl rfl rfl ⟨by omega, by omega⟩ ⟨by omega, by omega⟩ ⟨by omega, by omega⟩ ⟨by omega, by omega⟩ ⟨by omega, by omega⟩)
          have G2 := hid (fun w' => gap_is (w := w') (b := b) (a := a) (p := p) (v := hi) (d := b - hi) (z := a * (b - hi)) rfl rfl rfl ⟨by omega, by omega⟩ ⟨by omega, by omega⟩ ⟨by omega, by omega⟩ ⟨by omega, by omega⟩ ⟨by omega, by omega⟩)
          have G3 := hid (fun w' => gap_is (w := w') (b := b) (a := a) (p := p) (v := m) (d := b - m) (z := a * (b - m)) rfl rfl rfl ⟨by omega, by omega⟩ ⟨by omega, by omega⟩ ⟨by omega, by omega⟩ ⟨by omega, by omega⟩ ⟨by omega, by omega⟩)
          have G4 := hid (fun w' => gap_is (w := w') (b := b) (a := a) (p := p) (v := m + 1) (d := b - (m + 1)) (z := a * (b - (m + 1))) rfl rfl rfl ⟨by omega, by omega⟩ ⟨by omega, by omega⟩ ⟨by omega, by omega⟩ ⟨by omega, by omega⟩ ⟨by omega, by omega⟩)
          have wr1 : IntKind.i64.wrap (m + 1) = m + 1 := wrapI ⟨by omega, by omega⟩
          generalize p + a * (b - lo) = g1 at m3 G1
          generalize p + a * (b - hi) = g2 at m4 G2
          generalize p + a * (b - m) = g3 at m5 G3
          generalize p + a * (b - (m + 1)) = g4 at m6 G4
          have d1 := decide_eq_true m1
          have d2 := decide_eq_true m2
          have d3 := decide_eq_true m3
          have d4 := decide_eq_true m4
          have d5 := decide_eq_true m5
          have d6 := decide_eq_true m6
          clear m1 m2 m3 m4 m5 m6 v1 v2 v3 v4 v5 v6 v7 z1 z2 z3 z4 hm s0 s1 s2 s3 nb HL
          go_wp2_with fail
          refine (HM2.out _).mono ?_
          rintro e1 w5 ⟨rfl, k5⟩
          have H5 := hid (HH.out.kp k5)
          clear k5 c0 c1 lt3
          obtain ⟨c0, c1, _⟩ := H5.out.all
          have lt3 := H5.out.blk.lt
          go_wp2_with fail
          refine (G1.out _).mono ?_
          rintro e1 w6 ⟨rfl, k6⟩
          have H6 := hid (H5.out.kp k6)
          clear k6 c0 c1 lt3 H5
          obtain ⟨c0, c1, _⟩ := H6.out.all
          have lt3 := H6.out.blk.lt
          go_wp2_with fail
          refine (G2.out _).mono ?_
          rintro e1 w7 ⟨rfl, k7⟩
          have H7 := hid (H6.out.kp k7)
          clear k7 c0 c1 lt3 H6
          obtain ⟨c0, c1, _⟩ := H7.out.all
          have lt3 := H7.out.blk.lt
          go_wp2_with fail
          refine (G3.out _).mono ?_
          rintro e1 w8 ⟨rfl, k8⟩
          have H8 := hid (H7.out.kp k8)
          clear k8 c0 c1 lt3 H7
          obtain ⟨c0, c1, _⟩ := H8.out.all
          have lt3 := H8.out.blk.lt
          go_wp2_with fail
          refine (G4.out _).mono ?_
          rintro e1 w9 ⟨rfl, k9⟩
          have H9 := hid (H8.out.kp k9)
          clear k9 c0 c1 lt3 H8
          obtain ⟨c0, c1, _⟩ := H9.out.all
          have lt3 := H9.out.blk.lt
          go_wp2_with fail
          go_ret
          exact ⟨rfl, H9.out.kept⟩
end Go.Proofs.Ytklkjgdhfanlcaa
