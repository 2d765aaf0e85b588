/-
  Contracts: the document's Mean; awake, the chapter's example.
-/
import Derived.Test.YtklkjgdhfanlcaaMomC
namespace Go.Proofs.Ytklkjgdhfanlcaa
open Go.RowKit

theorem refmean_is {b a p m : Int} {w : World} (hm : mean b a p = m) (ha : 0 ≤ a) (fa : F53 a) (fp : F53 p) (b0 : -2305843009213693952 ≤ b) (b1 : b ≤ 2305843009213693952) :
    Calls Try.prog 20 #[.agg #[.int .i64 b, .int .i64 a, .int .i64 p]] w fun e w' => e = .returned (.int .i64 m) ∧ Kp No w w' := by
  by_cases h0 : a = 0
  · have hb : (a == 0) = true := by simp [h0]
    have HM := hid (show m = b by rw [← hm]; unfold mean; rw [if_pos h0])
    clear hm h0 fa fp ha b0 b1
    go_enter Try.func20, Try.ntmps20
    go_wp2_with fail
    go_ret
    rw [HM.out]
    exact ⟨rfl, (Kp.refl No w).alloc _⟩
  · have hb : (a == 0) = false := by simp [h0]
    have hap : 0 < a := by omega
    obtain ⟨m0, m1⟩ := mean_bd hap fp
    have ht := tq p a hap
    have hlo : p / a * a ≤ p := Int.ediv_mul_le p (by omega)
    have hhi : p < (p / a + 1) * a := Int.lt_ediv_add_one_mul_self p hap
    rw [show (p / a + 1) * a = p / a * a + a by rw [Int.add_mul, Int.one_mul]] at hhi
    obtain ⟨q, hq⟩ : ∃ q, p / a = q := ⟨_, rfl⟩
    rw [hq] at m0 m1 ht hlo hhi
    have e1 : IntKind.i64.wrap (b + q) = m := by rw [← hm]; unfold mean; rw [if_neg h0, hq]; exact wrapI ⟨by omega, by omega⟩
    have hmul : (q + 1) * a = q * a + a := by rw [Int.add_mul, Int.one_mul]
    obtain ⟨z, hz⟩ : ∃ z, q * a = z := ⟨_, rfl⟩
    rw [hz] at hmul hlo hhi
    have E1 := hid e1
    unfold F53 at fp fa
    have hz0 : -18014398509481984 ≤ z := by omega
    have hz1 : z ≤ 18014398509481984 := by omega
    have E2 := hid (show IntKind.i64.wrap (q * a) = z ∧ IntKind.i64.wrap ((q + 1) * a) = z + a from ⟨by rw [hz]; exact wrapI ⟨by omega, by omega⟩, by rw [hmul]; exact wrapI ⟨by omega, by omega⟩⟩)
    obtain ⟨t, ht1, ht2⟩ : ∃ t, IntKind.i64.wrap (p.tdiv a) = t ∧ (t = q ∨ t = q + 1) := by
      rcases ht with ⟨_, h⟩ | ⟨_, h⟩
      · exact ⟨q, by rw [h]; exact wrapI ⟨by omega, by omega⟩, .inl rfl⟩
      · exact ⟨q + 1, by rw [h]; exact wrapI ⟨by omega, by omega⟩, .inr rfl⟩
    have HT := hid ht2
    clear hm hq ht hmul e1 hz ht2
    go_enter Try.func20, Try.ntmps20
    go_wp2_with fail
    clear ht1
    go_loop [3] (fun s => ∃ u : Int, s = .int .i64 u ∧ Hid (u = q ∨ u = q + 1)) (fun s => (intOf s - q).toNat)
    case atStart => exact ⟨t, rfl, HT⟩
    case round =>
      obtain ⟨u, rfl, HU⟩ := hrel
      clear HT
      rcases HU.out with hu | hu
      · subst hu
        have e1 := E1.out
        have e2 := E2.out.1
        have hd : decide (p < z) = false := by simp; omega
        go_wp2_with fail
        go_ret
        exact ⟨rfl, (Kp.refl No w).alloc _⟩
      · subst hu
        have e2 := E2.out.2
        have hd : decide (p < z + a) = true := by simp; omega
        have e3 : IntKind.i64.wrap (q + 1 - 1) = q := by rw [show q + 1 - 1 = q by omega]; exact wrapI ⟨by omega, by omega⟩
        go_wp2_with fail
        go_round
        case rel => exact ⟨q, rfl, hid (.inl rfl)⟩
        case measure => simp [intOf]; omega

theorem awake_any (w : World) : Calls Try.prog 9 #[] w fun e w' => e = .returned (.bool true) ∧ Kp No w w' := by
  have q4 : (FloatKind.f64.format.order (fl 4) 4616189618054758400 == some .eq) = true := by decide
  have q8 : (FloatKind.f64.format.order (fl 8) 4620693217682128896 == some .eq) = true := by decide
  go_enter Try.func9, Try.ntmps9
  go_wp2_with fail
  refine (new_any 100 _).mono ?_
  rintro e w1 ⟨rfl, k1⟩
  have K1 := hid k1
  clear k1
  go_wp2_with fail
  refine (add_is (b := 100) (a := 0) (p := 0) (v := 101) (q := 3) (d := 1) (z := 3) (a' := 3) (p' := 3) (by omega) (by omega) ⟨by omega, by omega⟩ (by omega) (by omega) ⟨by omega, by omega⟩ ⟨by omega, by omega⟩ ⟨by omega, by omega⟩ ⟨by omega, by omega⟩ ⟨by omega, by omega⟩ ⟨by omega, by omega⟩).mono ?_
  rintro e w2 ⟨rfl, k2⟩
  have K2 := hid (K1.out.trans k2)
  clear k2 K1
  go_wp2_with fail
  refine (add_is (b := 100) (a := 3) (p := 3) (v := 105) (q := 1) (d := 5) (z := 5) (a' := 4) (p' := 8) (by omega) (by omega) ⟨by omega, by omega⟩ (by omega) (by omega) ⟨by omega, by omega⟩ ⟨by omega, by omega⟩ ⟨by omega, by omega⟩ ⟨by omega, by omega⟩ ⟨by omega, by omega⟩ ⟨by omega, by omega⟩).mono ?_
  rintro e w3 ⟨rfl, k3⟩
  have K3 := hid (K2.out.trans k3)
  clear k3 K2
  have A3 := hid (At.mk ((Kp.refl No w3).alloc (.cells #[.int .i64 100, .complex .f64 (fl 4) (fl 8)] 27)) (Blk.new w3 27 #[.int .i64 100, .complex .f64 (fl 4) (fl 8)]))
  go_wp2_with fail
  refine (mean_is (b := 100) (a := 4) (p := 8) (m := 102) (by decide) (by omega) ⟨by omega, by omega⟩ ⟨by omega, by omega⟩ (by omega) (by omega)).mono ?_
  rintro e w4 ⟨rfl, k4⟩
  have A4 := hid (A3.out.kp k4)
  obtain ⟨c0, c1, _⟩ := A4.out.all
  clear k4 A3
  go_wp2_with fail
  refine (gap_is (b := 100) (a := 4) (p := 8) (v := 101) (d := -1) (z := -4) (g := 4) (by omega) (by omega) (by omega) ⟨by omega, by omega⟩ ⟨by omega, by omega⟩ ⟨by omega, by omega⟩ ⟨by omega, by omega⟩ ⟨by omega, by omega⟩).mono ?_
  rintro e w5 ⟨rfl, k5⟩
  have A5 := hid (A4.out.kp k5)
  clear k5 A4 c0 c1
  obtain ⟨c0, c1, _⟩ := A5.out.all
  go_wp2_with fail
  refine (gap_is (b := 100) (a := 4) (p := 8) (v := 105) (d := -5) (z := -20) (g := -12) (by omega) (by omega) (by omega) ⟨by omega, by omega⟩ ⟨by omega, by omega⟩ ⟨by omega, by omega⟩ ⟨by omega, by omega⟩ ⟨by omega, by omega⟩).mono ?_
  rintro e w6 ⟨rfl, k6⟩
  have A6 := hid (A5.out.kp k6)
  clear k6 A5 c0 c1
  obtain ⟨c0, c1, _⟩ := A6.out.all
  go_wp2_with fail
  refine (weight_any (b := 100) (a := 4) (fl 8) _ ⟨by omega, by omega⟩).mono ?_
  rintro e w7 ⟨rfl, k7⟩
  have K7 := hid (K3.out.trans (A6.out.kp k7).kept)
  clear k7 A6 c0 c1
  go_wp2_with fail
  go_ret
  exact ⟨rfl, K7.out⟩
end Go.Proofs.Ytklkjgdhfanlcaa
