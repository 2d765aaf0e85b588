/-
  Contracts: divide, Mean, the document's Add, Mean, Gap; same, by, weight, based.
-/
import Derived.Test.YtklkjgdhfanlcaaMomA
namespace Go.Proofs.Ytklkjgdhfanlcaa
open Go.RowKit

theorem tq (n y : Int) (h : 0 < y) : (0 ≤ n.tmod y ∧ n.tdiv y = n / y) ∨ (n.tmod y < 0 ∧ n.tdiv y = n / y + 1) := by
  rw [Int.tmod_eq_emod, Int.tdiv_eq_ediv]
  have h0 := Int.emod_nonneg n (show y ≠ 0 by omega)
  have h1 := Int.emod_lt_of_pos n h
  by_cases hc : 0 ≤ n ∨ y ∣ n
  · simp only [if_pos hc]; left; omega
  · simp only [if_neg hc]
    right
    have hs : y.sign = 1 := Int.sign_eq_one_of_pos h
    rw [hs]
    refine ⟨by omega, rfl⟩

theorem divide_is {n y q : Int} {w : World} (h : 0 < y) (hn : F53 n) (hq : n / y = q) :
    Calls Try.prog 27 #[.int .i64 n, .int .i64 y] w fun e w' => e = .returned (.int .i64 q) ∧ w' = w := by
  have hz : y ≠ 0 := by omega
  unfold F53 at hn
  have q0 : -9007199254740992 ≤ q := by rw [← hq]; exact Int.le_ediv_of_mul_le h (by omega)
  have q1 : q < 9007199254740992 := by rw [← hq]; exact Int.ediv_lt_of_lt_mul h (by omega)
  rcases tq n y h with ⟨h1, h2⟩ | ⟨h1, h2⟩
  · have hd : decide (n.tmod y < 0) = false := by simp; omega
    have e1 : IntKind.i64.wrap (n.tdiv y) = q := by rw [h2, hq]; exact wrapI ⟨by omega, by omega⟩
    clear h1 h2 hq
    go_enter Try.func27, Try.ntmps27
    go_wp2
    go_ret
    exact ⟨rfl, rfl⟩
  · have hd : decide (n.tmod y < 0) = true := by simp; omega
    have e1 : IntKind.i64.wrap (n.tdiv y) = q + 1 := by rw [h2, hq]; exact wrapI ⟨by omega, by omega⟩
    have e2 : IntKind.i64.wrap (q + 1 - 1) = q := by rw [show q + 1 - 1 = q by omega]; exact wrapI ⟨by omega, by omega⟩
    clear h1 h2 hq
    go_enter Try.func27, Try.ntmps27
    go_wp2
    go_ret
    exact ⟨rfl, rfl⟩

/-- The mean. -/
def mean (b a p : Int) : Int := if a = 0 then b else b + p / a

theorem mean_bd {p a : Int} (h : 0 < a) (hp : F53 p) : -9007199254740992 ≤ p / a ∧ p / a < 9007199254740992 := by
  unfold F53 at hp
  exact ⟨Int.le_ediv_of_mul_le h (by omega), Int.ediv_lt_of_lt_mul h (by omega)⟩

theorem mean_is {b a p m : Int} {w : World} (hm : mean b a p = m) (ha : 0 ≤ a) (fa : F53 a) (fp : F53 p) (b0 : -2305843009213693952 ≤ b) (b1 : b ≤ 2305843009213693952) :
    Calls Try.prog 19 #[.agg #[.int .i64 b, .complex .f64 (fl a) (fl p)]] w fun e w' => e = .returned (.int .i64 m) ∧ Kp No w w' := by
  have HW := hid (fun w => weight_any (b := b) (fl p) w fa)
  have A5 := At.mk ((Kp.refl No w).alloc (.cells #[.int .i64 b, .complex .f64 (fl a) (fl p)] 27)) (Blk.new w 27 #[.int .i64 b, .complex .f64 (fl a) (fl p)])
  have HA := hid A5
  clear A5
  by_cases h0 : a = 0
  · have hb : (a == 0) = true := by simp [h0]
    have HM := hid (show m = b by rw [← hm]; unfold mean; rw [if_pos h0])
    clear hm h0 fa fp ha b0 b1
    go_enter Try.func19, Try.ntmps19
    go_wp2_with fail
    refine (HW.out _).mono ?_
    rintro e w1 ⟨rfl, k1⟩
    obtain ⟨c0, c1, H1⟩ := (HA.out.kp k1).all
    have H := hid H1
    clear k1 HA H1
    go_wp2_with fail
    go_ret
    rw [HM.out]
    exact ⟨rfl, H.out.kept⟩
  · have hb : (a == 0) = false := by simp [h0]
    have hap : 0 < a := by omega
    obtain ⟨m0, m1⟩ := mean_bd hap fp
    obtain ⟨q, hq⟩ : ∃ q, p / a = q := ⟨_, rfl⟩
    rw [hq] at m0 m1
    have hc : ∀ w, (convert 47 3 (.float .f64 (fl p))).run Try.prog w = .ok (.int .i64 p) w := fun w => run_convert_float_int w 47 3 .f64 .i64 (fl p) p (by rw [Try.underlying47]; rfl) Try.underlying3 (fl_int fp)
    have HD := hid (fun w => divide_is (w := w) hap fp hq)
    have e1 : IntKind.i64.wrap (b + q) = m := by rw [← hm]; unfold mean; rw [if_neg h0, hq]; exact wrapI ⟨by omega, by omega⟩
    clear hm h0 fa fp ha b0 b1 hq m0 m1 hap
    go_enter Try.func19, Try.ntmps19
    go_wp2_with fail
    refine (HW.out _).mono ?_
    rintro e w1 ⟨rfl, k1⟩
    obtain ⟨c0, c1, H1⟩ := (HA.out.kp k1).all
    have H := hid H1
    clear k1 HA H1
    go_wp2_with fail
    go_quiet (first | (go_at_call 27; exact Calls.quiet_of_same (HD.out _)))
    go_wp2_with fail
    go_ret
    exact ⟨rfl, H.out.kept.drewN _⟩
end Go.Proofs.Ytklkjgdhfanlcaa
