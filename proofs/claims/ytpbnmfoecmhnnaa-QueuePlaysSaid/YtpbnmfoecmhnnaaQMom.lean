/-
  Contracts of package moment, those that queue calls: New, part, Add, Weight, divide, Mean.
-/
import Derived.Test.YtpbnmfoecmhnnaaRows
import Derived.Test.YtpbnmfoecmhnnaaFlo
import Derived.Test.YtpbnmfoecmhnnaaHeld
import Derived.WalkLawsBesides
namespace Go.Proofs.Ytpbnmfoecmhnnaa
open Go.RowKit

@[go_sem] theorem to_fl (n : Int) : floatOfInt .f64 n = fl n := rfl
@[go_sem] theorem run_store_complex (P : Program) (w : World) (a : Addr) (m : Mode) (k : FloatKind) (x y : Nat) : (store a (.complex k x y) m).run P w = stored P w a (.complex k x y) m := run_store P w a _ m rfl

@[go_sem] theorem field_sum (x : Value) (a b : Nat) (w : World) : (Instr.field 119 (.agg #[x, .complex .f64 a b]) 1).run Try.prog w = .ok (.complex .f64 a b) w := by kernel_rfl

theorem new_any (b : Int) (w : World) : Calls Try.prog 68 #[.int .i64 b] w fun e w' => e = .returned (.agg #[.int .i64 b, .complex .f64 (fl 0) (fl 0)]) ∧ Kp No w w' := by
  rw [fl_zero]
  go_enter Try.func68, Try.ntmps68
  go_wp2
  refine bodyPost_ret (v := .agg #[.int .i64 b, .complex .f64 0 0]) ?_ rfl ⟨rfl, (Kp.refl No w).alloc _⟩
  rw [results_cell rfl]
  go_simp

theorem part_any {b v q d z : Int} (x y : Nat) (w : World) (hd : v - b = d) (hz : q * d = z) (id : I64 d) (iz : I64 z) :
    Calls Try.prog 89 #[.agg #[.int .i64 b, .complex .f64 x y], .int .i64 v, .int .i64 q] w fun e w' => e = .returned (.complex .f64 (fl q) (fl z)) ∧ Kp No w w' := by
  have e1 : IntKind.i64.wrap (v - b) = d := by rw [hd]; exact wrapI id
  have e2 : IntKind.i64.wrap (q * d) = z := by rw [hz]; exact wrapI iz
  clear hd hz id iz
  go_enter Try.func89, Try.ntmps89
  go_wp2
  go_ret
  exact ⟨rfl, (Kp.refl No w).alloc _⟩

theorem mweight_any {b a : Int} (y : Nat) (w : World) (ha : F53 a) :
    Calls Try.prog 90 #[.agg #[.int .i64 b, .complex .f64 (fl a) y]] w fun e w' => e = .returned (.int .i64 a) ∧ Kp No w w' := by
  have hc : ∀ w, (convert 143 3 (.float .f64 (fl a))).run Try.prog w = .ok (.int .i64 a) w := fun w => run_convert_float_int w 143 3 .f64 .i64 (fl a) a (by rw [Try.underlying143]; rfl) Try.underlying3 (fl_int ha)
  go_enter Try.func90, Try.ntmps90
  go_wp2
  go_ret
  exact ⟨rfl, (Kp.refl No w).alloc _⟩

theorem add_is {b a p v q d z a' p' : Int} {w : World} (hd : v - b = d) (hz : q * d = z) (id : I64 d) (ha : a + q = a') (hp : p + z = p') (fa : F53 a) (fp : F53 p) (fq : F53 q) (fz : F53 z) (fa' : F53 a') (fp' : F53 p') :
    Calls Try.prog 69 #[.agg #[.int .i64 b, .complex .f64 (fl a) (fl p)], .int .i64 v, .int .i64 q] w fun e w' => e = .returned (.agg #[.int .i64 b, .complex .f64 (fl a') (fl p')]) ∧ Kp No w w' := by
  subst ha hp
  have hop : ∀ t w, (binOp .add t (.complex .f64 (fl a) (fl p)) (.complex .f64 (fl q) (fl z))).run Try.prog w = .ok (.complex .f64 (fl (a + q)) (fl (p + z))) w :=
    fun t w => run_complex_sum (P := Try.prog) w .add (Or.inl rfl) t .f64 _ _ _ _ _ _ (fl_cadd fa fp (fl_whl fq) (fl_whl fz) fa' fp')
  obtain ⟨x, hx⟩ : ∃ x, fl (a + q) = x := ⟨_, rfl⟩
  obtain ⟨y, hy⟩ : ∃ y, fl (p + z) = y := ⟨_, rfl⟩
  rw [hx, hy] at hop ⊢
  have iz : I64 z := by unfold F53 at fz; unfold I64; omega
  have HP := hid (fun w => part_any (fl a) (fl p) w hd hz id iz)
  have A5 := (At2.start w 119 (.int .i64 b) (.complex .f64 (fl a) (fl p)) (.int .i64 0) (.complex .f64 0 0)).kp (Kp.refl No _).drew
  clear hx hy hd hz id fa fp fq fz fa' fp' iz
  go_enter Try.func69, Try.ntmps69
  go_wp2_with fail
  go_region_held3 (fun w' => w'.cell? ⟨w.heap.size, 0, none⟩ = some (.int .i64 b) ∧ w'.cell? ⟨w.heap.size, 1, none⟩ = some (.complex .f64 (fl a) (fl p)) ∧ At w w.heap.size 119 #[.int .i64 b, .complex .f64 (fl a) (fl p)] w')
    (first | exact A5.at1 | exact At.stepc (by assumption) (by assumption) | exact At.putc (by assumption) (by omega) (by omega) _ _)
    (first | (go_at_call 89; refine (HP.out _).mono ?_; rintro e w5 ⟨rfl, k5⟩; obtain ⟨_, _, c0, c1, f0, f1, _⟩ := (A5.kp k5).allf; have lt5 := (A5.kp k5).two.lt))
  rename_i hh
  have HH := hid hh.2.2.kept
  clear hh
  go_wp2_with fail
  refine bodyPost_ret (v := .agg #[.int .i64 b, .complex .f64 x y]) ?_ rfl ⟨rfl, HH.out⟩
  rw [results_cell rfl]
  go_simp

theorem tq (n y : Int) (h : 0 < y) : (0 ≤ n.tmod y ∧ n.tdiv y = n / y) ∨ (n.tmod y < 0 ∧ n.tdiv y = n / y + 1) := by
  rw [Int.tmod_eq_emod, Int.tdiv_eq_ediv]
  have h0 := Int.emod_nonneg n (show y ≠ 0 by omega)
  have h1 := Int.emod_lt_of_pos n h
  by_cases hc : 0 ≤ n ∨ y ∣ n
  · simp only [if_pos hc]; left; omega
  · simp only [if_neg hc]
    right
    have hs : y.sign = 1 := Int.sign_eq_one_of_pos h
    rw [hs]
    refine ⟨by omega, rfl⟩

theorem divide_is {n y q : Int} {w : World} (h : 0 < y) (hn : F53 n) (hq : n / y = q) :
    Calls Try.prog 91 #[.int .i64 n, .int .i64 y] w fun e w' => e = .returned (.int .i64 q) ∧ w' = w := by
  have hz : y ≠ 0 := by omega
  unfold F53 at hn
  have q0 : -9007199254740992 ≤ q := by rw [← hq]; exact Int.le_ediv_of_mul_le h (by omega)
  have q1 : q < 9007199254740992 := by rw [← hq]; exact Int.ediv_lt_of_lt_mul h (by omega)
  rcases tq n y h with ⟨h1, h2⟩ | ⟨h1, h2⟩
  · have hd : decide (n.tmod y < 0) = false := by simp; omega
    have e1 : IntKind.i64.wrap (n.tdiv y) = q := by rw [h2, hq]; exact wrapI ⟨by omega, by omega⟩
    clear h1 h2 hq
    go_enter Try.func91, Try.ntmps91
    go_wp2
    go_ret
    exact ⟨rfl, rfl⟩
  · have hd : decide (n.tmod y < 0) = true := by simp; omega
    have e1 : IntKind.i64.wrap (n.tdiv y) = q + 1 := by rw [h2, hq]; exact wrapI ⟨by omega, by omega⟩
    have e2 : IntKind.i64.wrap (q + 1 - 1) = q := by rw [show q + 1 - 1 = q by omega]; exact wrapI ⟨by omega, by omega⟩
    clear h1 h2 hq
    go_enter Try.func91, Try.ntmps91
    go_wp2
    go_ret
    exact ⟨rfl, rfl⟩

/-- The mean. -/
def mean (b a p : Int) : Int := if a = 0 then b else b + p / a

theorem mean_bd {p a : Int} (h : 0 < a) (hp : F53 p) : -9007199254740992 ≤ p / a ∧ p / a < 9007199254740992 := by
  unfold F53 at hp
  exact ⟨Int.le_ediv_of_mul_le h (by omega), Int.ediv_lt_of_lt_mul h (by omega)⟩

theorem mean_is {b a p m : Int} {w : World} (hm : mean b a p = m) (ha : 0 ≤ a) (fa : F53 a) (fp : F53 p) (b0 : -2305843009213693952 ≤ b) (b1 : b ≤ 2305843009213693952) :
    Calls Try.prog 70 #[.agg #[.int .i64 b, .complex .f64 (fl a) (fl p)]] w fun e w' => e = .returned (.int .i64 m) ∧ Kp No w w' := by
  have HW := hid (fun w => mweight_any (b := b) (fl p) w fa)
  have A5 := At.mk ((Kp.refl No w).alloc (.cells #[.int .i64 b, .complex .f64 (fl a) (fl p)] 119)) (Blk.new w 119 #[.int .i64 b, .complex .f64 (fl a) (fl p)])
  have HA := hid A5
  clear A5
  by_cases h0 : a = 0
  · have hb : (a == 0) = true := by simp [h0]
    have HM := hid (show m = b by rw [← hm]; unfold mean; rw [if_pos h0])
    clear hm h0 fa fp ha b0 b1
    go_enter Try.func70, Try.ntmps70
    go_wp2_with fail
    refine (HW.out _).mono ?_
    rintro e w1 ⟨rfl, k1⟩
    obtain ⟨c0, c1, H1⟩ := (HA.out.kp k1).all
    have H := hid H1
    clear k1 HA H1
    go_wp2_with fail
    go_ret
    rw [HM.out]
    exact ⟨rfl, H.out.kept⟩
  · have hb : (a == 0) = false := by simp [h0]
    have hap : 0 < a := by omega
    obtain ⟨m0, m1⟩ := mean_bd hap fp
    obtain ⟨q, hq⟩ : ∃ q, p / a = q := ⟨_, rfl⟩
    rw [hq] at m0 m1
    have hc : ∀ w, (convert 143 3 (.float .f64 (fl p))).run Try.prog w = .ok (.int .i64 p) w := fun w => run_convert_float_int w 143 3 .f64 .i64 (fl p) p (by rw [Try.underlying143]; rfl) Try.underlying3 (fl_int fp)
    have HD := hid (fun w => divide_is (w := w) hap fp hq)
    have e1 : IntKind.i64.wrap (b + q) = m := by rw [← hm]; unfold mean; rw [if_neg h0, hq]; exact wrapI ⟨by omega, by omega⟩
    clear hm h0 fa fp ha b0 b1 hq m0 m1 hap
    go_enter Try.func70, Try.ntmps70
    go_wp2_with fail
    refine (HW.out _).mono ?_
    rintro e w1 ⟨rfl, k1⟩
    obtain ⟨c0, c1, H1⟩ := (HA.out.kp k1).all
    have H := hid H1
    clear k1 HA H1
    go_wp2_with fail
    go_quiet (first | (go_at_call 91; exact Calls.quiet_of_same (HD.out _)))
    go_wp2_with fail
    go_ret
    exact ⟨rfl, H.out.kept.drewN _⟩
end Go.Proofs.Ytpbnmfoecmhnnaa
