/-
  Contracts: New, part, Add, Take, Shift, Join, Weight, divide, Mean, Gap.
-/
import Derived.Test.YtklkjgdhfanlcaaRows
import Derived.Test.YtklkjgdhfanlcaaFlo
import Derived.Test.YtklkjgdhfanlcaaHeld
import Derived.WalkLawsBesides
namespace Go.Proofs.Ytklkjgdhfanlcaa
open Go.RowKit

@[go_sem] theorem to_fl (n : Int) : floatOfInt .f64 n = fl n := rfl
@[go_sem] theorem run_store_complex (P : Program) (w : World) (a : Addr) (m : Mode) (k : FloatKind) (x y : Nat) : (store a (.complex k x y) m).run P w = stored P w a (.complex k x y) m := run_store P w a _ m rfl

@[go_sem] theorem field_sum (x : Value) (a b : Nat) (w : World) : (Instr.field 27 (.agg #[x, .complex .f64 a b]) 1).run Try.prog w = .ok (.complex .f64 a b) w := by kernel_rfl

theorem new_any (b : Int) (w : World) : Calls Try.prog 11 #[.int .i64 b] w fun e w' => e = .returned (.agg #[.int .i64 b, .complex .f64 (fl 0) (fl 0)]) ∧ Kp No w w' := by
  rw [fl_zero]
  go_enter Try.func11, Try.ntmps11
  go_wp2
  refine bodyPost_ret (v := .agg #[.int .i64 b, .complex .f64 0 0]) ?_ rfl ⟨rfl, (Kp.refl No w).alloc _⟩
  rw [results_cell rfl]
  go_simp

theorem part_any {b v q d z : Int} (x y : Nat) (w : World) (hd : v - b = d) (hz : q * d = z) (id : I64 d) (iz : I64 z) :
    Calls Try.prog 26 #[.agg #[.int .i64 b, .complex .f64 x y], .int .i64 v, .int .i64 q] w fun e w' => e = .returned (.complex .f64 (fl q) (fl z)) ∧ Kp No w w' := by
  have e1 : IntKind.i64.wrap (v - b) = d := by rw [hd]; exact wrapI id
  have e2 : IntKind.i64.wrap (q * d) = z := by rw [hz]; exact wrapI iz
  clear hd hz id iz
  go_enter Try.func26, Try.ntmps26
  go_wp2
  go_ret
  exact ⟨rfl, (Kp.refl No w).alloc _⟩

theorem weight_any {b a : Int} (y : Nat) (w : World) (ha : F53 a) :
    Calls Try.prog 18 #[.agg #[.int .i64 b, .complex .f64 (fl a) y]] w fun e w' => e = .returned (.int .i64 a) ∧ Kp No w w' := by
  have hc : ∀ w, (convert 47 3 (.float .f64 (fl a))).run Try.prog w = .ok (.int .i64 a) w := fun w => run_convert_float_int w 47 3 .f64 .i64 (fl a) a (by rw [Try.underlying47]; rfl) Try.underlying3 (fl_int ha)
  go_enter Try.func18, Try.ntmps18
  go_wp2
  go_ret
  exact ⟨rfl, (Kp.refl No w).alloc _⟩

theorem add_is {b a p v q d z a' p' : Int} {w : World} (hd : v - b = d) (hz : q * d = z) (id : I64 d) (ha : a + q = a') (hp : p + z = p') (fa : F53 a) (fp : F53 p) (fq : F53 q) (fz : F53 z) (fa' : F53 a') (fp' : F53 p') :
    Calls Try.prog 13 #[.agg #[.int .i64 b, .complex .f64 (fl a) (fl p)], .int .i64 v, .int .i64 q] w fun e w' => e = .returned (.agg #[.int .i64 b, .complex .f64 (fl a') (fl p')]) ∧ Kp No w w' := by
  subst ha hp
  have hop : ∀ t w, (binOp .add t (.complex .f64 (fl a) (fl p)) (.complex .f64 (fl q) (fl z))).run Try.prog w = .ok (.complex .f64 (fl (a + q)) (fl (p + z))) w :=
    fun t w => run_complex_sum (P := Try.prog) w .add (Or.inl rfl) t .f64 _ _ _ _ _ _ (fl_cadd fa fp (fl_whl fq) (fl_whl fz) fa' fp')
  obtain ⟨x, hx⟩ : ∃ x, fl (a + q) = x := ⟨_, rfl⟩
  obtain ⟨y, hy⟩ : ∃ y, fl (p + z) = y := ⟨_, rfl⟩
  rw [hx, hy] at hop ⊢
  have iz : I64 z := by unfold F53 at fz; unfold I64; omega
  have HP := hid (fun w => part_any (fl a) (fl p) w hd hz id iz)
  have A5 := (At2.start w 27 (.int .i64 b) (.complex .f64 (fl a) (fl p)) (.int .i64 0) (.complex .f64 0 0)).kp (Kp.refl No _).drew
  clear hx hy hd hz id fa fp fq fz fa' fp' iz
  go_enter Try.func13, Try.ntmps13
  go_wp2_with fail
  go_region_held3 (fun w' => w'.cell? ⟨w.heap.size, 0, none⟩ = some (.int .i64 b) ∧ w'.cell? ⟨w.heap.size, 1, none⟩ = some (.complex .f64 (fl a) (fl p)) ∧ At w w.heap.size 27 #[.int .i64 b, .complex .f64 (fl a) (fl p)] w')
    (first | exact A5.at1 | exact At.stepc (by assumption) (by assumption) | exact At.putc (by assumption) (by omega) (by omega) _ _)
    (first | (go_at_call 26; refine (HP.out _).mono ?_; rintro e w5 ⟨rfl, k5⟩; obtain ⟨_, _, c0, c1, f0, f1, _⟩ := (A5.kp k5).allf; have lt5 := (A5.kp k5).two.lt))
  rename_i hh
  have HH := hid hh.2.2.kept
  clear hh
  go_wp2_with fail
  refine bodyPost_ret (v := .agg #[.int .i64 b, .complex .f64 x y]) ?_ rfl ⟨rfl, HH.out⟩
  rw [results_cell rfl]
  go_simp

theorem take_is {b a p v q d z a' p' : Int} {w : World} (hd : v - b = d) (hz : q * d = z) (id : I64 d) (ha : a - q = a') (hp : p - z = p') (fa : F53 a) (fp : F53 p) (fq : F53 q) (fz : F53 z) (fa' : F53 a') (fp' : F53 p') :
    Calls Try.prog 16 #[.agg #[.int .i64 b, .complex .f64 (fl a) (fl p)], .int .i64 v, .int .i64 q] w fun e w' => e = .returned (.agg #[.int .i64 b, .complex .f64 (fl a') (fl p')]) ∧ Kp No w w' := by
  subst ha hp
  have hop : ∀ t w, (binOp .sub t (.complex .f64 (fl a) (fl p)) (.complex .f64 (fl q) (fl z))).run Try.prog w = .ok (.complex .f64 (fl (a - q)) (fl (p - z))) w :=
    fun t w => run_complex_sum (P := Try.prog) w .sub (Or.inr rfl) t .f64 _ _ _ _ _ _ (fl_csub fa fp fq fz fa' fp')
  obtain ⟨x, hx⟩ : ∃ x, fl (a - q) = x := ⟨_, rfl⟩
  obtain ⟨y, hy⟩ : ∃ y, fl (p - z) = y := ⟨_, rfl⟩
  rw [hx, hy] at hop ⊢
  have iz : I64 z := by unfold F53 at fz; unfold I64; omega
  have HP := hid (fun w => part_any (fl a) (fl p) w hd hz id iz)
  have A5 := (At2.start w 27 (.int .i64 b) (.complex .f64 (fl a) (fl p)) (.int .i64 0) (.complex .f64 0 0)).kp (Kp.refl No _).drew
  clear hx hy hd hz id fa fp fq fz fa' fp' iz
  go_enter Try.func16, Try.ntmps16
  go_wp2_with fail
  go_region_held3 (fun w' => w'.cell? ⟨w.heap.size, 0, none⟩ = some (.int .i64 b) ∧ w'.cell? ⟨w.heap.size, 1, none⟩ = some (.complex .f64 (fl a) (fl p)) ∧ At w w.heap.size 27 #[.int .i64 b, .complex .f64 (fl a) (fl p)] w')
    (first | exact A5.at1 | exact At.stepc (by assumption) (by assumption) | exact At.putc (by assumption) (by omega) (by omega) _ _)
    (first | (go_at_call 26; refine (HP.out _).mono ?_; rintro e w5 ⟨rfl, k5⟩; obtain ⟨_, _, c0, c1, f0, f1, _⟩ := (A5.kp k5).allf; have lt5 := (A5.kp k5).two.lt))
  rename_i hh
  have HH := hid hh.2.2.kept
  clear hh
  go_wp2_with fail
  refine bodyPost_ret (v := .agg #[.int .i64 b, .complex .f64 x y]) ?_ rfl ⟨rfl, HH.out⟩
  rw [results_cell rfl]
  go_simp

theorem shift_is {b a p n d z p' : Int} {w : World} (hd : b - n = d) (hz : a * d = z) (hp : p + z = p') (fa : F53 a) (fp : F53 p) (fd : F53 d) (fz : F53 z) (fp' : F53 p') :
    Calls Try.prog 24 #[.agg #[.int .i64 b, .complex .f64 (fl a) (fl p)], .int .i64 n] w fun e w' => e = .returned (.agg #[.int .i64 n, .complex .f64 (fl a) (fl p')]) ∧ Kp No w w' := by
  subst hp
  have e1 : IntKind.i64.wrap (b - n) = d := by rw [hd]; refine wrapI ?_; unfold F53 at fd; unfold I64; omega
  subst hz
  obtain ⟨r, hr, hw⟩ := fl_mul fa fd fz
  have hm : ∀ t w, (binOp .mul t (.float .f64 (fl a)) (.float .f64 (fl d))).run Try.prog w = .ok (.float .f64 r) w := fun t w => run_float_arith (P := Try.prog) w .mul t .f64 _ _ _ hr
  have hop : ∀ t w, (binOp .add t (.complex .f64 (fl a) (fl p)) (.complex .f64 0 r)).run Try.prog w = .ok (.complex .f64 (fl a) (fl (p + a * d))) w :=
    fun t w => run_complex_sum (P := Try.prog) w .add (Or.inl rfl) t .f64 _ _ _ _ _ _ (by
      have := fl_cadd (x := 0) (c := 0) fa fp (by have h := fl_whl (n := 0) ⟨by omega, by omega⟩; rwa [fl_zero] at h) hw (by rwa [Int.add_zero]) fp'
      rwa [Int.add_zero] at this)
  obtain ⟨y, hy⟩ : ∃ y, fl (p + a * d) = y := ⟨_, rfl⟩
  rw [hy] at hop ⊢
  clear hy hd fa fp fd fz fp' hr hw
  go_enter Try.func24, Try.ntmps24
  go_wp2
  refine bodyPost_ret (v := .agg #[.int .i64 n, .complex .f64 (fl a) y]) ?_ rfl ⟨rfl, ((Kp.refl No w).alloc _).alloc _⟩
  rw [results_cell rfl]
  go_simp

theorem gap_is {b a p v d z g : Int} {w : World} (hd : b - v = d) (hz : a * d = z) (hp : p + z = g) (fa : F53 a) (fp : F53 p) (fd : F53 d) (fz : F53 z) (fg : F53 g) :
    Calls Try.prog 21 #[.agg #[.int .i64 b, .complex .f64 (fl a) (fl p)], .int .i64 v] w fun e w' => e = .returned (.int .i64 g) ∧ Kp No w w' := by
  have hc : ∀ w, (convert 47 3 (.float .f64 (fl g))).run Try.prog w = .ok (.int .i64 g) w := fun w => run_convert_float_int w 47 3 .f64 .i64 (fl g) g (by rw [Try.underlying47]; rfl) Try.underlying3 (fl_int fg)
  have HS := hid (fun w => shift_is (w := w) hd hz hp fa fp fd fz fg)
  clear hd hz hp fa fp fd fz fg
  go_enter Try.func21, Try.ntmps21
  go_wp2_with fail
  refine (HS.out _).mono ?_
  rintro e w1 ⟨rfl, k1⟩
  have K1 := hid (((Kp.refl No w).alloc _).trans k1)
  clear k1
  go_wp2_with fail
  go_ret
  exact ⟨rfl, K1.out⟩

/-- Three blocks of two cells. -/
theorem at3_start (w : World) (t : TypeId) (x y x' y' u v : Value) : At2 w t w.heap.size (w.heap.size + 1) x y x' y' (((w.alloc (.cells #[x, y] t)).alloc (.cells #[x', y'] t)).alloc (.cells #[u, v] t)) ∧
    Blk (((w.alloc (.cells #[x, y] t)).alloc (.cells #[x', y'] t)).alloc (.cells #[u, v] t)) (w.heap.size + 2) t #[u, v] :=
  ⟨(At2.start w t x y x' y').kp ((Kp.refl No _).alloc _), (Blk.new _ t #[u, v]).next (by simp)⟩

theorem join_is {b a p n c q d z q' a' p' : Int} {w : World} (hd : n - b = d) (hz : c * d = z) (hq : q + z = q') (ha : a + c = a') (hp : p + q' = p') (fa : F53 a) (fp : F53 p) (fc : F53 c) (fq : F53 q) (fd : F53 d) (fz : F53 z) (fq' : F53 q') (fa' : F53 a') (fp' : F53 p') :
    Calls Try.prog 25 #[.agg #[.int .i64 b, .complex .f64 (fl a) (fl p)], .agg #[.int .i64 n, .complex .f64 (fl c) (fl q)]] w fun e w' => e = .returned (.agg #[.int .i64 b, .complex .f64 (fl a') (fl p')]) ∧ Kp No w w' := by
  subst ha hp
  have hop : ∀ t w, (binOp .add t (.complex .f64 (fl a) (fl p)) (.complex .f64 (fl c) (fl q'))).run Try.prog w = .ok (.complex .f64 (fl (a + c)) (fl (p + q'))) w :=
    fun t w => run_complex_sum (P := Try.prog) w .add (Or.inl rfl) t .f64 _ _ _ _ _ _ (fl_cadd fa fp (fl_whl fc) (fl_whl fq') fa' fp')
  obtain ⟨x, hx⟩ : ∃ x, fl (a + c) = x := ⟨_, rfl⟩
  obtain ⟨y, hy⟩ : ∃ y, fl (p + q') = y := ⟨_, rfl⟩
  rw [hx, hy] at hop ⊢
  have HS := hid (fun w => shift_is (w := w) hd hz hq fc fq fd fz fq')
  obtain ⟨A3, B3⟩ := at3_start w 27 (.int .i64 b) (.complex .f64 (fl a) (fl p)) (.int .i64 n) (.complex .f64 (fl c) (fl q)) (.int .i64 0) (.complex .f64 0 0)
  have A5 := A3.kp (Kp.refl No _).drew
  have B5 := B3.kp0 (Kp.refl No _).drew
  clear hx hy hd hz hq fa fp fc fq fd fz fq' fa' fp' A3 B3
  go_enter Try.func25, Try.ntmps25
  go_wp2_with fail
  go_region_held3 (fun w' => w'.cell? ⟨w.heap.size, 0, none⟩ = some (.int .i64 b) ∧ w'.cell? ⟨w.heap.size, 1, none⟩ = some (.complex .f64 (fl a) (fl p)) ∧ w'.cell? ⟨w.heap.size + 1, 0, none⟩ = some (.int .i64 n) ∧ w'.cell? ⟨w.heap.size + 1, 1, none⟩ = some (.complex .f64 (fl c) (fl q)) ∧
      At2 w 27 w.heap.size (w.heap.size + 1) (.int .i64 b) (.complex .f64 (fl a) (fl p)) (.int .i64 n) (.complex .f64 (fl c) (fl q)) w')
    (first | exact A5.all | exact At2.stepc (by assumption) (by assumption) | exact At2.putc (by assumption) (by omega) (by omega) (by omega) _ _)
    (first | (go_at_call 24; refine (HS.out _).mono ?_; rintro e w5 ⟨rfl, k5⟩; obtain ⟨c0, c1, lt5⟩ := (B5.kp0 k5).two; have f0 := (B5.kp0 k5).frozen 0; have f1 := (B5.kp0 k5).frozen 1))
  rename_i hh
  have HH := hid hh.2.2.2.2.kept
  clear hh
  go_wp2_with fail
  refine bodyPost_ret (v := .agg #[.int .i64 b, .complex .f64 x y]) ?_ rfl ⟨rfl, HH.out⟩
  rw [results_cell rfl]
  go_simp
end Go.Proofs.Ytklkjgdhfanlcaa
