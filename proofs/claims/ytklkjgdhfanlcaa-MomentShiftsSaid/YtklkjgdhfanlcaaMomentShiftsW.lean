/-
  The walk of MomentShifts.
-/
import Derived.Test.YtklkjgdhfanlcaaMomE
import Derived.Laws.StructEq
namespace Go.Proofs.Ytklkjgdhfanlcaa
open Go.RowKit

@[go_sem] theorem run_equalIn_complex {P : Program} (w : World) (d : Nat) (t : TypeId) (k k' : FloatKind) (a b c e : Nat) (h : P.underlying t = some (.complex k')) : (Op.equalIn (d + 1) t (.complex k a b) (.complex k c e)).run P w = .ok ((k.format.order a c == some .eq) && (k.format.order b e == some .eq)) w := by
  simp [Op.equalIn, run_underlying h, Op.floatEq]

theorem mul_bd {a d : Int} (h0 : 0 ≤ a) (h1 : a ≤ 67108864) (h2 : -2097152 ≤ d) (h3 : d ≤ 2097152) : -140737488355328 ≤ a * d ∧ a * d ≤ 140737488355328 := by
  have e1 := Int.mul_le_mul_of_nonneg_left h3 h0
  have e2 := Int.mul_le_mul_of_nonneg_left h2 h0
  omega
/-- A number, as far as it may be asked. -/
def near (x : Int) : Int := x.tmod 500000
theorem near_bd (x : Int) : -500000 < near x ∧ near x < 500000 := by
  unfold near
  exact ⟨Int.lt_tmod_of_pos x (by omega), Int.tmod_lt_of_pos x (by omega)⟩

theorem mean_shift {b a p d : Int} (ha : a ≠ 0) : mean (b + d) a (p + a * -d) = mean b a p := by
  unfold mean
  rw [if_neg ha, if_neg ha, Int.add_mul_ediv_left _ _ ha]
  omega

set_option maxHeartbeats 2000000 in
theorem momentShifts_walk (w : World) (n : Int) (u : Value) (by1 at1 : Int) {xs : List Mem} (_ : I64 n) (hu : Rw 3 mc m0 w Anyb u xs ∧ Pos xs) (_ : -2147483648 ≤ by1 ∧ by1 ≤ 2147483647) (_ : -2147483648 ≤ at1 ∧ at1 ≤ 2147483647) :
    Calls Try.prog 4 #[.int .i64 n, u, .int .i32 by1, .int .i32 at1] w fun e w' => e = .returned (.bool true) ∧ Kp No w w' := by
  have HU := hid hu.1
  have HX := hid hu.2
  obtain ⟨hu1, _⟩ := hu
  obtain ⟨A, c, rfl, hc, hmx, _⟩ := hu1
  unfold maxLen at hmx
  by_cases hl : 60 < xs.length
  · have hb1 : decide ((60 : Int) < (xs.length : Int)) = true := by simp; omega
    go_enter Try.func4, Try.ntmps4
    go_wp2_with fail
    refine (awake_any _).mono ?_
    rintro e w1 ⟨rfl, k1⟩
    have K1 := hid k1
    clear k1
    go_wp2
    go_ret
    exact ⟨rfl, K1.out⟩
  · have hb1 : decide ((60 : Int) < (xs.length : Int)) = false := by simp; omega
    obtain ⟨s0, s1, s2, s3⟩ := sums_bd HX.out
    obtain ⟨a, ha⟩ : ∃ a, Ws xs = a := ⟨_, rfl⟩
    obtain ⟨p, hp⟩ : ∃ p, Ps xs = p := ⟨_, rfl⟩
    obtain ⟨d, hd⟩ : ∃ d, near by1 = d := ⟨_, rfl⟩
    obtain ⟨e, he⟩ : ∃ e, near at1 = e := ⟨_, rfl⟩
    obtain ⟨b, hb⟩ : ∃ b, bsd n = b := ⟨_, rfl⟩
    have nd := near_bd by1
    have ne := near_bd at1
    have nb := bsd_bd n
    rw [ha] at s0 s1
    rw [hp] at s2 s3
    rw [hd] at nd
    rw [he] at ne
    rw [hb] at nb
    have z1 := mul_bd (a := a) (d := -d) s0 (by omega) (by omega) (by omega)
    have z2 := mul_bd (a := a) (d := -e) s0 (by omega) (by omega) (by omega)
    have z3 := mul_bd (a := a) (d := d) s0 (by omega) (by omega) (by omega)
    have z4 : a * (-d - e) = a * -d + a * -e := by rw [← Int.mul_add]; congr 1
    have z5 : a * d = -(a * -d) := by rw [Int.mul_neg, Int.neg_neg]
    have HSUM := hid (fun w' => fun (h : Rw 3 mc m0 w' Anyb (.slice A xs.length c) xs) => summed_is (w := w') (b := b) h HX.out (by omega) (by omega) (by omega) ha hp)
    have HSH := hid (fun w' => shift_is (w := w') (b := b) (a := a) (p := p) (n := b + d) (d := -d) (z := a * -d) (p' := p + a * -d) (by omega) rfl rfl ⟨by omega, by omega⟩ ⟨by omega, by omega⟩ ⟨by omega, by omega⟩ ⟨by omega, by omega⟩ ⟨by omega, by omega⟩)
    have HG1 := hid (fun w' => gap_is (w := w') (b := b + d) (a := a) (p := p + a * -d) (v := b + d + e) (d := -e) (z := a * -e) (g := p + a * -d + a * -e) (by omega) rfl rfl ⟨by omega, by omega⟩ ⟨by omega, by omega⟩ ⟨by omega, by omega⟩ ⟨by omega, by omega⟩ ⟨by omega, by omega⟩)
    have HG2 := hid (fun w' => gap_is (w := w') (b := b) (a := a) (p := p) (v := b + d + e) (d := -d - e) (z := a * (-d - e)) (g := p + a * -d + a * -e) (by omega) rfl (by omega) ⟨by omega, by omega⟩ ⟨by omega, by omega⟩ ⟨by omega, by omega⟩ ⟨by omega, by omega⟩ ⟨by omega, by omega⟩)
    have HB := hid (fun w' => shift_is (w := w') (b := b + d) (a := a) (p := p + a * -d) (n := b) (d := d) (z := a * d) (p' := p) (by omega) rfl (by omega) ⟨by omega, by omega⟩ ⟨by omega, by omega⟩ ⟨by omega, by omega⟩ ⟨by omega, by omega⟩ ⟨by omega, by omega⟩)
    have HW1 := hid (fun w' => weight_any (b := b + d) (a := a) (fl (p + a * -d)) w' ⟨by omega, by omega⟩)
    have HW2 := hid (fun w' => weight_any (b := b) (a := a) (fl p) w' ⟨by omega, by omega⟩)
    have HM1 := hid (fun (h : a ≠ 0) w' => mean_is (w := w') (b := b + d) (a := a) (p := p + a * -d) (mean_shift h) s0 ⟨by omega, by omega⟩ ⟨by omega, by omega⟩ (by omega) (by omega))
    have HM2 := hid (fun w' => mean_is (w := w') (b := b) (a := a) (p := p) rfl s0 ⟨by omega, by omega⟩ ⟨by omega, by omega⟩ (by omega) (by omega))
    have q1 : (FloatKind.f64.format.order (fl a) (fl a) == some .eq) = true := (fl_eq ⟨by omega, by omega⟩ ⟨by omega, by omega⟩).trans (by simp)
    have q2 : (FloatKind.f64.format.order (fl p) (fl p) == some .eq) = true := (fl_eq ⟨by omega, by omega⟩ ⟨by omega, by omega⟩).trans (by simp)
    obtain ⟨sp, hsp⟩ : ∃ sp, p + a * -d = sp := ⟨_, rfl⟩
    obtain ⟨g, hg⟩ : ∃ g, p + a * -d + a * -e = g := ⟨_, rfl⟩
    obtain ⟨m, hm⟩ : ∃ m, mean b a p = m := ⟨_, rfl⟩
    rw [hg] at HG1 HG2
    rw [hsp] at HSH HG1 HB HW1 HM1
    rw [hm] at HM1 HM2
    have r0 : (b == b) = true := by simp
    have r1 : (a == a) = true := by simp
    have r2 : (g == g) = true := by simp
    have r3 : (m == m) = true := by simp
    have r4 : (b + d == b + d) = true := by simp
    have f1 : IntKind.i64.wrap (by1.tmod 500000) = d := by rw [← hd]; exact wrapI ⟨by unfold near at hd; omega, by unfold near at hd; omega⟩
    have f2 : IntKind.i64.wrap (at1.tmod 500000) = e := by rw [← he]; exact wrapI ⟨by unfold near at he; omega, by unfold near at he; omega⟩
    have f3 : IntKind.i64.wrap (b + d) = b + d := wrapI ⟨by omega, by omega⟩
    have f4 : IntKind.i64.wrap (b + d + e) = b + d + e := wrapI ⟨by omega, by omega⟩
    have HBS := hid hb
    clear ha hp hd he hb nd ne nb s0 s1 s2 s3 z1 z2 z3 z4 z5 hsp hg hm
    go_enter Try.func4, Try.ntmps4
    go_wp2_with fail
    refine (awake_any _).mono ?_
    rintro e1 w1 ⟨rfl, k1⟩
    have K1 := hid k1
    clear k1
    go_wp2_with fail
    refine (based_any n _).mono ?_
    rintro e1 w2 ⟨rfl, rfl⟩
    rw [HBS.out]
    go_wp2_with fail
    refine (HSUM.out _ (HU.out.kp0 K1.out)).mono ?_
    rintro e1 w3 ⟨rfl, k3⟩
    have A3 := hid (At.mk ((K1.out.trans k3).alloc (.cells #[.int .i64 b, .complex .f64 (fl a) (fl p)] 27)) (Blk.new w3 27 #[.int .i64 b, .complex .f64 (fl a) (fl p)]))
    clear k3 K1
    go_wp2_with fail
    refine (HSH.out _).mono ?_
    rintro e1 w4 ⟨rfl, k4⟩
    have A4 := hid (At2.mk ((A3.out.kp k4).kept.alloc _) ((A3.out.kp k4).blk.kp0 ((Kp.refl No w4).alloc (.cells #[.int .i64 (b + d), .complex .f64 (fl a) (fl sp)] 27))) (Blk.new w4 27 #[.int .i64 (b + d), .complex .f64 (fl a) (fl sp)]))
    clear k4 A3
    by_cases ha : a = 0
    · have ra : (a == 0) = true := by simp [ha]
      clear ha
      go_wp2_with fail
      refine region_class (fun w' => At2 w 27 w3.heap.size w4.heap.size (.int .i64 b) (.complex .f64 (fl a) (fl p)) (.int .i64 (b + d)) (.complex .f64 (fl a) (fl sp)) w') 44 rfl (by kernel_rfl) (by kernel_rfl) (by kernel_rfl) (A4.out.kp (Kp.refl No _).drew) ?_
      simp only [List.take_succ_cons, List.take_zero]
      repeat ((first | ((with_reducible refine cl_val (v := ?_) ?_ ?_ ?_); rotate_left; (focus (go_simp; done)); (focus (intro w' hw; obtain ⟨c0, c1, c2, c3, _⟩ := hw.all; go_simp; (try with_reducible rfl); done))) | ((with_reducible refine cl_skip ?_ ?_); (focus (first | (go_simp; done) | exact unwanted rfl rfl)))); simp only [Act.put, List.setIfInBounds_toArray, List.set_cons_zero, List.set_cons_succ])
      refine cl_call (v := .int .i64 a) rfl (fun w' hw => by go_simp) (fun w' hw => (HW1.out w').mono fun e w'' ⟨he, hk⟩ => ⟨he, hw.kp hk⟩) ?_
      simp only [Act.put, List.setIfInBounds_toArray, List.set_cons_zero, List.set_cons_succ]
      repeat ((first | ((with_reducible refine cl_val (v := ?_) ?_ ?_ ?_); rotate_left; (focus (go_simp; done)); (focus (intro w' hw; obtain ⟨c0, c1, c2, c3, _⟩ := hw.all; go_simp; (try with_reducible rfl); done))) | ((with_reducible refine cl_skip ?_ ?_); (focus (first | (go_simp; done) | exact unwanted rfl rfl)))); simp only [Act.put, List.setIfInBounds_toArray, List.set_cons_zero, List.set_cons_succ])
      refine cl_call (v := .int .i64 a) rfl (fun w' hw => by go_simp) (fun w' hw => (HW2.out w').mono fun e w'' ⟨he, hk⟩ => ⟨he, hw.kp hk⟩) ?_
      simp only [Act.put, List.setIfInBounds_toArray, List.set_cons_zero, List.set_cons_succ]
      repeat ((first | ((with_reducible refine cl_val (v := ?_) ?_ ?_ ?_); rotate_left; (focus (go_simp; done)); (focus (intro w' hw; obtain ⟨c0, c1, c2, c3, _⟩ := hw.all; go_simp; (try with_reducible rfl); done))) | ((with_reducible refine cl_skip ?_ ?_); (focus (first | (go_simp; done) | exact unwanted rfl rfl)))); simp only [Act.put, List.setIfInBounds_toArray, List.set_cons_zero, List.set_cons_succ])
      refine cl_call (v := .int .i64 g) rfl (fun w' hw => by go_simp) (fun w' hw => (HG1.out w').mono fun e w'' ⟨he, hk⟩ => ⟨he, hw.kp hk⟩) ?_
      simp only [Act.put, List.setIfInBounds_toArray, List.set_cons_zero, List.set_cons_succ]
      repeat ((first | ((with_reducible refine cl_val (v := ?_) ?_ ?_ ?_); rotate_left; (focus (go_simp; done)); (focus (intro w' hw; obtain ⟨c0, c1, c2, c3, _⟩ := hw.all; go_simp; (try with_reducible rfl); done))) | ((with_reducible refine cl_skip ?_ ?_); (focus (first | (go_simp; done) | exact unwanted rfl rfl)))); simp only [Act.put, List.setIfInBounds_toArray, List.set_cons_zero, List.set_cons_succ])
      refine cl_call (v := .int .i64 g) rfl (fun w' hw => by go_simp) (fun w' hw => (HG2.out w').mono fun e w'' ⟨he, hk⟩ => ⟨he, hw.kp hk⟩) ?_
      simp only [Act.put, List.setIfInBounds_toArray, List.set_cons_zero, List.set_cons_succ]
      repeat ((first | ((with_reducible refine cl_val (v := ?_) ?_ ?_ ?_); rotate_left; (focus (go_simp; done)); (focus (intro w' hw; obtain ⟨c0, c1, c2, c3, _⟩ := hw.all; go_simp; (try with_reducible rfl); done))) | ((with_reducible refine cl_skip ?_ ?_); (focus (first | (go_simp; done) | exact unwanted rfl rfl)))); simp only [Act.put, List.setIfInBounds_toArray, List.set_cons_zero, List.set_cons_succ])
      refine cl_call (v := .int .i64 a) rfl (fun w' hw => by go_simp) (fun w' hw => (HW2.out w').mono fun e w'' ⟨he, hk⟩ => ⟨he, hw.kp hk⟩) ?_
      simp only [Act.put, List.setIfInBounds_toArray, List.set_cons_zero, List.set_cons_succ]
      repeat ((first | ((with_reducible refine cl_val (v := ?_) ?_ ?_ ?_); rotate_left; (focus (go_simp; done)); (focus (intro w' hw; obtain ⟨c0, c1, c2, c3, _⟩ := hw.all; go_simp; (try with_reducible rfl); done))) | ((with_reducible refine cl_skip ?_ ?_); (focus (first | (go_simp; done) | exact unwanted rfl rfl)))); simp only [Act.put, List.setIfInBounds_toArray, List.set_cons_zero, List.set_cons_succ])
      refine cl_call (v := .agg #[.int .i64 b, .complex .f64 (fl a) (fl p)]) rfl (fun w' hw => by go_simp) (fun w' hw => (HB.out w').mono fun e w'' ⟨he, hk⟩ => ⟨he, hw.kp hk⟩) ?_
      simp only [Act.put, List.setIfInBounds_toArray, List.set_cons_zero, List.set_cons_succ]
      repeat ((first | ((with_reducible refine cl_val (v := ?_) ?_ ?_ ?_); rotate_left; (focus (go_simp; done)); (focus (intro w' hw; obtain ⟨c0, c1, c2, c3, _⟩ := hw.all; go_simp; (try with_reducible rfl); done))) | ((with_reducible refine cl_skip ?_ ?_); (focus (first | (go_simp; done) | exact unwanted rfl rfl)))); simp only [Act.put, List.setIfInBounds_toArray, List.set_cons_zero, List.set_cons_succ])
      refine cl_nil fun w' hw => ?_
      have H5 := hid hw.kept
      clear hw
      go_wp2_with fail
      go_ret
      exact ⟨rfl, H5.out⟩
    · have ra : (a == 0) = false := by simp [ha]
      have HNE := hid ha
      clear ha
      go_wp2_with fail
      refine region_class (fun w' => At2 w 27 w3.heap.size w4.heap.size (.int .i64 b) (.complex .f64 (fl a) (fl p)) (.int .i64 (b + d)) (.complex .f64 (fl a) (fl sp)) w') 44 rfl (by kernel_rfl) (by kernel_rfl) (by kernel_rfl) (A4.out.kp (Kp.refl No _).drew) ?_
      simp only [List.take_succ_cons, List.take_zero]
      repeat ((first | ((with_reducible refine cl_val (v := ?_) ?_ ?_ ?_); rotate_left; (focus (go_simp; done)); (focus (intro w' hw; obtain ⟨c0, c1, c2, c3, _⟩ := hw.all; go_simp; (try with_reducible rfl); done))) | ((with_reducible refine cl_skip ?_ ?_); (focus (first | (go_simp; done) | exact unwanted rfl rfl)))); simp only [Act.put, List.setIfInBounds_toArray, List.set_cons_zero, List.set_cons_succ])
      refine cl_call (v := .int .i64 a) rfl (fun w' hw => by go_simp) (fun w' hw => (HW1.out w').mono fun e w'' ⟨he, hk⟩ => ⟨he, hw.kp hk⟩) ?_
      simp only [Act.put, List.setIfInBounds_toArray, List.set_cons_zero, List.set_cons_succ]
      repeat ((first | ((with_reducible refine cl_val (v := ?_) ?_ ?_ ?_); rotate_left; (focus (go_simp; done)); (focus (intro w' hw; obtain ⟨c0, c1, c2, c3, _⟩ := hw.all; go_simp; (try with_reducible rfl); done))) | ((with_reducible refine cl_skip ?_ ?_); (focus (first | (go_simp; done) | exact unwanted rfl rfl)))); simp only [Act.put, List.setIfInBounds_toArray, List.set_cons_zero, List.set_cons_succ])
      refine cl_call (v := .int .i64 a) rfl (fun w' hw => by go_simp) (fun w' hw => (HW2.out w').mono fun e w'' ⟨he, hk⟩ => ⟨he, hw.kp hk⟩) ?_
      simp only [Act.put, List.setIfInBounds_toArray, List.set_cons_zero, List.set_cons_succ]
      repeat ((first | ((with_reducible refine cl_val (v := ?_) ?_ ?_ ?_); rotate_left; (focus (go_simp; done)); (focus (intro w' hw; obtain ⟨c0, c1, c2, c3, _⟩ := hw.all; go_simp; (try with_reducible rfl); done))) | ((with_reducible refine cl_skip ?_ ?_); (focus (first | (go_simp; done) | exact unwanted rfl rfl)))); simp only [Act.put, List.setIfInBounds_toArray, List.set_cons_zero, List.set_cons_succ])
      refine cl_call (v := .int .i64 g) rfl (fun w' hw => by go_simp) (fun w' hw => (HG1.out w').mono fun e w'' ⟨he, hk⟩ => ⟨he, hw.kp hk⟩) ?_
      simp only [Act.put, List.setIfInBounds_toArray, List.set_cons_zero, List.set_cons_succ]
      repeat ((first | ((with_reducible refine cl_val (v := ?_) ?_ ?_ ?_); rotate_left; (focus (go_simp; done)); (focus (intro w' hw; obtain ⟨c0, c1, c2, c3, _⟩ := hw.all; go_simp; (try with_reducible rfl); done))) | ((with_reducible refine cl_skip ?_ ?_); (focus (first | (go_simp; done) | exact unwanted rfl rfl)))); simp only [Act.put, List.setIfInBounds_toArray, List.set_cons_zero, List.set_cons_succ])
      refine cl_call (v := .int .i64 g) rfl (fun w' hw => by go_simp) (fun w' hw => (HG2.out w').mono fun e w'' ⟨he, hk⟩ => ⟨he, hw.kp hk⟩) ?_
      simp only [Act.put, List.setIfInBounds_toArray, List.set_cons_zero, List.set_cons_succ]
      repeat ((first | ((with_reducible refine cl_val (v := ?_) ?_ ?_ ?_); rotate_left; (focus (go_simp; done)); (focus (intro w' hw; obtain ⟨c0, c1, c2, c3, _⟩ := hw.all; go_simp; (try with_reducible rfl); done))) | ((with_reducible refine cl_skip ?_ ?_); (focus (first | (go_simp; done) | exact unwanted rfl rfl)))); simp only [Act.put, List.setIfInBounds_toArray, List.set_cons_zero, List.set_cons_succ])
      refine cl_call (v := .int .i64 a) rfl (fun w' hw => by go_simp) (fun w' hw => (HW2.out w').mono fun e w'' ⟨he, hk⟩ => ⟨he, hw.kp hk⟩) ?_
      simp only [Act.put, List.setIfInBounds_toArray, List.set_cons_zero, List.set_cons_succ]
      repeat ((first | ((with_reducible refine cl_val (v := ?_) ?_ ?_ ?_); rotate_left; (focus (go_simp; done)); (focus (intro w' hw; obtain ⟨c0, c1, c2, c3, _⟩ := hw.all; go_simp; (try with_reducible rfl); done))) | ((with_reducible refine cl_skip ?_ ?_); (focus (first | (go_simp; done) | exact unwanted rfl rfl)))); simp only [Act.put, List.setIfInBounds_toArray, List.set_cons_zero, List.set_cons_succ])
      refine cl_call (v := .int .i64 m) rfl (fun w' hw => by go_simp) (fun w' hw => (HM1.out HNE.out w').mono fun e w'' ⟨he, hk⟩ => ⟨he, hw.kp hk⟩) ?_
      simp only [Act.put, List.setIfInBounds_toArray, List.set_cons_zero, List.set_cons_succ]
      repeat ((first | ((with_reducible refine cl_val (v := ?_) ?_ ?_ ?_); rotate_left; (focus (go_simp; done)); (focus (intro w' hw; obtain ⟨c0, c1, c2, c3, _⟩ := hw.all; go_simp; (try with_reducible rfl); done))) | ((with_reducible refine cl_skip ?_ ?_); (focus (first | (go_simp; done) | exact unwanted rfl rfl)))); simp only [Act.put, List.setIfInBounds_toArray, List.set_cons_zero, List.set_cons_succ])
      refine cl_call (v := .int .i64 m) rfl (fun w' hw => by go_simp) (fun w' hw => (HM2.out w').mono fun e w'' ⟨he, hk⟩ => ⟨he, hw.kp hk⟩) ?_
      simp only [Act.put, List.setIfInBounds_toArray, List.set_cons_zero, List.set_cons_succ]
      repeat ((first | ((with_reducible refine cl_val (v := ?_) ?_ ?_ ?_); rotate_left; (focus (go_simp; done)); (focus (intro w' hw; obtain ⟨c0, c1, c2, c3, _⟩ := hw.all; go_simp; (try with_reducible rfl); done))) | ((with_reducible refine cl_skip ?_ ?_); (focus (first | (go_simp; done) | exact unwanted rfl rfl)))); simp only [Act.put, List.setIfInBounds_toArray, List.set_cons_zero, List.set_cons_succ])
      refine cl_call (v := .agg #[.int .i64 b, .complex .f64 (fl a) (fl p)]) rfl (fun w' hw => by go_simp) (fun w' hw => (HB.out w').mono fun e w'' ⟨he, hk⟩ => ⟨he, hw.kp hk⟩) ?_
      simp only [Act.put, List.setIfInBounds_toArray, List.set_cons_zero, List.set_cons_succ]
      repeat ((first | ((with_reducible refine cl_val (v := ?_) ?_ ?_ ?_); rotate_left; (focus (go_simp; done)); (focus (intro w' hw; obtain ⟨c0, c1, c2, c3, _⟩ := hw.all; go_simp; (try with_reducible rfl); done))) | ((with_reducible refine cl_skip ?_ ?_); (focus (first | (go_simp; done) | exact unwanted rfl rfl)))); simp only [Act.put, List.setIfInBounds_toArray, List.set_cons_zero, List.set_cons_succ])
      refine cl_nil fun w' hw => ?_
      have H5 := hid hw.kept
      clear hw
      go_wp2_with fail
      go_ret
      exact ⟨rfl, H5.out⟩
end Go.Proofs.Ytklkjgdhfanlcaa
