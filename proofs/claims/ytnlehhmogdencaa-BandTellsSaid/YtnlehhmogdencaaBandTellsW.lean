/-
  The walk of BandTells.
-/
import Derived.Test.YtnlehhmogdencaaBandG
namespace Go.Proofs.Ytnlehhmogdencaa
open Go.RowKit

theorem bandTells_walk (w : World) (p q u t n m : Int) (_ : I64 p) (_ : I64 q) (_ : I64 u) (_ : I64 t) (_ : I64 n) (_ : I64 m) :
    Calls Try.prog 3 #[.agg #[.int .i64 p, .int .i64 q, .int .i64 u], .int .i64 t, .int .i64 n, .int .i64 m] w fun e w' => e = .returned (.bool true) ∧ Kp No w w' := by
  have A1 := hid (show At w w.heap.size 23 #[.int .i64 p, .int .i64 q, .int .i64 u] (w.alloc (.cells #[.int .i64 p, .int .i64 q, .int .i64 u] 23)) from ⟨(Kp.refl No w).alloc _, Blk.new _ _ _⟩)
  obtain ⟨b, hb⟩ : ∃ b, decide (Rb p q u) = b := ⟨_, rfl⟩
  have HB := hid hb
  clear hb
  go_enter Try.func3, Try.ntmps3
  go_wp2_with fail
  refine (awake_any _).mono ?_
  rintro e w1 ⟨rfl, k1⟩
  have A2 := hid (A1.out.kp k1)
  clear A1 k1
  obtain ⟨c0, c1, c2, lt⟩ := A2.out.blk.three
  go_wp2_with fail
  refine (refright_is HB.out _).mono ?_
  rintro e w2 ⟨rfl, k2⟩
  clear c0 c1 c2 lt
  have A3 := hid (A2.out.kp k2)
  clear A2 k2
  obtain ⟨c0, c1, c2, lt⟩ := A3.out.blk.three
  cases b
  · go_wp2_with fail
    refine (right_is HB.out _).mono ?_
    rintro e w3 ⟨rfl, k3⟩
    have A4 := hid (A3.out.kp k3)
    go_wp2_with fail
    go_ret
    exact ⟨rfl, A4.out.kept⟩
  · have HR := hid (of_decide_eq_true HB.out)
    go_wp2_with fail
    refine (right_is HB.out _).mono ?_
    rintro e w3 ⟨rfl, k3⟩
    clear c0 c1 c2 lt
    have A4 := hid (A3.out.kp k3)
    clear A3 k3
    obtain ⟨c0, c1, c2, lt⟩ := A4.out.blk.three
    obtain ⟨z, hz⟩ : ∃ z, lf q u = z := ⟨_, rfl⟩
    obtain ⟨y, hy⟩ : ∃ y, ch q u t = y := ⟨_, rfl⟩
    obtain ⟨x, hx⟩ : ∃ x, ps p u n m = x := ⟨_, rfl⟩
    have HZ := hid hz
    have HY := hid hy
    have HX := hid hx
    clear hz hy hx
    go_wp2_with fail
    refine (refleft_is HR.out HZ.out _).mono ?_
    rintro e w4 ⟨rfl, k4⟩
    clear c0 c1 c2 lt
    have A5 := hid (A4.out.kp k4)
    clear A4 k4
    have s1 : (z == z) = true := by simp
    have s2 : (y == y) = true := by simp
    have s3 : (x == x) = true := by simp
    have s4 : (p == p) = true := by simp
    have s5 : (q == q) = true := by simp
    have s6 : ((z == 0) == (z == 0)) = true := by simp
    go_wp2_with fail
    refine region_class (fun w' => At w w.heap.size 23 #[.int .i64 p, .int .i64 q, .int .i64 u] w') 34 rfl (by kernel_rfl) (by kernel_rfl) (by kernel_rfl) (A5.out.kp (Kp.refl No _).drew) ?_
    simp only [List.take_succ_cons, List.take_zero]
    repeat ((first | ((with_reducible refine cl_val (v := ?_) ?_ ?_ ?_); rotate_left; (focus (go_simp; done)); (focus (intro w' hw; obtain ⟨c0, c1, c2, lt⟩ := hw.blk.three; go_simp; (try with_reducible rfl); done))) | ((with_reducible refine cl_skip ?_ ?_); (focus (first | (go_simp; done) | exact unwanted rfl rfl)))); simp only [Act.put, List.setIfInBounds_toArray, List.set_cons_zero, List.set_cons_succ])
    refine cl_call (v := .int .i64 z) rfl (fun w' hw => by go_simp) (fun w' hw => (left_is HR.out HZ.out w').mono fun e w'' ⟨he, hk⟩ => ⟨he, hw.kp hk⟩) ?_
    simp only [Act.put, List.setIfInBounds_toArray, List.set_cons_zero, List.set_cons_succ]
    repeat ((first | ((with_reducible refine cl_val (v := ?_) ?_ ?_ ?_); rotate_left; (focus (go_simp; done)); (focus (intro w' hw; obtain ⟨c0, c1, c2, lt⟩ := hw.blk.three; go_simp; (try with_reducible rfl); done))) | ((with_reducible refine cl_skip ?_ ?_); (focus (first | (go_simp; done) | exact unwanted rfl rfl)))); simp only [Act.put, List.setIfInBounds_toArray, List.set_cons_zero, List.set_cons_succ])
    refine cl_call (v := .bool (z == 0)) rfl (fun w' hw => by go_simp) (fun w' hw => (shut_is HR.out (congrArg (· == 0) HZ.out) w').mono fun e w'' ⟨he, hk⟩ => ⟨he, hw.kp hk⟩) ?_
    simp only [Act.put, List.setIfInBounds_toArray, List.set_cons_zero, List.set_cons_succ]
    repeat ((first | ((with_reducible refine cl_val (v := ?_) ?_ ?_ ?_); rotate_left; (focus (go_simp; done)); (focus (intro w' hw; obtain ⟨c0, c1, c2, lt⟩ := hw.blk.three; go_simp; (try with_reducible rfl); done))) | ((with_reducible refine cl_skip ?_ ?_); (focus (first | (go_simp; done) | exact unwanted rfl rfl)))); simp only [Act.put, List.setIfInBounds_toArray, List.set_cons_zero, List.set_cons_succ])
    refine cl_call (v := .agg #[.int .i64 p, .int .i64 q, .int .i64 y]) rfl (fun w' hw => by go_simp) (fun w' hw => (charge_is HR.out HY.out w').mono fun e w'' ⟨he, hk⟩ => ⟨he, hw.kp hk⟩) ?_
    simp only [Act.put, List.setIfInBounds_toArray, List.set_cons_zero, List.set_cons_succ]
    repeat ((first | ((with_reducible refine cl_val (v := ?_) ?_ ?_ ?_); rotate_left; (focus (go_simp; done)); (focus (intro w' hw; obtain ⟨c0, c1, c2, lt⟩ := hw.blk.three; go_simp; (try with_reducible rfl); done))) | ((with_reducible refine cl_skip ?_ ?_); (focus (first | (go_simp; done) | exact unwanted rfl rfl)))); simp only [Act.put, List.setIfInBounds_toArray, List.set_cons_zero, List.set_cons_succ])
    refine cl_call (v := .agg #[.int .i64 p, .int .i64 q, .int .i64 y]) rfl (fun w' hw => by go_simp) (fun w' hw => (refcharge_is HR.out HY.out w').mono fun e w'' ⟨he, hk⟩ => ⟨he, hw.kp hk⟩) ?_
    simp only [Act.put, List.setIfInBounds_toArray, List.set_cons_zero, List.set_cons_succ]
    repeat ((first | ((with_reducible refine cl_val (v := ?_) ?_ ?_ ?_); rotate_left; (focus (go_simp; done)); (focus (intro w' hw; obtain ⟨c0, c1, c2, lt⟩ := hw.blk.three; go_simp; (try with_reducible rfl); done))) | ((with_reducible refine cl_skip ?_ ?_); (focus (first | (go_simp; done) | exact unwanted rfl rfl)))); simp only [Act.put, List.setIfInBounds_toArray, List.set_cons_zero, List.set_cons_succ])
    refine cl_call (v := .agg #[.int .i64 p, .int .i64 q, .int .i64 x]) rfl (fun w' hw => by go_simp) (fun w' hw => (pass_is HX.out w').mono fun e w'' ⟨he, hk⟩ => ⟨he, hw.kp hk⟩) ?_
    simp only [Act.put, List.setIfInBounds_toArray, List.set_cons_zero, List.set_cons_succ]
    repeat ((first | ((with_reducible refine cl_val (v := ?_) ?_ ?_ ?_); rotate_left; (focus (go_simp; done)); (focus (intro w' hw; obtain ⟨c0, c1, c2, lt⟩ := hw.blk.three; go_simp; (try with_reducible rfl); done))) | ((with_reducible refine cl_skip ?_ ?_); (focus (first | (go_simp; done) | exact unwanted rfl rfl)))); simp only [Act.put, List.setIfInBounds_toArray, List.set_cons_zero, List.set_cons_succ])
    refine cl_call (v := .agg #[.int .i64 p, .int .i64 q, .int .i64 x]) rfl (fun w' hw => by go_simp) (fun w' hw => (refpass_is HR.out HX.out w').mono fun e w'' ⟨he, hk⟩ => ⟨he, hw.kp hk⟩) ?_
    simp only [Act.put, List.setIfInBounds_toArray, List.set_cons_zero, List.set_cons_succ]
    repeat ((first | ((with_reducible refine cl_val (v := ?_) ?_ ?_ ?_); rotate_left; (focus (go_simp; done)); (focus (intro w' hw; obtain ⟨c0, c1, c2, lt⟩ := hw.blk.three; go_simp; (try with_reducible rfl); done))) | ((with_reducible refine cl_skip ?_ ?_); (focus (first | (go_simp; done) | exact unwanted rfl rfl)))); simp only [Act.put, List.setIfInBounds_toArray, List.set_cons_zero, List.set_cons_succ])
    refine cl_nil fun w' hw => ?_
    have HW := hid hw
    clear hw
    go_wp2_with fail
    go_ret
    exact ⟨rfl, HW.out.kept⟩
end Go.Proofs.Ytnlehhmogdencaa
