/-
  Contracts: Charge (both).
-/
import Derived.Test.YtnlehhmogdencaaBandD
import Derived.Test.YtnlehhmogdencaaTail
namespace Go.Proofs.Ytnlehhmogdencaa
open Go.RowKit

theorem ticks_is {x y : Int} (h : tk x = y) (w : World) : Calls Try.prog 24 #[.int .i64 x] w fun e w' => e = .returned (.int .i64 y) ∧ w' = w := by
  subst h
  exact ticks_any x w
theorem held_is {x y : Int} (h : tk x = y) (w : World) : Calls Try.prog 25 #[.int .i64 x] w fun e w' => e = .returned (.int .i64 y) ∧ w' = w := by
  subst h
  exact held_any x w

/-- What is used when so much more is had. -/
def ch (q u t : Int) : Int := if q = 0 then u else tk (u + tk t)

theorem charge_zero (p u t : Int) (w : World) : Calls Try.prog 16 #[.agg #[.int .i64 p, .int .i64 0, .int .i64 u], .int .i64 t] w fun e w' => e = .returned (.agg #[.int .i64 p, .int .i64 0, .int .i64 u]) ∧ Kp No w w' := by
  have B := hid (B2.start w (.int .i64 p) (.int .i64 0) (.int .i64 u) (.int .i64 0) (.int .i64 0) (.int .i64 0))
  go_enter Try.func16, Try.ntmps16
  go_wp2_with fail
  refine (limited_any _ _ _ _).mono ?_
  rintro e w2 ⟨rfl, k2⟩
  have C := hid (B.out.kp k2)
  clear B k2
  obtain ⟨c0, c1, c2, e0, e1, e2⟩ := C.out.cells
  obtain ⟨d0, d1, d2, f0, f1, f2, lt, lt'⟩ := C.out.outs
  rw [show (!((0 : Int) == 0)) = false from rfl]
  go_wp2_with fail
  refine bodyPost_ret (v := .agg #[.int .i64 p, .int .i64 0, .int .i64 u]) ?_ rfl ⟨rfl, C.out.out _ _ _⟩
  rw [results_cell rfl]
  go_simp

theorem charge_some {p q u t y z : Int} (hq : q ≠ 0) (h2 : 0 ≤ u) (h3 : u ≤ 1099511627776) (hy : tk t = y) (hz : tk (u + y) = z) (w : World) : Calls Try.prog 16 #[.agg #[.int .i64 p, .int .i64 q, .int .i64 u], .int .i64 t] w fun e w' => e = .returned (.agg #[.int .i64 p, .int .i64 q, .int .i64 z]) ∧ Kp No w w' := by
  have B := hid (B2.start w (.int .i64 p) (.int .i64 q) (.int .i64 u) (.int .i64 0) (.int .i64 0) (.int .i64 0))
  have hq' : (!(q == 0)) = true := by simp [hq]
  have hw : IntKind.i64.wrap (u + y) = u + y := wrapI (by have := tk_bd t; rw [hy] at this; exact ⟨by omega, by omega⟩)
  have HY := hid hy
  have HZ := hid hz
  clear hy hz
  go_enter Try.func16, Try.ntmps16
  go_wp2_with fail
  refine (limited_any _ _ _ _).mono ?_
  rintro e w2 ⟨rfl, k2⟩
  have C := hid (B.out.kp k2)
  clear B k2
  obtain ⟨c0, c1, c2, e0, e1, e2⟩ := C.out.cells
  obtain ⟨d0, d1, d2, f0, f1, f2, lt, lt'⟩ := C.out.outs
  rw [hq']
  go_wp2_with fail
  refine region_class (fun w' => B2 w (.int .i64 p) (.int .i64 q) (.int .i64 u) (.int .i64 0) (.int .i64 0) (.int .i64 0) w') 7 rfl (by kernel_rfl) (by kernel_rfl) (by kernel_rfl) (C.out.kp (Kp.refl No _).drew) ?_
  simp only [List.take_succ_cons, List.take_zero]
  repeat ((first | ((with_reducible refine cl_val (v := ?_) ?_ ?_ ?_); rotate_left; (focus (go_simp; done)); (focus (intro w' hw; obtain ⟨c0, c1, c2, e0, e1, e2⟩ := hw.cells; go_simp; (try with_reducible rfl); done))) | ((with_reducible refine cl_skip ?_ ?_); (focus (first | (go_simp; done) | exact unwanted rfl rfl)))); simp only [Act.put, List.setIfInBounds_toArray, List.set_cons_zero, List.set_cons_succ])
  refine cl_call (v := .int .i64 y) rfl (fun w' hw => by go_simp) (fun w' hw => (ticks_is HY.out w').mono fun e w'' ⟨he, hk⟩ => ⟨he, hk ▸ hw⟩) ?_
  simp only [Act.put, List.setIfInBounds_toArray, List.set_cons_zero, List.set_cons_succ]
  repeat ((first | ((with_reducible refine cl_val (v := ?_) ?_ ?_ ?_); rotate_left; (focus (go_simp; done)); (focus (intro w' hw; obtain ⟨c0, c1, c2, e0, e1, e2⟩ := hw.cells; go_simp; (try with_reducible rfl); done))) | ((with_reducible refine cl_skip ?_ ?_); (focus (first | (go_simp; done) | exact unwanted rfl rfl)))); simp only [Act.put, List.setIfInBounds_toArray, List.set_cons_zero, List.set_cons_succ])
  refine cl_call (v := .int .i64 z) rfl (fun w' hw => by go_simp) (fun w' hw => (ticks_is HZ.out w').mono fun e w'' ⟨he, hk⟩ => ⟨he, hk ▸ hw⟩) ?_
  simp only [Act.put, List.setIfInBounds_toArray, List.set_cons_zero, List.set_cons_succ]
  repeat ((first | ((with_reducible refine cl_val (v := ?_) ?_ ?_ ?_); rotate_left; (focus (go_simp; done)); (focus (intro w' hw; obtain ⟨c0, c1, c2, e0, e1, e2⟩ := hw.cells; go_simp; (try with_reducible rfl); done))) | ((with_reducible refine cl_skip ?_ ?_); (focus (first | (go_simp; done) | exact unwanted rfl rfl)))); simp only [Act.put, List.setIfInBounds_toArray, List.set_cons_zero, List.set_cons_succ])
  refine cl_nil fun w' hw => ?_
  have HW := hid hw
  obtain ⟨c0, c1, c2, e0, e1, e2⟩ := hw.cells
  obtain ⟨d0, d1, d2, f0, f1, f2, lt, lt'⟩ := hw.outs
  clear hw
  go_wp2_with fail
  refine bodyPost_ret (v := .agg #[.int .i64 p, .int .i64 q, .int .i64 z]) ?_ rfl ⟨rfl, (HW.out.put2 _).out _ _ _⟩
  rw [results_cell rfl]
  go_simp

theorem refcharge_zero (p u t : Int) (w : World) : Calls Try.prog 17 #[.agg #[.int .i64 p, .int .i64 0, .int .i64 u], .int .i64 t] w fun e w' => e = .returned (.agg #[.int .i64 p, .int .i64 0, .int .i64 u]) ∧ Kp No w w' := by
  have B := hid (B2.start w (.int .i64 p) (.int .i64 0) (.int .i64 u) (.int .i64 0) (.int .i64 0) (.int .i64 0))
  go_enter Try.func17, Try.ntmps17
  go_wp2_with fail
  refine bodyPost_ret (v := .agg #[.int .i64 p, .int .i64 0, .int .i64 u]) ?_ rfl ⟨rfl, ((Kp.refl No w).alloc _).alloc _⟩
  rw [results_cell rfl]
  go_simp

theorem refcharge_some {p q u t y z : Int} (hq : q ≠ 0) (h2 : 0 ≤ u) (h3 : u ≤ 1099511627776) (hy : tk t = y) (hz : tk (u + y) = z) (w : World) : Calls Try.prog 17 #[.agg #[.int .i64 p, .int .i64 q, .int .i64 u], .int .i64 t] w fun e w' => e = .returned (.agg #[.int .i64 p, .int .i64 q, .int .i64 z]) ∧ Kp No w w' := by
  have B := hid (B2.start w (.int .i64 p) (.int .i64 q) (.int .i64 u) (.int .i64 0) (.int .i64 0) (.int .i64 0))
  have hq' : (q == 0) = false := by simp [hq]
  have hb := tk_bd t
  rw [hy] at hb
  have hw : IntKind.i64.wrap (u + y) = u + y := wrapI ⟨by omega, by omega⟩
  have HY := hid hy
  have HB := hid hb
  have HZ : Hid (z = u + y ∧ u + y < 1099511627776 ∨ z = 1099511627776 ∧ 1099511627776 ≤ u + y) := hid (by rw [← hz]; unfold tk; split <;> (try split) <;> omega)
  clear hy hz hb
  rcases HZ.out with ⟨hz, hs⟩ | ⟨hz, hs⟩
  all_goals
    clear HZ
    subst hz
    go_enter Try.func17, Try.ntmps17
    go_wp2_with fail
    refine region_class (fun w' => B2 w (.int .i64 p) (.int .i64 q) (.int .i64 u) (.int .i64 0) (.int .i64 0) (.int .i64 0) w') 11 rfl (by kernel_rfl) (by kernel_rfl) (by kernel_rfl) (B.out.kp (Kp.refl No _).drew) ?_
    simp only [List.take_succ_cons, List.take_zero]
    repeat ((first | ((with_reducible refine cl_val (v := ?_) ?_ ?_ ?_); rotate_left; (focus (go_simp; done)); (focus (intro w' hw; obtain ⟨c0, c1, c2, e0, e1, e2⟩ := hw.cells; go_simp; (try with_reducible rfl); done))) | ((with_reducible refine cl_skip ?_ ?_); (focus (first | (go_simp; done) | exact unwanted rfl rfl)))); simp only [Act.put, List.setIfInBounds_toArray, List.set_cons_zero, List.set_cons_succ])
    refine cl_call (v := .int .i64 y) rfl (fun w' hw => by go_simp) (fun w' hw => (held_is HY.out w').mono fun e w'' ⟨he, hk⟩ => ⟨he, hk ▸ hw⟩) ?_
    simp only [Act.put, List.setIfInBounds_toArray, List.set_cons_zero, List.set_cons_succ]
    repeat ((first | ((with_reducible refine cl_val (v := ?_) ?_ ?_ ?_); rotate_left; (focus (go_simp; done)); (focus (intro w' hw; obtain ⟨c0, c1, c2, e0, e1, e2⟩ := hw.cells; go_simp; (try with_reducible rfl); done))) | ((with_reducible refine cl_skip ?_ ?_); (focus (first | (go_simp; done) | exact unwanted rfl rfl)))); simp only [Act.put, List.setIfInBounds_toArray, List.set_cons_zero, List.set_cons_succ])
    refine cl_nil fun w' hw => ?_
    have HW := hid hw
    obtain ⟨c0, c1, c2, e0, e1, e2⟩ := hw.cells
    obtain ⟨d0, d1, d2, f0, f1, f2, lt, lt'⟩ := hw.outs
    clear hw
    go_wp2_with fail
    refine bodyPost_ret (v := .agg #[.int .i64 p, .int .i64 q, .int .i64 _]) ?_ rfl ⟨rfl, HW.out.out _ _ _⟩
    rw [results_cell rfl]
    go_simp
end Go.Proofs.Ytnlehhmogdencaa
