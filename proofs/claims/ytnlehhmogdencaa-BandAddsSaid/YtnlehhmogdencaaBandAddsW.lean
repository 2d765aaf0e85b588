/-
  The walk of BandAdds.
-/
import Derived.Test.YtnlehhmogdencaaBandH
namespace Go.Proofs.Ytnlehhmogdencaa
open Go.RowKit

/-- What is told of sums. -/
theorem ch_adds {q u x y : Int} (h0 : 0 ≤ u) (h1 : u ≤ 1099511627776) (hx : 0 ≤ x ∧ x ≤ 4294967295) (hy : 0 ≤ y ∧ y ≤ 4294967295) : ch q (ch q u x) y = ch q u (x + y) := by
  unfold ch
  split
  · rfl
  · rw [tk_in hx.1 (by omega), tk_in hy.1 (by omega), tk_in (show 0 ≤ x + y by omega) (by omega)]
    unfold tk
    split <;> (try split) <;> (try split) <;> (try split) <;> omega
theorem ch_zero {q u t : Int} (h0 : 0 ≤ u) (h1 : u ≤ 1099511627776) (ht : tk t = 0) : ch q u t = u := by
  unfold ch
  rw [ht, Int.add_zero, tk_in h0 h1]
  split <;> rfl
theorem lf_adds {q u x : Int} (hq : 0 < q) (h2 : q ≤ 1048576) (h0 : 0 ≤ u) (h1 : u ≤ 1099511627776) (hx : 0 ≤ x ∧ x ≤ 4294967295) : (0 < lf q u - x ∧ lf q (ch q u x) = lf q u - x) ∨ (lf q u - x ≤ 0 ∧ lf q (ch q u x) = 0) := by
  have hq' : q ≠ 0 := by omega
  have ht : tk (u + x) = u + x ∨ (1099511627776 < u + x ∧ tk (u + x) = 1099511627776) := by unfold tk; split <;> (try split) <;> omega
  unfold ch
  rw [if_neg hq', tk_in hx.1 (by omega)]
  unfold lf
  rw [if_neg hq', if_neg hq']
  rcases ht with e | ⟨e, e'⟩
  · rw [e]
    split <;> split <;> omega
  · rw [e']
    split <;> split <;> omega

set_option maxHeartbeats 1000000 in
theorem bandAdds_walk (w : World) (p q u x y : Int) (_ : I64 p) (_ : I64 q) (_ : I64 u) (hx : 0 ≤ x ∧ x ≤ 4294967295) (hy : 0 ≤ y ∧ y ≤ 4294967295) :
    Calls Try.prog 7 #[.agg #[.int .i64 p, .int .i64 q, .int .i64 u], .int .u32 x, .int .u32 y] w fun e w' => e = .returned (.bool true) ∧ Kp No w w' := by
  have A1 := hid (show At w w.heap.size 23 #[.int .i64 p, .int .i64 q, .int .i64 u] (w.alloc (.cells #[.int .i64 p, .int .i64 q, .int .i64 u] 23)) from ⟨(Kp.refl No w).alloc _, Blk.new _ _ _⟩)
  have w2 : IntKind.i64.wrap x = x := wrapI ⟨by omega, by omega⟩
  have w3 : IntKind.i64.wrap y = y := wrapI ⟨by omega, by omega⟩
  have w5 : IntKind.i64.wrap (x + y) = x + y := wrapI ⟨by omega, by omega⟩
  obtain ⟨b, hb⟩ : ∃ b, decide (Rb p q u) = b := ⟨_, rfl⟩
  have HB := hid hb
  clear hb
  go_enter Try.func7, Try.ntmps7
  go_wp2_with fail
  refine (awake_any _).mono ?_
  rintro e v1 ⟨rfl, k1⟩
  have A2 := hid (A1.out.kp k1)
  clear A1 k1
  obtain ⟨c0, c1, c2, lt⟩ := A2.out.blk.three
  go_wp2_with fail
  refine (refright_is HB.out _).mono ?_
  rintro e v2 ⟨rfl, k2⟩
  clear c0 c1 c2 lt
  have A3 := hid (A2.out.kp k2)
  clear A2 k2
  obtain ⟨c0, c1, c2, lt⟩ := A3.out.blk.three
  cases b
  · go_wp2_with fail
    go_ret
    exact ⟨rfl, A3.out.kept⟩
  · have hR : Rb p q u := of_decide_eq_true HB.out
    have HR := hid hR
    obtain ⟨U, hU⟩ : ∃ z, ch q u x = z := ⟨_, rfl⟩
    obtain ⟨V, hV⟩ : ∃ z, ch q u (x + y) = z := ⟨_, rfl⟩
    have u0 := hR.2.2.2.2.1
    have u1 := hR.2.2.2.2.2.1
    have HU := hid hU
    have HV := hid hV
    have HW := hid (show ch q U y = V by rw [← hU, ← hV]; exact ch_adds u0 u1 hx hy)
    have HZ := hid (show ch q u 0 = u from ch_zero u0 u1 (by decide))
    have HM := hid (show ch q u (-1) = u from ch_zero u0 u1 (by decide))
    have HS := hid (show Rb p q U by rw [← hU]; exact ch_right hR x)
    clear hV hR
    go_wp2_with fail
    refine (charge_is HR.out HU.out _).mono ?_
    rintro e v3 ⟨rfl, k3⟩
    clear c0 c1 c2 lt
    have P4 := hid (show Pr w w.heap.size v3.heap.size (.int .i64 p) (.int .i64 q) (.int .i64 u) (.int .i64 p) (.int .i64 q) (.int .i64 U) (v3.alloc (.cells #[.int .i64 p, .int .i64 q, .int .i64 U] 23)) from ⟨(A3.out.kept.trans k3).alloc _, (A3.out.blk.kp0 k3).kp0 ((Kp.refl No v3).alloc _), Blk.new _ _ _⟩)
    clear A3 k3
    have s1 : (p == p) = true := by simp
    have s2 : (q == q) = true := by simp
    have s3 : (u == u) = true := by simp
    have s4 : (U == U) = true := by simp
    have s5 : (V == V) = true := by simp
    go_wp2_with fail
    refine region_all (fun w' => Pr w w.heap.size v3.heap.size (.int .i64 p) (.int .i64 q) (.int .i64 u) (.int .i64 p) (.int .i64 q) (.int .i64 U) w') (by kernel_rfl) (by kernel_rfl) (P4.out.kp (Kp.refl No _).drew) ?_
    repeat ((first | ((with_reducible refine cl_val (v := ?_) ?_ ?_ ?_); rotate_left; (focus (go_simp; done)); (focus (intro w' hw; obtain ⟨c0, c1, c2, d0, d1, d2, lt, lt'⟩ := hw.cells; go_simp; (try with_reducible rfl); done))) | ((with_reducible refine cl_skip ?_ ?_); (focus (first | (go_simp; done) | exact unwanted rfl rfl)))); simp only [Act.put, List.setIfInBounds_toArray, List.set_cons_zero, List.set_cons_succ])
    refine cl_call (v := .agg #[.int .i64 p, .int .i64 q, .int .i64 V]) rfl (fun w' hw => by go_simp) (fun w' hw => (charge_is HS.out HW.out w').mono fun e w'' ⟨he, hk⟩ => ⟨he, hw.kp hk⟩) ?_
    simp only [Act.put, List.setIfInBounds_toArray, List.set_cons_zero, List.set_cons_succ]
    repeat ((first | ((with_reducible refine cl_val (v := ?_) ?_ ?_ ?_); rotate_left; (focus (go_simp; done)); (focus (intro w' hw; obtain ⟨c0, c1, c2, d0, d1, d2, lt, lt'⟩ := hw.cells; go_simp; (try with_reducible rfl); done))) | ((with_reducible refine cl_skip ?_ ?_); (focus (first | (go_simp; done) | exact unwanted rfl rfl)))); simp only [Act.put, List.setIfInBounds_toArray, List.set_cons_zero, List.set_cons_succ])
    refine cl_call (v := .agg #[.int .i64 p, .int .i64 q, .int .i64 V]) rfl (fun w' hw => by go_simp) (fun w' hw => (charge_is HR.out HV.out w').mono fun e w'' ⟨he, hk⟩ => ⟨he, hw.kp hk⟩) ?_
    simp only [Act.put, List.setIfInBounds_toArray, List.set_cons_zero, List.set_cons_succ]
    repeat ((first | ((with_reducible refine cl_val (v := ?_) ?_ ?_ ?_); rotate_left; (focus (go_simp; done)); (focus (intro w' hw; obtain ⟨c0, c1, c2, d0, d1, d2, lt, lt'⟩ := hw.cells; go_simp; (try with_reducible rfl); done))) | ((with_reducible refine cl_skip ?_ ?_); (focus (first | (go_simp; done) | exact unwanted rfl rfl)))); simp only [Act.put, List.setIfInBounds_toArray, List.set_cons_zero, List.set_cons_succ])
    refine cl_call (v := .agg #[.int .i64 p, .int .i64 q, .int .i64 u]) rfl (fun w' hw => by go_simp) (fun w' hw => (charge_is HR.out HZ.out w').mono fun e w'' ⟨he, hk⟩ => ⟨he, hw.kp hk⟩) ?_
    simp only [Act.put, List.setIfInBounds_toArray, List.set_cons_zero, List.set_cons_succ]
    repeat ((first | ((with_reducible refine cl_val (v := ?_) ?_ ?_ ?_); rotate_left; (focus (go_simp; done)); (focus (intro w' hw; obtain ⟨c0, c1, c2, d0, d1, d2, lt, lt'⟩ := hw.cells; go_simp; (try with_reducible rfl); done))) | ((with_reducible refine cl_skip ?_ ?_); (focus (first | (go_simp; done) | exact unwanted rfl rfl)))); simp only [Act.put, List.setIfInBounds_toArray, List.set_cons_zero, List.set_cons_succ])
    refine cl_call (v := .agg #[.int .i64 p, .int .i64 q, .int .i64 u]) rfl (fun w' hw => by go_simp) (fun w' hw => (charge_is HR.out HM.out w').mono fun e w'' ⟨he, hk⟩ => ⟨he, hw.kp hk⟩) ?_
    simp only [Act.put, List.setIfInBounds_toArray, List.set_cons_zero, List.set_cons_succ]
    repeat ((first | ((with_reducible refine cl_val (v := ?_) ?_ ?_ ?_); rotate_left; (focus (go_simp; done)); (focus (intro w' hw; obtain ⟨c0, c1, c2, d0, d1, d2, lt, lt'⟩ := hw.cells; go_simp; (try with_reducible rfl); done))) | ((with_reducible refine cl_skip ?_ ?_); (focus (first | (go_simp; done) | exact unwanted rfl rfl)))); simp only [Act.put, List.setIfInBounds_toArray, List.set_cons_zero, List.set_cons_succ])
    refine cl_nil fun w' hw => ?_
    have P5 := hid hw
    clear hw P4
    obtain ⟨c0, c1, c2, d0, d1, d2, lt, lt'⟩ := P5.out.cells
    by_cases hq : q = 0
    · subst hq
      have e0 : U = u := by rw [← hU]; rfl
      subst e0
      clear hU
      go_wp2_with fail
      refine (left_is HR.out (z := -1) (by unfold lf; simp) _).mono ?_
      rintro e v4 ⟨rfl, k4⟩
      clear c0 c1 c2 d0 d1 d2 lt lt'
      have P6 := hid (P5.out.kp k4)
      clear P5 k4
      go_wp2_with fail
      go_ret
      exact ⟨rfl, P6.out.kept⟩
    · have hq' : (q == 0) = false := by simp [hq]
      have q0 : 0 < q := by have := HR.out.2.2.1; omega
      have q1 := HR.out.2.2.2.1
      have p0 : 1 ≤ p := by have := HR.out.2.2.2.2.2.2.1; omega
      have p1 := HR.out.2.1
      have hl := lf_adds q0 q1 u0 u1 hx
      rw [hU] at hl
      obtain ⟨L, hL⟩ : ∃ z, lf q u = z := ⟨_, rfl⟩
      obtain ⟨M, hM⟩ : ∃ z, lf q U = z := ⟨_, rfl⟩
      rw [hL, hM] at hl
      have l0 : 0 ≤ L := by rw [← hL]; unfold lf; rw [if_neg hq]; split <;> omega
      have l1 : L ≤ 1048576 := by rw [← hL]; unfold lf; rw [if_neg hq]; split <;> omega
      have wl : IntKind.i64.wrap (L - x) = L - x := wrapI ⟨by omega, by omega⟩
      have HL := hid hL
      have HM' := hid hM
      have HP := hid (show ps p U 0 p = 0 by
        have e1 : en p 0 p = 1 := by
          unfold en
          rw [if_neg (show ¬ p < 1 by omega), tk_in (show (0 : Int) ≤ 0 by omega) (by omega), tk_in (show 0 ≤ p by omega) (by omega), Int.zero_add, Int.ediv_self (by omega), Int.zero_ediv]
          rfl
        unfold ps
        rw [e1]
        rfl)
      have HQ := hid (show lf q 0 = q by unfold lf; rw [if_neg hq, if_neg (by omega)]; omega)
      have HT := hid (HR.out.used (x := 0) (by omega) (by omega) (.inr rfl))
      have HD := hid (show decide (Rb p q U) = true from decide_eq_true HS.out)
      have s6 : ((M == 0) == (M == 0)) = true := by simp
      have s7 : (M == M) = true := by simp
      clear hL hM hU
      rcases hl with ⟨g1, g2⟩ | ⟨g1, g2⟩
      all_goals
        first
        | (have s8 : (M == L - x) = true := by simp [g2]
           have s9 : x < L := by omega)
        | (obtain rfl : M = 0 := g2
           have s9 : (x < L) = False := eq_false (by omega))
        clear c0 c1 c2 d0 d1 d2 lt lt'
        have P6 := hid (P5.out.kp (Kp.refl No _).drew)
        obtain ⟨c0, c1, c2, d0, d1, d2, lt, lt'⟩ := P5.out.cells
        go_wp2_with fail
        refine region_class (fun w' => Pr w w.heap.size v3.heap.size (.int .i64 p) (.int .i64 q) (.int .i64 u) (.int .i64 p) (.int .i64 q) (.int .i64 U) w') 33 rfl (by kernel_rfl) (by kernel_rfl) (by kernel_rfl) (P6.out) ?_
        simp only [List.take_succ_cons, List.take_zero]
        repeat ((first | ((with_reducible refine cl_val (v := ?_) ?_ ?_ ?_); rotate_left; (focus (go_simp; done)); (focus (intro w' hw; obtain ⟨c0, c1, c2, d0, d1, d2, lt, lt'⟩ := hw.cells; go_simp; (try with_reducible rfl); done))) | ((with_reducible refine cl_skip ?_ ?_); (focus (first | (go_simp; done) | exact unwanted rfl rfl)))); simp only [Act.put, List.setIfInBounds_toArray, List.set_cons_zero, List.set_cons_succ])
        refine cl_call (v := .bool true) rfl (fun w' hw => by go_simp) (fun w' hw => (right_is HD.out w').mono fun e w'' ⟨he, hk⟩ => ⟨he, hw.kp hk⟩) ?_
        simp only [Act.put, List.setIfInBounds_toArray, List.set_cons_zero, List.set_cons_succ]
        repeat ((first | ((with_reducible refine cl_val (v := ?_) ?_ ?_ ?_); rotate_left; (focus (go_simp; done)); (focus (intro w' hw; obtain ⟨c0, c1, c2, d0, d1, d2, lt, lt'⟩ := hw.cells; go_simp; (try with_reducible rfl); done))) | ((with_reducible refine cl_skip ?_ ?_); (focus (first | (go_simp; done) | exact unwanted rfl rfl)))); simp only [Act.put, List.setIfInBounds_toArray, List.set_cons_zero, List.set_cons_succ])
        refine cl_call (v := .int .i64 _) rfl (fun w' hw => by go_simp) (fun w' hw => (left_is HS.out HM'.out w').mono fun e w'' ⟨he, hk⟩ => ⟨he, hw.kp hk⟩) ?_
        simp only [Act.put, List.setIfInBounds_toArray, List.set_cons_zero, List.set_cons_succ]
        repeat ((first | ((with_reducible refine cl_val (v := ?_) ?_ ?_ ?_); rotate_left; (focus (go_simp; done)); (focus (intro w' hw; obtain ⟨c0, c1, c2, d0, d1, d2, lt, lt'⟩ := hw.cells; go_simp; (try with_reducible rfl); done))) | ((with_reducible refine cl_skip ?_ ?_); (focus (first | (go_simp; done) | exact unwanted rfl rfl)))); simp only [Act.put, List.setIfInBounds_toArray, List.set_cons_zero, List.set_cons_succ])
        refine cl_call (v := .int .i64 L) rfl (fun w' hw => by go_simp) (fun w' hw => (left_is HR.out HL.out w').mono fun e w'' ⟨he, hk⟩ => ⟨he, hw.kp hk⟩) ?_
        simp only [Act.put, List.setIfInBounds_toArray, List.set_cons_zero, List.set_cons_succ]
        repeat ((first | ((with_reducible refine cl_val (v := ?_) ?_ ?_ ?_); rotate_left; (focus (go_simp; done)); (focus (intro w' hw; obtain ⟨c0, c1, c2, d0, d1, d2, lt, lt'⟩ := hw.cells; go_simp; (try with_reducible rfl); done))) | ((with_reducible refine cl_skip ?_ ?_); (focus (first | (go_simp; done) | exact unwanted rfl rfl)))); simp only [Act.put, List.setIfInBounds_toArray, List.set_cons_zero, List.set_cons_succ])
        refine cl_call (v := .bool (_ == 0)) rfl (fun w' hw => by go_simp) (fun w' hw => (shut_is HS.out (congrArg (· == 0) HM'.out) w').mono fun e w'' ⟨he, hk⟩ => ⟨he, hw.kp hk⟩) ?_
        simp only [Act.put, List.setIfInBounds_toArray, List.set_cons_zero, List.set_cons_succ]
        repeat ((first | ((with_reducible refine cl_val (v := ?_) ?_ ?_ ?_); rotate_left; (focus (go_simp; done)); (focus (intro w' hw; obtain ⟨c0, c1, c2, d0, d1, d2, lt, lt'⟩ := hw.cells; go_simp; (try with_reducible rfl); done))) | ((with_reducible refine cl_skip ?_ ?_); (focus (first | (go_simp; done) | exact unwanted rfl rfl)))); simp only [Act.put, List.setIfInBounds_toArray, List.set_cons_zero, List.set_cons_succ])
        refine cl_call (v := .int .i64 _) rfl (fun w' hw => by go_simp) (fun w' hw => (left_is HS.out HM'.out w').mono fun e w'' ⟨he, hk⟩ => ⟨he, hw.kp hk⟩) ?_
        simp only [Act.put, List.setIfInBounds_toArray, List.set_cons_zero, List.set_cons_succ]
        repeat ((first | ((with_reducible refine cl_val (v := ?_) ?_ ?_ ?_); rotate_left; (focus (go_simp; done)); (focus (intro w' hw; obtain ⟨c0, c1, c2, d0, d1, d2, lt, lt'⟩ := hw.cells; go_simp; (try with_reducible rfl); done))) | ((with_reducible refine cl_skip ?_ ?_); (focus (first | (go_simp; done) | exact unwanted rfl rfl)))); simp only [Act.put, List.setIfInBounds_toArray, List.set_cons_zero, List.set_cons_succ])
        refine cl_call (v := .agg #[.int .i64 p, .int .i64 q, .int .i64 0]) rfl (fun w' hw => by go_simp) (fun w' hw => (pass_is HP.out w').mono fun e w'' ⟨he, hk⟩ => ⟨he, hw.kp hk⟩) ?_
        simp only [Act.put, List.setIfInBounds_toArray, List.set_cons_zero, List.set_cons_succ]
        repeat ((first | ((with_reducible refine cl_val (v := ?_) ?_ ?_ ?_); rotate_left; (focus (go_simp; done)); (focus (intro w' hw; obtain ⟨c0, c1, c2, d0, d1, d2, lt, lt'⟩ := hw.cells; go_simp; (try with_reducible rfl); done))) | ((with_reducible refine cl_skip ?_ ?_); (focus (first | (go_simp; done) | exact unwanted rfl rfl)))); simp only [Act.put, List.setIfInBounds_toArray, List.set_cons_zero, List.set_cons_succ])
        refine cl_call (v := .int .i64 q) rfl (fun w' hw => by go_simp) (fun w' hw => (left_is HT.out HQ.out w').mono fun e w'' ⟨he, hk⟩ => ⟨he, hw.kp hk⟩) ?_
        simp only [Act.put, List.setIfInBounds_toArray, List.set_cons_zero, List.set_cons_succ]
        repeat ((first | ((with_reducible refine cl_val (v := ?_) ?_ ?_ ?_); rotate_left; (focus (go_simp; done)); (focus (intro w' hw; obtain ⟨c0, c1, c2, d0, d1, d2, lt, lt'⟩ := hw.cells; go_simp; (try with_reducible rfl); done))) | ((with_reducible refine cl_skip ?_ ?_); (focus (first | (go_simp; done) | exact unwanted rfl rfl)))); simp only [Act.put, List.setIfInBounds_toArray, List.set_cons_zero, List.set_cons_succ])
        refine cl_nil fun w' hw => ?_
        have P7 := hid hw
        clear hw
        go_wp2_with fail
        go_ret
        exact ⟨rfl, P7.out.kept⟩
end Go.Proofs.Ytnlehhmogdencaa
