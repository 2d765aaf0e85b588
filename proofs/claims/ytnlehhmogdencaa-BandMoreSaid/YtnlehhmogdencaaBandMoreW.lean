/-
  The walk of BandMore.
-/
import Derived.Test.YtnlehhmogdencaaBandH
namespace Go.Proofs.Ytnlehhmogdencaa
open Go.RowKit

set_option maxHeartbeats 1000000 in
theorem bandMore_walk (w : World) (p q u m : Int) (_ : I64 p) (_ : I64 q) (_ : I64 u) (hm : 0 ≤ m ∧ m ≤ 65535) :
    Calls Try.prog 8 #[.agg #[.int .i64 p, .int .i64 q, .int .i64 u], .int .u16 m] w fun e w' => e = .returned (.bool true) ∧ Kp No w w' := by
  have A1 := hid (show At w w.heap.size 23 #[.int .i64 p, .int .i64 q, .int .i64 u] (w.alloc (.cells #[.int .i64 p, .int .i64 q, .int .i64 u] 23)) from ⟨(Kp.refl No w).alloc _, Blk.new _ _ _⟩)
  have wm : IntKind.i64.wrap m = m := wrapI ⟨by omega, by omega⟩
  obtain ⟨b, hb⟩ : ∃ b, decide (Rb p q u) = b := ⟨_, rfl⟩
  obtain ⟨Q, hQ⟩ : ∃ Q, IntKind.i64.wrap (q + m) = Q := ⟨_, rfl⟩
  obtain ⟨c, hc⟩ : ∃ c, decide (Rb p Q u) = c := ⟨_, rfl⟩
  have HB := hid hb
  have HC := hid hc
  have HQ := hid hQ
  have HM := hid hm
  clear hb hc
  go_enter Try.func8, Try.ntmps8
  go_wp2_with fail
  refine (awake_any _).mono ?_
  rintro e w1 ⟨rfl, k1⟩
  have A2 := hid (A1.out.kp k1)
  clear A1 k1
  obtain ⟨c0, c1, c2, lt⟩ := A2.out.blk.three
  go_wp2_with fail
  refine (refright_is HB.out _).mono ?_
  rintro e w2 ⟨rfl, k2⟩
  clear c0 c1 c2 lt
  have A3 := hid (A2.out.kp k2)
  clear A2 k2
  obtain ⟨c0, c1, c2, lt⟩ := A3.out.blk.three
  go_wp2_with fail
  have P3 := hid (show Pr w w.heap.size w2.heap.size (.int .i64 p) (.int .i64 q) (.int .i64 u) (.int .i64 p) (.int .i64 Q) (.int .i64 u) (w2.alloc (.cells #[.int .i64 p, .int .i64 Q, .int .i64 u] 23)) from ⟨A3.out.kept.alloc _, A3.out.blk.kp0 ((Kp.refl No w2).alloc _), Blk.new _ _ _⟩)
  refine (refright_is HC.out _).mono ?_
  rintro e w3 ⟨rfl, k3⟩
  clear c0 c1 c2 lt
  have P4 := hid (P3.out.kp k3)
  clear A3 P3 k3
  obtain ⟨c0, c1, c2, d0, d1, d2, lt, lt'⟩ := P4.out.cells
  cases b
  · go_wp2_with fail
    go_ret
    exact ⟨rfl, P4.out.kept⟩
  · cases c
    · go_wp2_with fail
      go_ret
      exact ⟨rfl, P4.out.kept⟩
    · by_cases hq : q = 0
      · subst hq
        go_wp2_with fail
        go_ret
        exact ⟨rfl, P4.out.kept⟩
      · have hq' : (q == 0) = false := by simp [hq]
        have HR := hid (of_decide_eq_true HB.out)
        have HS := hid (of_decide_eq_true HC.out)
        obtain rfl : q + m = Q := by rw [← hQ]; have := HR.out.2.2.1; have := HR.out.2.2.2.1; exact (wrapI ⟨by omega, by omega⟩).symm
        obtain ⟨s, hs⟩ : ∃ s, (lf q u == 0) = s := ⟨_, rfl⟩
        obtain ⟨s', hs'⟩ : ∃ s, (lf (q + m) u == 0) = s := ⟨_, rfl⟩
        obtain ⟨L, hL⟩ : ∃ L, lf q u = L := ⟨_, rfl⟩
        obtain ⟨L', hL'⟩ : ∃ L, lf (q + m) u = L := ⟨_, rfl⟩
        have HD := hid hs
        have HD' := hid hs'
        have HL := hid hL
        have HL' := hid hL'
        have hle : L ≤ L' := by
          rw [← hL, ← hL']
          have := HR.out.2.2.1
          unfold lf
          rw [if_neg hq, if_neg (show ¬ q + m = 0 by omega)]
          split <;> split <;> omega
        have hq0 := HR.out.2.2.1
        have l0 : 0 ≤ L := by rw [← hL]; unfold lf; rw [if_neg hq]; split <;> omega
        have l1 : L ≤ 1048576 := by rw [← hL]; have := HR.out.2.2.2.1; have := HR.out.2.2.2.2.1; unfold lf; rw [if_neg hq]; split <;> omega
        have wl : IntKind.i64.wrap (L + m) = L + m := wrapI ⟨by omega, by omega⟩
        clear hL hL' hQ
        go_wp2_with fail
        refine (shut_is HR.out HD.out _).mono ?_
        rintro e w5 ⟨rfl, k5⟩
        clear c0 c1 c2 d0 d1 d2 lt lt'
        have P5 := hid (P4.out.kp k5)
        clear P4 k5
        cases s
        · have e1 : u < q := (lf_false.1 hs).resolve_left hq
          have e2 : s' = false := by rw [← hs']; exact lf_false.2 (.inr (by omega))
          subst e2
          have e3 : L' = L + m := by rw [← HL.out, ← HL'.out]; unfold lf; rw [if_neg hq, if_neg (show ¬ q + m = 0 by omega), if_neg (show ¬ q < u by omega), if_neg (show ¬ q + m < u by omega)]; omega
          have e4 : (L' == L + m) = true := by simp [e3]
          clear hs hs' e1 e3
          go_wp2_with fail
          refine region_class (fun w' => Pr w w.heap.size w2.heap.size (.int .i64 p) (.int .i64 q) (.int .i64 u) (.int .i64 p) (.int .i64 (q + m)) (.int .i64 u) w') 34 rfl (by kernel_rfl) (by kernel_rfl) (by kernel_rfl) (P5.out.kp (Kp.refl No _).drew) ?_
          simp only [List.take_succ_cons, List.take_zero]
          repeat ((first | ((with_reducible refine cl_val (v := ?_) ?_ ?_ ?_); rotate_left; (focus (go_simp; done)); (focus (intro w' hw; obtain ⟨c0, c1, c2, d0, d1, d2, lt, lt'⟩ := hw.cells; go_simp; (try with_reducible rfl); done))) | ((with_reducible refine cl_skip ?_ ?_); (focus (first | (go_simp; done) | exact unwanted rfl rfl)))); simp only [Act.put, List.setIfInBounds_toArray, List.set_cons_zero, List.set_cons_succ])
          refine cl_call (v := .bool false) rfl (fun w' hw => by go_simp) (fun w' hw => (shut_is HS.out HD'.out w').mono fun e w'' ⟨he, hk⟩ => ⟨he, hw.kp hk⟩) ?_
          simp only [Act.put, List.setIfInBounds_toArray, List.set_cons_zero, List.set_cons_succ]
          repeat ((first | ((with_reducible refine cl_val (v := ?_) ?_ ?_ ?_); rotate_left; (focus (go_simp; done)); (focus (intro w' hw; obtain ⟨c0, c1, c2, d0, d1, d2, lt, lt'⟩ := hw.cells; go_simp; (try with_reducible rfl); done))) | ((with_reducible refine cl_skip ?_ ?_); (focus (first | (go_simp; done) | exact unwanted rfl rfl)))); simp only [Act.put, List.setIfInBounds_toArray, List.set_cons_zero, List.set_cons_succ])
          refine cl_call (v := .int .i64 L') rfl (fun w' hw => by go_simp) (fun w' hw => (left_is HS.out HL'.out w').mono fun e w'' ⟨he, hk⟩ => ⟨he, hw.kp hk⟩) ?_
          simp only [Act.put, List.setIfInBounds_toArray, List.set_cons_zero, List.set_cons_succ]
          repeat ((first | ((with_reducible refine cl_val (v := ?_) ?_ ?_ ?_); rotate_left; (focus (go_simp; done)); (focus (intro w' hw; obtain ⟨c0, c1, c2, d0, d1, d2, lt, lt'⟩ := hw.cells; go_simp; (try with_reducible rfl); done))) | ((with_reducible refine cl_skip ?_ ?_); (focus (first | (go_simp; done) | exact unwanted rfl rfl)))); simp only [Act.put, List.setIfInBounds_toArray, List.set_cons_zero, List.set_cons_succ])
          refine cl_call (v := .int .i64 L) rfl (fun w' hw => by go_simp) (fun w' hw => (left_is HR.out HL.out w').mono fun e w'' ⟨he, hk⟩ => ⟨he, hw.kp hk⟩) ?_
          simp only [Act.put, List.setIfInBounds_toArray, List.set_cons_zero, List.set_cons_succ]
          repeat ((first | ((with_reducible refine cl_val (v := ?_) ?_ ?_ ?_); rotate_left; (focus (go_simp; done)); (focus (intro w' hw; obtain ⟨c0, c1, c2, d0, d1, d2, lt, lt'⟩ := hw.cells; go_simp; (try with_reducible rfl); done))) | ((with_reducible refine cl_skip ?_ ?_); (focus (first | (go_simp; done) | exact unwanted rfl rfl)))); simp only [Act.put, List.setIfInBounds_toArray, List.set_cons_zero, List.set_cons_succ])
          refine cl_call (v := .bool false) rfl (fun w' hw => by go_simp) (fun w' hw => (shut_is HS.out HD'.out w').mono fun e w'' ⟨he, hk⟩ => ⟨he, hw.kp hk⟩) ?_
          simp only [Act.put, List.setIfInBounds_toArray, List.set_cons_zero, List.set_cons_succ]
          repeat ((first | ((with_reducible refine cl_val (v := ?_) ?_ ?_ ?_); rotate_left; (focus (go_simp; done)); (focus (intro w' hw; obtain ⟨c0, c1, c2, d0, d1, d2, lt, lt'⟩ := hw.cells; go_simp; (try with_reducible rfl); done))) | ((with_reducible refine cl_skip ?_ ?_); (focus (first | (go_simp; done) | exact unwanted rfl rfl)))); simp only [Act.put, List.setIfInBounds_toArray, List.set_cons_zero, List.set_cons_succ])
          refine cl_call (v := .int .i64 L') rfl (fun w' hw => by go_simp) (fun w' hw => (left_is HS.out HL'.out w').mono fun e w'' ⟨he, hk⟩ => ⟨he, hw.kp hk⟩) ?_
          simp only [Act.put, List.setIfInBounds_toArray, List.set_cons_zero, List.set_cons_succ]
          repeat ((first | ((with_reducible refine cl_val (v := ?_) ?_ ?_ ?_); rotate_left; (focus (go_simp; done)); (focus (intro w' hw; obtain ⟨c0, c1, c2, d0, d1, d2, lt, lt'⟩ := hw.cells; go_simp; (try with_reducible rfl); done))) | ((with_reducible refine cl_skip ?_ ?_); (focus (first | (go_simp; done) | exact unwanted rfl rfl)))); simp only [Act.put, List.setIfInBounds_toArray, List.set_cons_zero, List.set_cons_succ])
          refine cl_call (v := .int .i64 L) rfl (fun w' hw => by go_simp) (fun w' hw => (left_is HR.out HL.out w').mono fun e w'' ⟨he, hk⟩ => ⟨he, hw.kp hk⟩) ?_
          simp only [Act.put, List.setIfInBounds_toArray, List.set_cons_zero, List.set_cons_succ]
          repeat ((first | ((with_reducible refine cl_val (v := ?_) ?_ ?_ ?_); rotate_left; (focus (go_simp; done)); (focus (intro w' hw; obtain ⟨c0, c1, c2, d0, d1, d2, lt, lt'⟩ := hw.cells; go_simp; (try with_reducible rfl); done))) | ((with_reducible refine cl_skip ?_ ?_); (focus (first | (go_simp; done) | exact unwanted rfl rfl)))); simp only [Act.put, List.setIfInBounds_toArray, List.set_cons_zero, List.set_cons_succ])
          refine cl_nil fun w' hw => ?_
          have HW := hid hw
          clear hw
          go_wp2_with fail
          go_ret
          exact ⟨rfl, HW.out.kept⟩
        · clear hs hs'
          cases s'
          · go_wp2_with fail
            refine region_class (fun w' => Pr w w.heap.size w2.heap.size (.int .i64 p) (.int .i64 q) (.int .i64 u) (.int .i64 p) (.int .i64 (q + m)) (.int .i64 u) w') 34 rfl (by kernel_rfl) (by kernel_rfl) (by kernel_rfl) (P5.out.kp (Kp.refl No _).drew) ?_
            simp only [List.take_succ_cons, List.take_zero]
            repeat ((first | ((with_reducible refine cl_val (v := ?_) ?_ ?_ ?_); rotate_left; (focus (go_simp; done)); (focus (intro w' hw; obtain ⟨c0, c1, c2, d0, d1, d2, lt, lt'⟩ := hw.cells; go_simp; (try with_reducible rfl); done))) | ((with_reducible refine cl_skip ?_ ?_); (focus (first | (go_simp; done) | exact unwanted rfl rfl)))); simp only [Act.put, List.setIfInBounds_toArray, List.set_cons_zero, List.set_cons_succ])
            refine cl_call (v := .bool false) rfl (fun w' hw => by go_simp) (fun w' hw => (shut_is HS.out HD'.out w').mono fun e w'' ⟨he, hk⟩ => ⟨he, hw.kp hk⟩) ?_
            simp only [Act.put, List.setIfInBounds_toArray, List.set_cons_zero, List.set_cons_succ]
            repeat ((first | ((with_reducible refine cl_val (v := ?_) ?_ ?_ ?_); rotate_left; (focus (go_simp; done)); (focus (intro w' hw; obtain ⟨c0, c1, c2, d0, d1, d2, lt, lt'⟩ := hw.cells; go_simp; (try with_reducible rfl); done))) | ((with_reducible refine cl_skip ?_ ?_); (focus (first | (go_simp; done) | exact unwanted rfl rfl)))); simp only [Act.put, List.setIfInBounds_toArray, List.set_cons_zero, List.set_cons_succ])
            refine cl_call (v := .int .i64 L') rfl (fun w' hw => by go_simp) (fun w' hw => (left_is HS.out HL'.out w').mono fun e w'' ⟨he, hk⟩ => ⟨he, hw.kp hk⟩) ?_
            simp only [Act.put, List.setIfInBounds_toArray, List.set_cons_zero, List.set_cons_succ]
            repeat ((first | ((with_reducible refine cl_val (v := ?_) ?_ ?_ ?_); rotate_left; (focus (go_simp; done)); (focus (intro w' hw; obtain ⟨c0, c1, c2, d0, d1, d2, lt, lt'⟩ := hw.cells; go_simp; (try with_reducible rfl); done))) | ((with_reducible refine cl_skip ?_ ?_); (focus (first | (go_simp; done) | exact unwanted rfl rfl)))); simp only [Act.put, List.setIfInBounds_toArray, List.set_cons_zero, List.set_cons_succ])
            refine cl_call (v := .int .i64 L) rfl (fun w' hw => by go_simp) (fun w' hw => (left_is HR.out HL.out w').mono fun e w'' ⟨he, hk⟩ => ⟨he, hw.kp hk⟩) ?_
            simp only [Act.put, List.setIfInBounds_toArray, List.set_cons_zero, List.set_cons_succ]
            repeat ((first | ((with_reducible refine cl_val (v := ?_) ?_ ?_ ?_); rotate_left; (focus (go_simp; done)); (focus (intro w' hw; obtain ⟨c0, c1, c2, d0, d1, d2, lt, lt'⟩ := hw.cells; go_simp; (try with_reducible rfl); done))) | ((with_reducible refine cl_skip ?_ ?_); (focus (first | (go_simp; done) | exact unwanted rfl rfl)))); simp only [Act.put, List.setIfInBounds_toArray, List.set_cons_zero, List.set_cons_succ])
            refine cl_nil fun w' hw => ?_
            have HW := hid hw
            clear hw
            go_wp2_with fail
            go_ret
            exact ⟨rfl, HW.out.kept⟩
          · go_wp2_with fail
            refine region_class (fun w' => Pr w w.heap.size w2.heap.size (.int .i64 p) (.int .i64 q) (.int .i64 u) (.int .i64 p) (.int .i64 (q + m)) (.int .i64 u) w') 34 rfl (by kernel_rfl) (by kernel_rfl) (by kernel_rfl) (P5.out.kp (Kp.refl No _).drew) ?_
            simp only [List.take_succ_cons, List.take_zero]
            repeat ((first | ((with_reducible refine cl_val (v := ?_) ?_ ?_ ?_); rotate_left; (focus (go_simp; done)); (focus (intro w' hw; obtain ⟨c0, c1, c2, d0, d1, d2, lt, lt'⟩ := hw.cells; go_simp; (try with_reducible rfl); done))) | ((with_reducible refine cl_skip ?_ ?_); (focus (first | (go_simp; done) | exact unwanted rfl rfl)))); simp only [Act.put, List.setIfInBounds_toArray, List.set_cons_zero, List.set_cons_succ])
            refine cl_call (v := .bool true) rfl (fun w' hw => by go_simp) (fun w' hw => (shut_is HS.out HD'.out w').mono fun e w'' ⟨he, hk⟩ => ⟨he, hw.kp hk⟩) ?_
            simp only [Act.put, List.setIfInBounds_toArray, List.set_cons_zero, List.set_cons_succ]
            repeat ((first | ((with_reducible refine cl_val (v := ?_) ?_ ?_ ?_); rotate_left; (focus (go_simp; done)); (focus (intro w' hw; obtain ⟨c0, c1, c2, d0, d1, d2, lt, lt'⟩ := hw.cells; go_simp; (try with_reducible rfl); done))) | ((with_reducible refine cl_skip ?_ ?_); (focus (first | (go_simp; done) | exact unwanted rfl rfl)))); simp only [Act.put, List.setIfInBounds_toArray, List.set_cons_zero, List.set_cons_succ])
            refine cl_call (v := .int .i64 L') rfl (fun w' hw => by go_simp) (fun w' hw => (left_is HS.out HL'.out w').mono fun e w'' ⟨he, hk⟩ => ⟨he, hw.kp hk⟩) ?_
            simp only [Act.put, List.setIfInBounds_toArray, List.set_cons_zero, List.set_cons_succ]
            repeat ((first | ((with_reducible refine cl_val (v := ?_) ?_ ?_ ?_); rotate_left; (focus (go_simp; done)); (focus (intro w' hw; obtain ⟨c0, c1, c2, d0, d1, d2, lt, lt'⟩ := hw.cells; go_simp; (try with_reducible rfl); done))) | ((with_reducible refine cl_skip ?_ ?_); (focus (first | (go_simp; done) | exact unwanted rfl rfl)))); simp only [Act.put, List.setIfInBounds_toArray, List.set_cons_zero, List.set_cons_succ])
            refine cl_call (v := .int .i64 L) rfl (fun w' hw => by go_simp) (fun w' hw => (left_is HR.out HL.out w').mono fun e w'' ⟨he, hk⟩ => ⟨he, hw.kp hk⟩) ?_
            simp only [Act.put, List.setIfInBounds_toArray, List.set_cons_zero, List.set_cons_succ]
            repeat ((first | ((with_reducible refine cl_val (v := ?_) ?_ ?_ ?_); rotate_left; (focus (go_simp; done)); (focus (intro w' hw; obtain ⟨c0, c1, c2, d0, d1, d2, lt, lt'⟩ := hw.cells; go_simp; (try with_reducible rfl); done))) | ((with_reducible refine cl_skip ?_ ?_); (focus (first | (go_simp; done) | exact unwanted rfl rfl)))); simp only [Act.put, List.setIfInBounds_toArray, List.set_cons_zero, List.set_cons_succ])
            refine cl_nil fun w' hw => ?_
            have HW := hid hw
            clear hw
            go_wp2_with fail
            go_ret
            exact ⟨rfl, HW.out.kept⟩
end Go.Proofs.Ytnlehhmogdencaa
