/-
  The walk of BandParts.
-/
import Derived.Test.YtnlehhmogdencaaBandG
namespace Go.Proofs.Ytnlehhmogdencaa
open Go.RowKit

theorem en_parts {p t x y : Int} (ht : 0 ≤ t) (hx : 0 ≤ x) (hy : 0 ≤ y) (hs : t + x + y ≤ 1099511627776) : en p t x + en p (t + x) y = en p t (x + y) := by
  unfold en
  split
  · omega
  · rw [tk_in ht (by omega), tk_in hx (by omega), tk_in (by omega) (by omega), tk_in hy (by omega), tk_in (show 0 ≤ x + y by omega) (by omega), Int.add_assoc]
    omega
theorem ends_is {p n m z : Int} (hz : en p n m = z) (w : World) : Calls Try.prog 20 #[.int .i64 p, .int .i64 n, .int .i64 m] w fun e w' => e = .returned (.int .i64 z) ∧ Kp No w w' := ends_any hz w

set_option maxHeartbeats 1000000 in
theorem bandParts_walk (w : World) (p q u t x y : Int) (_ : I64 p) (_ : I64 q) (_ : I64 u) (ht : 0 ≤ t ∧ t ≤ 4294967295) (hx : 0 ≤ x ∧ x ≤ 4294967295) (hy : 0 ≤ y ∧ y ≤ 4294967295) :
    Calls Try.prog 5 #[.agg #[.int .i64 p, .int .i64 q, .int .i64 u], .int .u32 t, .int .u32 x, .int .u32 y] w fun e w' => e = .returned (.bool true) ∧ Kp No w w' := by
  have A1 := hid (show At w w.heap.size 23 #[.int .i64 p, .int .i64 q, .int .i64 u] (w.alloc (.cells #[.int .i64 p, .int .i64 q, .int .i64 u] 23)) from ⟨(Kp.refl No w).alloc _, Blk.new _ _ _⟩)
  have w1 : IntKind.i64.wrap t = t := wrapI ⟨by omega, by omega⟩
  have w2 : IntKind.i64.wrap x = x := wrapI ⟨by omega, by omega⟩
  have w3 : IntKind.i64.wrap y = y := wrapI ⟨by omega, by omega⟩
  have w4 : IntKind.i64.wrap (t + x) = t + x := wrapI ⟨by omega, by omega⟩
  have w5 : IntKind.i64.wrap (x + y) = x + y := wrapI ⟨by omega, by omega⟩
  obtain ⟨b, hb⟩ : ∃ b, decide (Rb p q u) = b := ⟨_, rfl⟩
  have HB := hid hb
  obtain ⟨E1, h1⟩ : ∃ z, en p t x = z := ⟨_, rfl⟩
  obtain ⟨E2, h2⟩ : ∃ z, en p (t + x) y = z := ⟨_, rfl⟩
  obtain ⟨E3, h3⟩ : ∃ z, en p t (x + y) = z := ⟨_, rfl⟩
  have hE : E1 + E2 = E3 := by rw [← h1, ← h2, ← h3]; exact en_parts ht.1 hx.1 hy.1 (by omega)
  have b1 := en_bd p t x
  have b2 := en_bd p (t + x) y
  rw [h1] at b1
  rw [h2] at b2
  have w6 : IntKind.i64.wrap (E1 + E2) = E3 := by rw [hE]; exact wrapI ⟨by omega, by omega⟩
  have n3 : (E3 == E3) = true := by simp
  obtain ⟨U1, g1⟩ : ∃ z, ps p u t x = z := ⟨_, rfl⟩
  obtain ⟨U3, g3⟩ : ∃ z, ps p u t (x + y) = z := ⟨_, rfl⟩
  have g2 : ps p U1 (t + x) y = U3 := by
    rw [← g1, ← g3]
    unfold ps
    rw [h1, h2, h3]
    by_cases e1 : E1 = 0 <;> by_cases e2 : E2 = 0
    · rw [if_pos e2, if_pos e1, if_pos (by omega)]
    · rw [if_neg e2, if_neg (by omega)]
    · rw [if_pos e2, if_neg e1, if_neg (by omega)]
    · rw [if_neg e2, if_neg (by omega)]
  have g0 : ps p u t 0 = u := by
    have e0 : en p t 0 = 0 := by
      unfold en
      rw [show tk 0 = 0 by decide, Int.add_zero, Int.sub_self]
      split <;> rfl
    unfold ps
    rw [if_pos e0]
  have H1 := hid h1
  have H2 := hid h2
  have H3 := hid h3
  have G0 := hid g0
  have G1 := hid g1
  have G2 := hid g2
  have G3 := hid g3
  clear hb h1 h2 h3 g0 g1 g2 g3 hE b1 b2
  go_enter Try.func5, Try.ntmps5
  go_wp2_with fail
  refine (awake_any _).mono ?_
  rintro e v1 ⟨rfl, k1⟩
  have A2 := hid (A1.out.kp k1)
  clear A1 k1
  obtain ⟨c0, c1, c2, lt⟩ := A2.out.blk.three
  go_wp2_with fail
  refine (refright_is HB.out _).mono ?_
  rintro e v2 ⟨rfl, k2⟩
  clear c0 c1 c2 lt
  have A3 := hid (A2.out.kp k2)
  clear A2 k2
  obtain ⟨c0, c1, c2, lt⟩ := A3.out.blk.three
  cases b
  · go_wp2_with fail
    go_ret
    exact ⟨rfl, A3.out.kept⟩
  · have HR := hid (of_decide_eq_true HB.out)
    go_wp2_with fail
    clear c0 c1 c2 lt
    refine region_class (fun w' => At w w.heap.size 23 #[.int .i64 p, .int .i64 q, .int .i64 u] w') 13 rfl (by kernel_rfl) (by kernel_rfl) (by kernel_rfl) (A3.out.kp (Kp.refl No _).drew) ?_
    simp only [List.take_succ_cons, List.take_zero]
    repeat ((first | ((with_reducible refine cl_val (v := ?_) ?_ ?_ ?_); rotate_left; (focus (go_simp; done)); (focus (intro w' hw; obtain ⟨c0, c1, c2, lt⟩ := hw.blk.three; go_simp; (try with_reducible rfl); done))) | ((with_reducible refine cl_skip ?_ ?_); (focus (first | (go_simp; done) | exact unwanted rfl rfl)))); simp only [Act.put, List.setIfInBounds_toArray, List.set_cons_zero, List.set_cons_succ])
    refine cl_call (v := .int .i64 E1) rfl (fun w' hw => by go_simp) (fun w' hw => (ends_is H1.out w').mono fun e w'' ⟨he, hk⟩ => ⟨he, hw.kp hk⟩) ?_
    simp only [Act.put, List.setIfInBounds_toArray, List.set_cons_zero, List.set_cons_succ]
    repeat ((first | ((with_reducible refine cl_val (v := ?_) ?_ ?_ ?_); rotate_left; (focus (go_simp; done)); (focus (intro w' hw; obtain ⟨c0, c1, c2, lt⟩ := hw.blk.three; go_simp; (try with_reducible rfl); done))) | ((with_reducible refine cl_skip ?_ ?_); (focus (first | (go_simp; done) | exact unwanted rfl rfl)))); simp only [Act.put, List.setIfInBounds_toArray, List.set_cons_zero, List.set_cons_succ])
    refine cl_call (v := .int .i64 E2) rfl (fun w' hw => by go_simp) (fun w' hw => (ends_is H2.out w').mono fun e w'' ⟨he, hk⟩ => ⟨he, hw.kp hk⟩) ?_
    simp only [Act.put, List.setIfInBounds_toArray, List.set_cons_zero, List.set_cons_succ]
    repeat ((first | ((with_reducible refine cl_val (v := ?_) ?_ ?_ ?_); rotate_left; (focus (go_simp; done)); (focus (intro w' hw; obtain ⟨c0, c1, c2, lt⟩ := hw.blk.three; go_simp; (try with_reducible rfl); done))) | ((with_reducible refine cl_skip ?_ ?_); (focus (first | (go_simp; done) | exact unwanted rfl rfl)))); simp only [Act.put, List.setIfInBounds_toArray, List.set_cons_zero, List.set_cons_succ])
    refine cl_nil fun w' hw => ?_
    have A4 := hid hw
    clear hw A3
    obtain ⟨c0, c1, c2, lt⟩ := A4.out.blk.three
    go_wp2_with fail
    refine (ends_is H3.out _).mono ?_
    rintro e v3 ⟨rfl, k3⟩
    clear c0 c1 c2 lt
    have A5 := hid (A4.out.kp k3)
    clear A4 k3
    have s1 : (p == p) = true := by simp
    have s2 : (q == q) = true := by simp
    have s3 : (u == u) = true := by simp
    have s4 : (U3 == U3) = true := by simp
    go_wp2_with fail
    refine region_class (fun w' => At w w.heap.size 23 #[.int .i64 p, .int .i64 q, .int .i64 u] w') 26 rfl (by kernel_rfl) (by kernel_rfl) (by kernel_rfl) (A5.out.kp (Kp.refl No _).drew) ?_
    simp only [List.take_succ_cons, List.take_zero]
    repeat ((first | ((with_reducible refine cl_val (v := ?_) ?_ ?_ ?_); rotate_left; (focus (go_simp; done)); (focus (intro w' hw; obtain ⟨c0, c1, c2, lt⟩ := hw.blk.three; go_simp; (try with_reducible rfl); done))) | ((with_reducible refine cl_skip ?_ ?_); (focus (first | (go_simp; done) | exact unwanted rfl rfl)))); simp only [Act.put, List.setIfInBounds_toArray, List.set_cons_zero, List.set_cons_succ])
    refine cl_call (v := .agg #[.int .i64 p, .int .i64 q, .int .i64 U1]) rfl (fun w' hw => by go_simp) (fun w' hw => (pass_is G1.out w').mono fun e w'' ⟨he, hk⟩ => ⟨he, hw.kp hk⟩) ?_
    simp only [Act.put, List.setIfInBounds_toArray, List.set_cons_zero, List.set_cons_succ]
    repeat ((first | ((with_reducible refine cl_val (v := ?_) ?_ ?_ ?_); rotate_left; (focus (go_simp; done)); (focus (intro w' hw; obtain ⟨c0, c1, c2, lt⟩ := hw.blk.three; go_simp; (try with_reducible rfl); done))) | ((with_reducible refine cl_skip ?_ ?_); (focus (first | (go_simp; done) | exact unwanted rfl rfl)))); simp only [Act.put, List.setIfInBounds_toArray, List.set_cons_zero, List.set_cons_succ])
    refine cl_call (v := .agg #[.int .i64 p, .int .i64 q, .int .i64 U3]) rfl (fun w' hw => by go_simp) (fun w' hw => (pass_is G2.out w').mono fun e w'' ⟨he, hk⟩ => ⟨he, hw.kp hk⟩) ?_
    simp only [Act.put, List.setIfInBounds_toArray, List.set_cons_zero, List.set_cons_succ]
    repeat ((first | ((with_reducible refine cl_val (v := ?_) ?_ ?_ ?_); rotate_left; (focus (go_simp; done)); (focus (intro w' hw; obtain ⟨c0, c1, c2, lt⟩ := hw.blk.three; go_simp; (try with_reducible rfl); done))) | ((with_reducible refine cl_skip ?_ ?_); (focus (first | (go_simp; done) | exact unwanted rfl rfl)))); simp only [Act.put, List.setIfInBounds_toArray, List.set_cons_zero, List.set_cons_succ])
    refine cl_call (v := .agg #[.int .i64 p, .int .i64 q, .int .i64 U3]) rfl (fun w' hw => by go_simp) (fun w' hw => (pass_is G3.out w').mono fun e w'' ⟨he, hk⟩ => ⟨he, hw.kp hk⟩) ?_
    simp only [Act.put, List.setIfInBounds_toArray, List.set_cons_zero, List.set_cons_succ]
    repeat ((first | ((with_reducible refine cl_val (v := ?_) ?_ ?_ ?_); rotate_left; (focus (go_simp; done)); (focus (intro w' hw; obtain ⟨c0, c1, c2, lt⟩ := hw.blk.three; go_simp; (try with_reducible rfl); done))) | ((with_reducible refine cl_skip ?_ ?_); (focus (first | (go_simp; done) | exact unwanted rfl rfl)))); simp only [Act.put, List.setIfInBounds_toArray, List.set_cons_zero, List.set_cons_succ])
    refine cl_call (v := .agg #[.int .i64 p, .int .i64 q, .int .i64 u]) rfl (fun w' hw => by go_simp) (fun w' hw => (pass_is G0.out w').mono fun e w'' ⟨he, hk⟩ => ⟨he, hw.kp hk⟩) ?_
    simp only [Act.put, List.setIfInBounds_toArray, List.set_cons_zero, List.set_cons_succ]
    repeat ((first | ((with_reducible refine cl_val (v := ?_) ?_ ?_ ?_); rotate_left; (focus (go_simp; done)); (focus (intro w' hw; obtain ⟨c0, c1, c2, lt⟩ := hw.blk.three; go_simp; (try with_reducible rfl); done))) | ((with_reducible refine cl_skip ?_ ?_); (focus (first | (go_simp; done) | exact unwanted rfl rfl)))); simp only [Act.put, List.setIfInBounds_toArray, List.set_cons_zero, List.set_cons_succ])
    refine cl_nil fun w' hw => ?_
    have A6 := hid hw
    clear hw A5
    go_wp2_with fail
    go_ret
    exact ⟨rfl, A6.out.kept⟩
end Go.Proofs.Ytnlehhmogdencaa
