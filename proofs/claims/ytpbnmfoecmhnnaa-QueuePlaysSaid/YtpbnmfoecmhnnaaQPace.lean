/-
  Contracts of pace that a queue asks: Reweigh (both), and by named answers Run, Right, Reweigh.
-/
import Derived.Test.YtpbnmfoecmhnnaaPaceB
import Derived.Test.YtpbnmfoecmhnnaaSS
import Derived.StillTailTactics
namespace Go.Proofs.Ytpbnmfoecmhnnaa
open Go.RowKit

/-- What is left over, by another weight. -/
theorem rew_bd {r a b : Int} (h0 : 0 ≤ r) (h1 : r < wt a) : 0 ≤ r * wt b ∧ r * wt b ≤ 1099511627776 := by
  obtain ⟨ha1, ha2⟩ := wt_bd a
  obtain ⟨hb1, hb2⟩ := wt_bd b
  refine ⟨Int.mul_nonneg h0 (by omega), ?_⟩
  have := Int.mul_le_mul (show r ≤ 1048576 by omega) hb2 (by omega) (by omega)
  omega

set_option maxRecDepth 100000 in
theorem reweigh_any (v r a b : Int) (w : World) (h0 : 0 ≤ r) (h1 : r < wt a) :
    Calls Try.prog 80 #[.agg #[.int .i64 v, .int .i64 r], .int .i64 a, .int .i64 b] w fun e w' =>
      e = .returned (.agg #[.int .i64 v, .int .i64 (r * wt b / wt a)]) ∧ Kp No w w' := by
  obtain ⟨hb1, hb2⟩ := wt_bd a
  obtain ⟨m0, m1⟩ := rew_bd (b := b) h0 h1
  have e1 : IntKind.i64.wrap (r * wt b) = r * wt b := wrapI ⟨by omega, by omega⟩
  have e3 := Go.IntWalk.i64_quo (r * wt b) (wt a) ⟨by omega, by omega, by omega⟩
  have hz' : wt a ≠ 0 := by omega
  go_enter Try.func80, Try.ntmps80
  go_wp2_with fail
  refine region_tail 11 (by kernel_rfl) (by kernel_rfl) ?_
  simp only [List.take_succ_cons, List.take_zero, List.drop_succ_cons, List.drop_zero]
  repeat (first | still_step | still_call (weigh_any _ _))
  refine wpStill_nil ?_
  go_wp2
  refine bodyPost_ret (v := .agg #[.int .i64 v, .int .i64 (r * wt b / wt a)]) ?_ rfl ⟨rfl, (((Kp.refl No w).alloc _).alloc _).drew⟩
  rw [results_cell rfl]
  go_simp

set_option maxRecDepth 100000 in
theorem refreweigh_any (v r a b : Int) (w : World) (h0 : 0 ≤ r) (h1 : r < wt a) :
    Calls Try.prog 88 #[.agg #[.int .i64 v, .int .i64 r], .int .i64 a, .int .i64 b] w fun e w' =>
      e = .returned (.agg #[.int .i64 v, .int .i64 (r * wt b / wt a)]) ∧ Kp No w w' := by
  obtain ⟨hb1, hb2⟩ := wt_bd a
  obtain ⟨m0, m1⟩ := rew_bd (b := b) h0 h1
  have e1 : IntKind.i64.wrap (r * wt b) = r * wt b := wrapI ⟨by omega, by omega⟩
  have e3 := Go.IntWalk.i64_quo (r * wt b) (wt a) ⟨by omega, by omega, by omega⟩
  have hz' : wt a ≠ 0 := by omega
  go_enter Try.func88, Try.ntmps88
  go_wp2_with fail
  refine (weight_any a _).mono ?_
  rintro e w1 ⟨rfl, rfl⟩
  go_wp2_with fail
  refine (weight_any b _).mono ?_
  rintro e w1 ⟨rfl, rfl⟩
  go_wp2_with fail
  go_region
  go_wp2
  refine bodyPost_ret (v := .agg #[.int .i64 v, .int .i64 (r * wt b / wt a)]) ?_ rfl ⟨rfl, (((Kp.refl No w).alloc _).alloc _).drew⟩
  rw [results_cell rfl]
  go_simp

theorem run_is {v r x t a b : Int} {w : World} (h : can v r x = true) (ha : v + (1048576 * tk t + r) / wt x = a) (hb : (1048576 * tk t + r) % wt x = b) :
    Calls Try.prog 77 #[.agg #[.int .i64 v, .int .i64 r], .int .i64 x, .int .i64 t] w fun e w' => e = .returned (.agg #[.int .i64 a, .int .i64 b]) ∧ Kp No w w' := by
  subst ha hb
  exact run_any v r x t w h
theorem refrun_is {v r x t a b : Int} {w : World} (h : can v r x = true) (ha : v + (1048576 * tk t + r) / wt x = a) (hb : (1048576 * tk t + r) % wt x = b) :
    Calls Try.prog 86 #[.agg #[.int .i64 v, .int .i64 r], .int .i64 x, .int .i64 t] w fun e w' => e = .returned (.agg #[.int .i64 a, .int .i64 b]) ∧ Kp No w w' := by
  subst ha hb
  exact refrun_any v r x t w h
theorem reweigh_is {v r a b d : Int} {w : World} (h0 : 0 ≤ r) (h1 : r < wt a) (hd : r * wt b / wt a = d) :
    Calls Try.prog 80 #[.agg #[.int .i64 v, .int .i64 r], .int .i64 a, .int .i64 b] w fun e w' => e = .returned (.agg #[.int .i64 v, .int .i64 d]) ∧ Kp No w w' := by
  subst hd
  exact reweigh_any v r a b w h0 h1
theorem refreweigh_is {v r a b d : Int} {w : World} (h0 : 0 ≤ r) (h1 : r < wt a) (hd : r * wt b / wt a = d) :
    Calls Try.prog 88 #[.agg #[.int .i64 v, .int .i64 r], .int .i64 a, .int .i64 b] w fun e w' => e = .returned (.agg #[.int .i64 v, .int .i64 d]) ∧ Kp No w w' := by
  subst hd
  exact refreweigh_any v r a b w h0 h1
theorem right_is {v r x : Int} {q : Bool} {w : World} (h : can v r x = q) : Calls Try.prog 92 #[.agg #[.int .i64 v, .int .i64 r], .int .i64 x] w fun e w' => e = .returned (.bool q) ∧ Kp No w w' := by
  subst h
  exact right_any v r x w
end Go.Proofs.Ytpbnmfoecmhnnaa
