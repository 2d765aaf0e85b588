/-
  Contracts: Done, Reweigh (both), Less.
-/
import Derived.Test.YtgkeljioefiljaaPaceB
import Derived.StillTailTactics
namespace Go.Proofs.Ytgkeljioefiljaa
open Go.RowKit

/-- A region that draws, of which all but the last operations read or call quietly: those in the order of the text, then the rest. -/
theorem region_tail {P : Program} {id : Nat} {Q : Exit → Act → World → Prop} {a : Act} {w : World} {l : List Oper} (n : Nat) (hm : P.follows .mixedOrders = true) (hB : Region.lexTailB .any l.toArray n = true)
    (h : wpStill P l.toArray w.drew (fun a' => wpList P l.toArray Q (l.drop n) a' w.drew) (l.take n) a) : (Code.region id l.toArray true).wp P Q a w := wp_region_still_tail n hm hB h

theorem done_any (v r x m : Int) (w : World) (hm : wt x * v = m) (h0 : 0 ≤ m) (h1 : m ≤ 2305843009213693952) (h2 : 0 ≤ r) (h3 : r ≤ 1048576) :
    Calls Try.prog 19 #[.agg #[.int .i64 v, .int .i64 r], .int .i64 x] w fun e w' =>
      e = .returned (.int .i64 ((m + r) / 1048576)) ∧ Kp No w w' := by
  have e1 : IntKind.i64.wrap (wt x * v) = m := by rw [hm]; exact wrapI ⟨by omega, by omega⟩
  have e2 := wrapI (x := m + r) ⟨by omega, by omega⟩
  have e3 := Go.IntWalk.i64_quo (m + r) 1048576 ⟨by omega, by omega, by omega⟩
  go_enter Try.func19, Try.ntmps19
  go_wp2_with fail
  go_quiet (first | (go_at_call 21; exact Calls.quiet_of_same (weigh_any x _)))
  go_wp2
  go_ret
  exact ⟨rfl, ((Kp.refl No w).alloc _).drewN _⟩

/-- What is left over, by another weight. -/
theorem rew_bd {r a b : Int} (h0 : 0 ≤ r) (h1 : r < wt a) : 0 ≤ r * wt b ∧ r * wt b ≤ 1099511627776 := by
  obtain ⟨ha1, ha2⟩ := wt_bd a
  obtain ⟨hb1, hb2⟩ := wt_bd b
  refine ⟨Int.mul_nonneg h0 (by omega), ?_⟩
  have := Int.mul_le_mul (show r ≤ 1048576 by omega) hb2 (by omega) (by omega)
  omega

theorem reweigh_any (v r a b : Int) (w : World) (h0 : 0 ≤ r) (h1 : r < wt a) :
    Calls Try.prog 15 #[.agg #[.int .i64 v, .int .i64 r], .int .i64 a, .int .i64 b] w fun e w' =>
      e = .returned (.agg #[.int .i64 v, .int .i64 (r * wt b / wt a)]) ∧ Kp No w w' := by
  obtain ⟨hb1, hb2⟩ := wt_bd a
  obtain ⟨m0, m1⟩ := rew_bd (b := b) h0 h1
  have e1 : IntKind.i64.wrap (r * wt b) = r * wt b := wrapI ⟨by omega, by omega⟩
  have e3 := Go.IntWalk.i64_quo (r * wt b) (wt a) ⟨by omega, by omega, by omega⟩
  have hz' : wt a ≠ 0 := by omega
  go_enter Try.func15, Try.ntmps15
  go_wp2_with fail
  refine region_tail 11 (by kernel_rfl) (by kernel_rfl) ?_
  simp only [List.take_succ_cons, List.take_zero, List.drop_succ_cons, List.drop_zero]
  repeat (first | still_step | still_call (weigh_any _ _))
  refine wpStill_nil ?_
  go_wp2
  refine bodyPost_ret (v := .agg #[.int .i64 v, .int .i64 (r * wt b / wt a)]) ?_ rfl ⟨rfl, (((Kp.refl No w).alloc _).alloc _).drew⟩
  rw [results_cell rfl]
  go_simp

theorem refreweigh_any (v r a b : Int) (w : World) (h0 : 0 ≤ r) (h1 : r < wt a) :
    Calls Try.prog 16 #[.agg #[.int .i64 v, .int .i64 r], .int .i64 a, .int .i64 b] w fun e w' =>
      e = .returned (.agg #[.int .i64 v, .int .i64 (r * wt b / wt a)]) ∧ Kp No w w' := by
  obtain ⟨hb1, hb2⟩ := wt_bd a
  obtain ⟨m0, m1⟩ := rew_bd (b := b) h0 h1
  have e1 : IntKind.i64.wrap (r * wt b) = r * wt b := wrapI ⟨by omega, by omega⟩
  have e3 := Go.IntWalk.i64_quo (r * wt b) (wt a) ⟨by omega, by omega, by omega⟩
  have hz' : wt a ≠ 0 := by omega
  go_enter Try.func16, Try.ntmps16
  go_wp2_with fail
  refine (weight_any a _).mono ?_
  rintro e w1 ⟨rfl, rfl⟩
  go_wp2_with fail
  refine (weight_any b _).mono ?_
  rintro e w1 ⟨rfl, rfl⟩
  go_wp2_with fail
  go_region
  go_wp2
  refine bodyPost_ret (v := .agg #[.int .i64 v, .int .i64 (r * wt b / wt a)]) ?_ rfl ⟨rfl, (((Kp.refl No w).alloc _).alloc _).drew⟩
  rw [results_cell rfl]
  go_simp

/-- Whether one stands ahead of another one. -/
def ls (k i k' i' : Int) : Bool := decide (k < k') || (k == k') && decide (i < i')

theorem less_any (k i k' i' : Int) (w : World) :
    Calls Try.prog 20 #[.agg #[.int .i64 k, .int .i64 i], .agg #[.int .i64 k', .int .i64 i']] w fun e w' =>
      e = .returned (.bool (ls k i k' i')) ∧ Kp No w w' := by
  by_cases h1 : k < k'
  · have H := hid (show ls k i k' i' = true by unfold ls; simp [h1])
    go_enter Try.func20, Try.ntmps20
    go_wp2
    go_ret
    rw [H.out]
    exact ⟨rfl, ((Kp.refl No w).alloc _).alloc _⟩
  · have d1 := decide_eq_false h1
    by_cases h2 : k = k'
    · subst h2
      have d2 : (k == k) = true := by simp
      have H := hid (show ls k i k i' = decide (i < i') by unfold ls; rw [d1, d2]; simp)
      go_enter Try.func20, Try.ntmps20
      go_wp2
      go_ret
      rw [H.out]
      exact ⟨rfl, ((Kp.refl No w).alloc _).alloc _⟩
    · have d2 : (k == k') = false := by simp [h2]
      have H := hid (show ls k i k' i' = false by unfold ls; rw [d1, d2]; simp)
      go_enter Try.func20, Try.ntmps20
      go_wp2
      go_ret
      rw [H.out]
      exact ⟨rfl, ((Kp.refl No w).alloc _).alloc _⟩
end Go.Proofs.Ytgkeljioefiljaa
