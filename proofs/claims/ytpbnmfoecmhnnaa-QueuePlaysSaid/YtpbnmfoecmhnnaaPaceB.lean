/-
  Contracts: Run (both), Done, Reweigh (both), Less.
-/
import Derived.Test.YtpbnmfoecmhnnaaPaceA
import Derived.BigRegion
import Derived.Deep.RegionWith
namespace Go.Proofs.Ytpbnmfoecmhnnaa
open Go.RowKit

/-- What Run reckons with. -/
structure Gone (v x g : Int) : Prop where
  e1 : IntKind.i64.wrap (g.tdiv (wt x)) = g / wt x
  e2 : g.tmod (wt x) = g % wt x
  e3 : IntKind.i64.wrap (v + g / wt x) = v + g / wt x
  e4 : IntKind.i64.wrap (g / wt x * wt x) = g - g % wt x
  e5 : IntKind.i64.wrap (g - (g - g % wt x)) = g % wt x
theorem gone (v x g : Int) (h1 : 0 ≤ v) (h2 : v ≤ 2305843009213693952) (hg0 : 0 ≤ g) (hg1 : g ≤ 2305843009213693952) : Gone v x g := by
  obtain ⟨hb1, hb2⟩ := wt_bd x
  have hz' : wt x ≠ 0 := by omega
  have q0 : 0 ≤ g / wt x := Int.ediv_nonneg hg0 (by omega)
  have q1 : g / wt x ≤ 2305843009213693952 := Int.le_trans (Int.ediv_le_self _ hg0) hg1
  have em : wt x * (g / wt x) + g % wt x = g := Int.mul_ediv_add_emod g (wt x)
  have er0 : 0 ≤ g % wt x := Int.emod_nonneg _ hz'
  have er1 : g % wt x < wt x := Int.emod_lt_of_pos _ (by omega)
  have em' : g / wt x * wt x = g - g % wt x := by rw [Int.mul_comm]; omega
  exact ⟨Go.IntWalk.i64_quo g (wt x) ⟨hg0, by omega, hb1⟩, Int.tmod_eq_emod_of_nonneg hg0, wrapI ⟨by omega, by omega⟩, by rw [em']; exact wrapI ⟨by omega, by omega⟩, by rw [show g - (g - g % wt x) = g % wt x by omega]; exact wrapI ⟨by omega, by omega⟩⟩

theorem run_any (v r x t : Int) (w : World) (h : can v r x = true) :
    Calls Try.prog 77 #[.agg #[.int .i64 v, .int .i64 r], .int .i64 x, .int .i64 t] w fun e w' =>
      e = .returned (.agg #[.int .i64 (v + (1048576 * tk t + r) / wt x), .int .i64 ((1048576 * tk t + r) % wt x)]) ∧ Kp No w w' := by
  obtain ⟨h1, h2, h3, h4⟩ := can_iff.1 h
  obtain ⟨hb1, hb2⟩ := wt_bd x
  have ht := tk_bd t
  clear h
  obtain ⟨g, hg⟩ : ∃ g, 1048576 * tk t + r = g := ⟨_, rfl⟩
  rw [hg]
  have hg0 : 0 ≤ g := by omega
  have hg1 : g ≤ 2305843009213693952 := by omega
  obtain ⟨e1, e2, e3, e4, e5⟩ := gone v x g h1 h2 hg0 hg1
  have hz' : wt x ≠ 0 := by omega
  clear e4 e5
  go_enter Try.func77, Try.ntmps77
  go_wp2_with fail
  refine (weigh_any x _).mono ?_
  rintro e w1 ⟨rfl, rfl⟩
  go_wp2_with fail
  go_quiet (first | (go_at_call 94; exact Calls.quiet_of_same (holdt_any t _)))
  go_wp2_with fail
  go_region
  go_wp2
  refine bodyPost_ret (v := .agg #[.int .i64 (v + g / wt x), .int .i64 (g % wt x)]) ?_ rfl ⟨rfl, kp_put ((((Kp.refl No w).alloc _).alloc _).drewN _) (by simp)⟩
  rw [results_cell rfl]
  go_simp

theorem refrun_any (v r x t : Int) (w : World) (h : can v r x = true) :
    Calls Try.prog 86 #[.agg #[.int .i64 v, .int .i64 r], .int .i64 x, .int .i64 t] w fun e w' =>
      e = .returned (.agg #[.int .i64 (v + (1048576 * tk t + r) / wt x), .int .i64 ((1048576 * tk t + r) % wt x)]) ∧ Kp No w w' := by
  obtain ⟨h1, h2, h3, h4⟩ := can_iff.1 h
  obtain ⟨hb1, hb2⟩ := wt_bd x
  have ht := tk_bd t
  clear h
  obtain ⟨g, hg⟩ : ∃ g, 1048576 * tk t + r = g := ⟨_, rfl⟩
  rw [hg]
  have hg0 : 0 ≤ g := by omega
  have hg1 : g ≤ 2305843009213693952 := by omega
  obtain ⟨e1, e2, e3, e4, e5⟩ := gone v x g h1 h2 hg0 hg1
  have hz' : wt x ≠ 0 := by omega
  clear e2
  rcases (show t ≤ 0 ∨ 1099511627776 < t ∨ (0 < t ∧ t ≤ 1099511627776) from by omega) with hh | hh | ⟨hh, hh'⟩
  · have e0 : tk t = 0 := by unfold tk; split <;> (try split) <;> omega
    obtain rfl : g = r := by omega
    clear hg e0 ht
    go_enter Try.func86, Try.ntmps86
    go_wp2_with fail
    refine (weight_any x _).mono ?_
    rintro e w1 ⟨rfl, rfl⟩
    go_wp2
    refine bodyPost_ret (v := .agg #[.int .i64 (v + g / wt x), .int .i64 (g % wt x)]) ?_ rfl ⟨rfl, ((Kp.refl No w).alloc _).alloc _⟩
    rw [results_cell rfl]
    go_simp
  · have e0 : tk t = 1099511627776 := by unfold tk; simp [hh]; omega
    rw [e0] at hg
    have hg' : 1152921504606846976 + r = g := by omega
    clear hg e0 ht
    go_enter Try.func86, Try.ntmps86
    go_wp2_with fail
    refine (weight_any x _).mono ?_
    rintro e w1 ⟨rfl, rfl⟩
    go_wp2
    refine bodyPost_ret (v := .agg #[.int .i64 (v + g / wt x), .int .i64 (g % wt x)]) ?_ rfl ⟨rfl, ((Kp.refl No w).alloc _).alloc _⟩
    rw [results_cell rfl]
    go_simp
  · have e0 : tk t = t := by unfold tk; split <;> (try split) <;> omega
    rw [e0] at hg
    clear e0 ht
    go_enter Try.func86, Try.ntmps86
    go_wp2_with fail
    refine (weight_any x _).mono ?_
    rintro e w1 ⟨rfl, rfl⟩
    go_wp2
    refine bodyPost_ret (v := .agg #[.int .i64 (v + g / wt x), .int .i64 (g % wt x)]) ?_ rfl ⟨rfl, ((Kp.refl No w).alloc _).alloc _⟩
    rw [results_cell rfl]
    go_simp
end Go.Proofs.Ytpbnmfoecmhnnaa
