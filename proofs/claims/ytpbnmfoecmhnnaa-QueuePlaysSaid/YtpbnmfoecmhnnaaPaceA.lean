/-
  Contracts: hold, weigh, Weight, Right (both).
-/
import Derived.Test.YtpbnmfoecmhnnaaRows
import Derived.Test.YtpbnmfoecmhnnaaHeld
import Derived.IntWalk
import Derived.WalkMore
import Derived.Deep.QuietTactic
import Derived.BigQuiet
namespace Go.Proofs.Ytpbnmfoecmhnnaa
open Go.RowKit

/-- A weight, and ticks, as they are held. -/
def wt (x : Int) : Int := if x < 1 then 1 else if 1048576 < x then 1048576 else x
def tk (x : Int) : Int := if x < 0 then 0 else if 1099511627776 < x then 1099511627776 else x
theorem wt_bd (x : Int) : 1 ≤ wt x ∧ wt x ≤ 1048576 := by unfold wt; split <;> (try split) <;> omega
theorem tk_bd (x : Int) : 0 ≤ tk x ∧ tk x ≤ 1099511627776 := by unfold tk; split <;> (try split) <;> omega

theorem holdw_any (x : Int) (w : World) : Calls Try.prog 94 #[.int .i64 x, .int .i64 1, .int .i64 1048576] w fun e w' => e = .returned (.int .i64 (wt x)) ∧ w' = w := by
  rcases (show x < 1 ∨ 1048576 < x ∨ (1 ≤ x ∧ x ≤ 1048576) from by omega) with h | h | h
  · have hh : wt x = 1 := by unfold wt; simp [h]
    have H := hid hh; clear hh
    go_enter Try.func94, Try.ntmps94
    go_wp2
    all_goals go_ret
    all_goals (rw [H.out]; exact ⟨by first | rfl | go_num, rfl⟩)
  · have hh : wt x = 1048576 := by unfold wt; simp [h]; omega
    have H := hid hh; clear hh
    go_enter Try.func94, Try.ntmps94
    go_wp2
    all_goals go_ret
    all_goals (rw [H.out]; exact ⟨by first | rfl | go_num, rfl⟩)
  · have hh : wt x = x := by unfold wt; split <;> (try split) <;> omega
    have H := hid hh; clear hh
    go_enter Try.func94, Try.ntmps94
    go_wp2
    all_goals go_ret
    all_goals (rw [H.out]; exact ⟨by first | rfl | go_num, rfl⟩)

theorem holdt_any (x : Int) (w : World) : Calls Try.prog 94 #[.int .i64 x, .int .i64 0, .int .i64 1099511627776] w fun e w' => e = .returned (.int .i64 (tk x)) ∧ w' = w := by
  rcases (show x < 0 ∨ 1099511627776 < x ∨ (0 ≤ x ∧ x ≤ 1099511627776) from by omega) with h | h | h
  · have hh : tk x = 0 := by unfold tk; simp [h]
    have H := hid hh; clear hh
    go_enter Try.func94, Try.ntmps94
    go_wp2
    all_goals go_ret
    all_goals (rw [H.out]; exact ⟨by first | rfl | go_num, rfl⟩)
  · have hh : tk x = 1099511627776 := by unfold tk; simp [h]; omega
    have H := hid hh; clear hh
    go_enter Try.func94, Try.ntmps94
    go_wp2
    all_goals go_ret
    all_goals (rw [H.out]; exact ⟨by first | rfl | go_num, rfl⟩)
  · have hh : tk x = x := by unfold tk; split <;> (try split) <;> omega
    have H := hid hh; clear hh
    go_enter Try.func94, Try.ntmps94
    go_wp2
    all_goals go_ret
    all_goals (rw [H.out]; exact ⟨by first | rfl | go_num, rfl⟩)

theorem weigh_any (x : Int) (w : World) : Calls Try.prog 93 #[.int .i64 x] w fun e w' => e = .returned (.int .i64 (wt x)) ∧ w' = w := by
  go_enter Try.func93, Try.ntmps93
  go_wp2_with fail
  refine (holdw_any x _).mono ?_
  rintro e w' ⟨rfl, rfl⟩
  go_wp2_with fail
  go_ret
  exact ⟨by first | rfl | (simp only [*]; rfl), rfl⟩

theorem weight_any (x : Int) (w : World) : Calls Try.prog 98 #[.int .i64 x] w fun e w' => e = .returned (.int .i64 (wt x)) ∧ w' = w := by
  rcases (show x < 1 ∨ 1048576 < x ∨ (1 ≤ x ∧ x ≤ 1048576) from by omega) with h | h | h
  · have hh : wt x = 1 := by unfold wt; simp [h]
    have H := hid hh; clear hh
    go_enter Try.func98, Try.ntmps98
    go_wp2
    all_goals go_ret
    all_goals (rw [H.out]; exact ⟨by first | rfl | go_num, rfl⟩)
  · have hh : wt x = 1048576 := by unfold wt; simp [h]; omega
    have H := hid hh; clear hh
    go_enter Try.func98, Try.ntmps98
    go_wp2
    all_goals go_ret
    all_goals (rw [H.out]; exact ⟨by first | rfl | go_num, rfl⟩)
  · have hh : wt x = x := by unfold wt; split <;> (try split) <;> omega
    have H := hid hh; clear hh
    go_enter Try.func98, Try.ntmps98
    go_wp2
    all_goals go_ret
    all_goals (rw [H.out]; exact ⟨by first | rfl | go_num, rfl⟩)

/-- A pace that can be. -/
def can (v r x : Int) : Bool := decide (0 ≤ v) && decide (v ≤ 2305843009213693952) && decide (0 ≤ r) && decide (r < wt x)
theorem can_iff {v r x : Int} : can v r x = true ↔ 0 ≤ v ∧ v ≤ 2305843009213693952 ∧ 0 ≤ r ∧ r < wt x := by simp [can, and_assoc]
/-- A pace, as a value. -/
def pc (v r : Int) : Value := .agg #[.int .i64 v, .int .i64 r]

theorem right_any (v r x : Int) (w : World) : Calls Try.prog 92 #[.agg #[.int .i64 v, .int .i64 r], .int .i64 x] w fun e w' => e = .returned (.bool (can v r x)) ∧ Kp No w w' := by
  have hc : can v r x = (decide (0 ≤ v) && decide (v ≤ 2305843009213693952) && decide (0 ≤ r) && decide (r < wt x)) := rfl
  by_cases h1 : 0 ≤ v
  · by_cases h2 : v ≤ 2305843009213693952
    · by_cases h3 : 0 ≤ r
      · by_cases h4 : r < wt x
        · have H := hid (show can v r x = true by rw [hc]; simp [h1, h2, h3, h4])
          clear hc
          go_enter Try.func92, Try.ntmps92
          go_wp2_with fail
          go_quiet (first | (go_at_call 93; exact Calls.quiet_of_same (weigh_any x _)))
          go_wp2
          go_ret
          rw [H.out]
          exact ⟨by first | rfl | (simp only [*]; rfl), ((Kp.refl No w).alloc _).drewN _⟩
        · have H := hid (show can v r x = false by rw [hc]; simp [h1, h2, h3, h4])
          have hd := decide_eq_false h4
          clear hc
          go_enter Try.func92, Try.ntmps92
          go_wp2_with fail
          go_quiet (first | (go_at_call 93; exact Calls.quiet_of_same (weigh_any x _)))
          go_wp2
          go_ret
          rw [H.out]
          exact ⟨by first | rfl | (simp only [*]; rfl), ((Kp.refl No w).alloc _).drewN _⟩
      · have H := hid (show can v r x = false by rw [hc]; simp [h1, h2, h3])
        have hd := decide_eq_false h3
        clear hc
        go_enter Try.func92, Try.ntmps92
        go_wp2_with fail
        go_quiet (first | (go_at_call 93; exact Calls.quiet_of_same (weigh_any x _)))
        go_wp2
        go_ret
        rw [H.out]
        exact ⟨by first | rfl | (simp only [*]; rfl), ((Kp.refl No w).alloc _).drewN _⟩
    · have H := hid (show can v r x = false by rw [hc]; simp [h1, h2])
      have hd := decide_eq_false h2
      clear hc
      go_enter Try.func92, Try.ntmps92
      go_wp2_with fail
      go_quiet (first | (go_at_call 93; exact Calls.quiet_of_same (weigh_any x _)))
      go_wp2
      go_ret
      rw [H.out]
      exact ⟨by first | rfl | (simp only [*]; rfl), ((Kp.refl No w).alloc _).drewN _⟩
  · have H := hid (show can v r x = false by rw [hc]; simp [h1])
    have hd := decide_eq_false h1
    clear hc
    go_enter Try.func92, Try.ntmps92
    go_wp2_with fail
    go_quiet (first | (go_at_call 93; exact Calls.quiet_of_same (weigh_any x _)))
    go_wp2
    go_ret
    rw [H.out]
    exact ⟨by first | rfl | (simp only [*]; rfl), ((Kp.refl No w).alloc _).drewN _⟩

theorem refright_any (v r x : Int) (w : World) : Calls Try.prog 85 #[.agg #[.int .i64 v, .int .i64 r], .int .i64 x] w fun e w' => e = .returned (.bool (can v r x)) ∧ Kp No w w' := by
  have hc : can v r x = (decide (0 ≤ v) && decide (v ≤ 2305843009213693952) && decide (0 ≤ r) && decide (r < wt x)) := rfl
  by_cases h1 : 0 ≤ v
  · by_cases h2 : v ≤ 2305843009213693952
    · by_cases h3 : 0 ≤ r
      · by_cases h4 : r < wt x
        · have H := hid (show can v r x = true by rw [hc]; simp [h1, h2, h3, h4])
          clear hc
          go_enter Try.func85, Try.ntmps85
          go_wp2_with fail
          refine (weight_any x _).mono ?_
          rintro e w1 ⟨rfl, rfl⟩
          go_wp2_with fail
          go_ret
          rw [H.out]
          exact ⟨by first | rfl | (simp only [*]; rfl), ((Kp.refl No w).alloc _)⟩
        · have H := hid (show can v r x = false by rw [hc]; simp [h1, h2, h3, h4])
          have hd := decide_eq_false h4
          clear hc
          go_enter Try.func85, Try.ntmps85
          go_wp2_with fail
          refine (weight_any x _).mono ?_
          rintro e w1 ⟨rfl, rfl⟩
          go_wp2_with fail
          go_ret
          rw [H.out]
          exact ⟨by first | rfl | (simp only [*]; rfl), ((Kp.refl No w).alloc _)⟩
      · have H := hid (show can v r x = false by rw [hc]; simp [h1, h2, h3])
        have hd := decide_eq_false h3
        clear hc
        go_enter Try.func85, Try.ntmps85
        go_wp2_with fail
        refine (weight_any x _).mono ?_
        rintro e w1 ⟨rfl, rfl⟩
        go_wp2_with fail
        go_ret
        rw [H.out]
        exact ⟨by first | rfl | (simp only [*]; rfl), ((Kp.refl No w).alloc _)⟩
    · have H := hid (show can v r x = false by rw [hc]; simp [h1, h2])
      have hd := decide_eq_false h2
      clear hc
      go_enter Try.func85, Try.ntmps85
      go_wp2_with fail
      refine (weight_any x _).mono ?_
      rintro e w1 ⟨rfl, rfl⟩
      go_wp2_with fail
      go_ret
      rw [H.out]
      exact ⟨by first | rfl | (simp only [*]; rfl), ((Kp.refl No w).alloc _)⟩
  · have H := hid (show can v r x = false by rw [hc]; simp [h1])
    have hd := decide_eq_false h1
    clear hc
    go_enter Try.func85, Try.ntmps85
    go_wp2_with fail
    refine (weight_any x _).mono ?_
    rintro e w1 ⟨rfl, rfl⟩
    go_wp2_with fail
    go_ret
    rw [H.out]
    exact ⟨by first | rfl | (simp only [*]; rfl), ((Kp.refl No w).alloc _)⟩

end Go.Proofs.Ytpbnmfoecmhnnaa
