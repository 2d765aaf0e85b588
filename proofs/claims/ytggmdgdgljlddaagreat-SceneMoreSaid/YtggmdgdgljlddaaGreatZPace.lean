/-
  Contracts: hold, weigh, Weight, Right (both).
-/
import Derived.Test.YtggmdgdgljlddaaGreatRows
import Derived.Test.YtggmdgdgljlddaaGreatHeld
import Derived.IntWalk
import Derived.WalkMore
import Derived.Deep.QuietTactic
import Derived.BigQuiet
namespace Go.Proofs.YtggmdgdgljlddaaGreat
open Go.RowKit

/-- A weight, and ticks, as they are held. -/
def pwt (x : Int) : Int := if x < 1 then 1 else if 1048576 < x then 1048576 else x
def ptk (x : Int) : Int := if x < 0 then 0 else if 1099511627776 < x then 1099511627776 else x
theorem pwt_bd (x : Int) : 1 ≤ pwt x ∧ pwt x ≤ 1048576 := by unfold pwt; split <;> (try split) <;> omega
theorem ptk_bd (x : Int) : 0 ≤ ptk x ∧ ptk x ≤ 1099511627776 := by unfold ptk; split <;> (try split) <;> omega

theorem pholdw_any (x : Int) (w : World) : Calls Tryz.prog 56 #[.int .i64 x, .int .i64 1, .int .i64 1048576] w fun e w' => e = .returned (.int .i64 (pwt x)) ∧ w' = w := by
  rcases (show x < 1 ∨ 1048576 < x ∨ (1 ≤ x ∧ x ≤ 1048576) from by omega) with h | h | h
  · have hh : pwt x = 1 := by unfold pwt; simp [h]
    have H := hid hh; clear hh
    go_enter Tryz.func56, Tryz.ntmps56
    go_wp2
    all_goals go_ret
    all_goals (rw [H.out]; exact ⟨by first | rfl | go_num, rfl⟩)
  · have hh : pwt x = 1048576 := by unfold pwt; simp [h]; omega
    have H := hid hh; clear hh
    go_enter Tryz.func56, Tryz.ntmps56
    go_wp2
    all_goals go_ret
    all_goals (rw [H.out]; exact ⟨by first | rfl | go_num, rfl⟩)
  · have hh : pwt x = x := by unfold pwt; split <;> (try split) <;> omega
    have H := hid hh; clear hh
    go_enter Tryz.func56, Tryz.ntmps56
    go_wp2
    all_goals go_ret
    all_goals (rw [H.out]; exact ⟨by first | rfl | go_num, rfl⟩)

theorem pholdt_any (x : Int) (w : World) : Calls Tryz.prog 56 #[.int .i64 x, .int .i64 0, .int .i64 1099511627776] w fun e w' => e = .returned (.int .i64 (ptk x)) ∧ w' = w := by
  rcases (show x < 0 ∨ 1099511627776 < x ∨ (0 ≤ x ∧ x ≤ 1099511627776) from by omega) with h | h | h
  · have hh : ptk x = 0 := by unfold ptk; simp [h]
    have H := hid hh; clear hh
    go_enter Tryz.func56, Tryz.ntmps56
    go_wp2
    all_goals go_ret
    all_goals (rw [H.out]; exact ⟨by first | rfl | go_num, rfl⟩)
  · have hh : ptk x = 1099511627776 := by unfold ptk; simp [h]; omega
    have H := hid hh; clear hh
    go_enter Tryz.func56, Tryz.ntmps56
    go_wp2
    all_goals go_ret
    all_goals (rw [H.out]; exact ⟨by first | rfl | go_num, rfl⟩)
  · have hh : ptk x = x := by unfold ptk; split <;> (try split) <;> omega
    have H := hid hh; clear hh
    go_enter Tryz.func56, Tryz.ntmps56
    go_wp2
    all_goals go_ret
    all_goals (rw [H.out]; exact ⟨by first | rfl | go_num, rfl⟩)

theorem pweigh_any (x : Int) (w : World) : Calls Tryz.prog 43 #[.int .i64 x] w fun e w' => e = .returned (.int .i64 (pwt x)) ∧ w' = w := by
  go_enter Tryz.func43, Tryz.ntmps43
  go_wp2_with fail
  refine (pholdw_any x _).mono ?_
  rintro e w' ⟨rfl, rfl⟩
  go_wp2_with fail
  go_ret
  exact ⟨by first | rfl | (simp only [*]; rfl), rfl⟩

/-- A pace that pcan be. -/
def pcan (v r x : Int) : Bool := decide (0 ≤ v) && decide (v ≤ 2305843009213693952) && decide (0 ≤ r) && decide (r < pwt x)
theorem pcan_iff {v r x : Int} : pcan v r x = true ↔ 0 ≤ v ∧ v ≤ 2305843009213693952 ∧ 0 ≤ r ∧ r < pwt x := by simp [pcan, and_assoc]
/-- A pace, as a value. -/
def ppc (v r : Int) : Value := .agg #[.int .i64 v, .int .i64 r]

theorem pright_any (v r x : Int) (w : World) : Calls Tryz.prog 28 #[.agg #[.int .i64 v, .int .i64 r], .int .i64 x] w fun e w' => e = .returned (.bool (pcan v r x)) ∧ Kp No w w' := by
  have hc : pcan v r x = (decide (0 ≤ v) && decide (v ≤ 2305843009213693952) && decide (0 ≤ r) && decide (r < pwt x)) := rfl
  by_cases h1 : 0 ≤ v
  · by_cases h2 : v ≤ 2305843009213693952
    · by_cases h3 : 0 ≤ r
      · by_cases h4 : r < pwt x
        · have H := hid (show pcan v r x = true by rw [hc]; simp [h1, h2, h3, h4])
          clear hc
          go_enter Tryz.func28, Tryz.ntmps28
          go_wp2_with fail
          go_quiet (first | (go_at_call 43; exact Calls.quiet_of_same (pweigh_any x _)))
          go_wp2
          go_ret
          rw [H.out]
          exact ⟨by first | rfl | (simp only [*]; rfl), ((Kp.refl No w).alloc _).drewN _⟩
        · have H := hid (show pcan v r x = false by rw [hc]; simp [h1, h2, h3, h4])
          have hd := decide_eq_false h4
          clear hc
          go_enter Tryz.func28, Tryz.ntmps28
          go_wp2_with fail
          go_quiet (first | (go_at_call 43; exact Calls.quiet_of_same (pweigh_any x _)))
          go_wp2
          go_ret
          rw [H.out]
          exact ⟨by first | rfl | (simp only [*]; rfl), ((Kp.refl No w).alloc _).drewN _⟩
      · have H := hid (show pcan v r x = false by rw [hc]; simp [h1, h2, h3])
        have hd := decide_eq_false h3
        clear hc
        go_enter Tryz.func28, Tryz.ntmps28
        go_wp2_with fail
        go_quiet (first | (go_at_call 43; exact Calls.quiet_of_same (pweigh_any x _)))
        go_wp2
        go_ret
        rw [H.out]
        exact ⟨by first | rfl | (simp only [*]; rfl), ((Kp.refl No w).alloc _).drewN _⟩
    · have H := hid (show pcan v r x = false by rw [hc]; simp [h1, h2])
      have hd := decide_eq_false h2
      clear hc
      go_enter Tryz.func28, Tryz.ntmps28
      go_wp2_with fail
      go_quiet (first | (go_at_call 43; exact Calls.quiet_of_same (pweigh_any x _)))
      go_wp2
      go_ret
      rw [H.out]
      exact ⟨by first | rfl | (simp only [*]; rfl), ((Kp.refl No w).alloc _).drewN _⟩
  · have H := hid (show pcan v r x = false by rw [hc]; simp [h1])
    have hd := decide_eq_false h1
    clear hc
    go_enter Tryz.func28, Tryz.ntmps28
    go_wp2_with fail
    go_quiet (first | (go_at_call 43; exact Calls.quiet_of_same (pweigh_any x _)))
    go_wp2
    go_ret
    rw [H.out]
    exact ⟨by first | rfl | (simp only [*]; rfl), ((Kp.refl No w).alloc _).drewN _⟩

end Go.Proofs.YtggmdgdgljlddaaGreat
