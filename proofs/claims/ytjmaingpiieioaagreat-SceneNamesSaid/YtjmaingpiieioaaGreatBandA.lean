/-
  Contracts: band's hold, holdTicks, limited, fit, Right, Shut, Left, Charge, Ends, Pass; the document's Held, Right, Left, Charge, Ends, Pass.
-/
import Derived.Test.YtjmaingpiieioaaGreatRows
import Derived.Test.YtjmaingpiieioaaGreatHeld
import Derived.Laws.StructEq
namespace Go.Proofs.YtjmaingpiieioaaGreat
open Go.RowKit

/-- A number as it is held; a time. -/
def cl (x a b : Int) : Int := if x < a then a else if b < x then b else x
def tk (x : Int) : Int := if x < 0 then 0 else if 1099511627776 < x then 1099511627776 else x
theorem tk_bd (x : Int) : 0 ≤ tk x ∧ tk x ≤ 1099511627776 := by unfold tk; split <;> (try split) <;> omega
theorem tk_cl (x : Int) : cl x 0 1099511627776 = tk x := rfl
theorem tk_in {x : Int} (h0 : 0 ≤ x) (h1 : x ≤ 1099511627776) : tk x = x := by unfold tk; split <;> (try split) <;> omega

theorem hold0_any (x : Int) (w : World) : Calls Tryz.prog 80 #[.int .i64 x, .int .i64 0, .int .i64 1048576] w fun e w' => e = .returned (.int .i64 (cl x 0 1048576)) ∧ w' = w := by
  rcases (show x < 0 ∨ 1048576 < x ∨ (0 ≤ x ∧ x ≤ 1048576) from by omega) with h | h | h
  · have hh : cl x 0 1048576 = 0 := by unfold cl; split <;> (try split) <;> omega
    have H := hid hh; clear hh
    go_enter Tryz.func80, Tryz.ntmps80
    go_wp2
    all_goals go_ret
    all_goals (rw [H.out]; exact ⟨by first | rfl | go_num, rfl⟩)
  · have hh : cl x 0 1048576 = 1048576 := by unfold cl; split <;> (try split) <;> omega
    have H := hid hh; clear hh
    go_enter Tryz.func80, Tryz.ntmps80
    go_wp2
    all_goals go_ret
    all_goals (rw [H.out]; exact ⟨by first | rfl | go_num, rfl⟩)
  · have hh : cl x 0 1048576 = x := by unfold cl; split <;> (try split) <;> omega
    have H := hid hh; clear hh
    go_enter Tryz.func80, Tryz.ntmps80
    go_wp2
    all_goals go_ret
    all_goals (rw [H.out]; exact ⟨by first | rfl | go_num, rfl⟩)

theorem hold1_any (x : Int) (w : World) : Calls Tryz.prog 80 #[.int .i64 x, .int .i64 1, .int .i64 1048576] w fun e w' => e = .returned (.int .i64 (cl x 1 1048576)) ∧ w' = w := by
  rcases (show x < 1 ∨ 1048576 < x ∨ (1 ≤ x ∧ x ≤ 1048576) from by omega) with h | h | h
  · have hh : cl x 1 1048576 = 1 := by unfold cl; split <;> (try split) <;> omega
    have H := hid hh; clear hh
    go_enter Tryz.func80, Tryz.ntmps80
    go_wp2
    all_goals go_ret
    all_goals (rw [H.out]; exact ⟨by first | rfl | go_num, rfl⟩)
  · have hh : cl x 1 1048576 = 1048576 := by unfold cl; split <;> (try split) <;> omega
    have H := hid hh; clear hh
    go_enter Tryz.func80, Tryz.ntmps80
    go_wp2
    all_goals go_ret
    all_goals (rw [H.out]; exact ⟨by first | rfl | go_num, rfl⟩)
  · have hh : cl x 1 1048576 = x := by unfold cl; split <;> (try split) <;> omega
    have H := hid hh; clear hh
    go_enter Tryz.func80, Tryz.ntmps80
    go_wp2
    all_goals go_ret
    all_goals (rw [H.out]; exact ⟨by first | rfl | go_num, rfl⟩)

theorem holdt_any (x : Int) (w : World) : Calls Tryz.prog 80 #[.int .i64 x, .int .i64 0, .int .i64 1099511627776] w fun e w' => e = .returned (.int .i64 (cl x 0 1099511627776)) ∧ w' = w := by
  rcases (show x < 0 ∨ 1099511627776 < x ∨ (0 ≤ x ∧ x ≤ 1099511627776) from by omega) with h | h | h
  · have hh : cl x 0 1099511627776 = 0 := by unfold cl; split <;> (try split) <;> omega
    have H := hid hh; clear hh
    go_enter Tryz.func80, Tryz.ntmps80
    go_wp2
    all_goals go_ret
    all_goals (rw [H.out]; exact ⟨by first | rfl | go_num, rfl⟩)
  · have hh : cl x 0 1099511627776 = 1099511627776 := by unfold cl; split <;> (try split) <;> omega
    have H := hid hh; clear hh
    go_enter Tryz.func80, Tryz.ntmps80
    go_wp2
    all_goals go_ret
    all_goals (rw [H.out]; exact ⟨by first | rfl | go_num, rfl⟩)
  · have hh : cl x 0 1099511627776 = x := by unfold cl; split <;> (try split) <;> omega
    have H := hid hh; clear hh
    go_enter Tryz.func80, Tryz.ntmps80
    go_wp2
    all_goals go_ret
    all_goals (rw [H.out]; exact ⟨by first | rfl | go_num, rfl⟩)

theorem ticks_any (x : Int) (w : World) : Calls Tryz.prog 82 #[.int .i64 x] w fun e w' => e = .returned (.int .i64 (tk x)) ∧ w' = w := by
  go_enter Tryz.func82, Tryz.ntmps82
  go_wp2_with fail
  refine (holdt_any x _).mono ?_
  rintro e w' ⟨rfl, rfl⟩
  go_wp2_with fail
  go_ret
  exact ⟨by first | rfl | (simp only [*]; rfl), rfl⟩

/-- A band, as a value. -/
abbrev bd (p q u : Int) : Value := .agg #[.int .i64 p, .int .i64 q, .int .i64 u]
theorem Blk.three {w : World} {g : Nat} {t : TypeId} {a b c : Value} (h : Blk w g t #[a, b, c]) : w.cell? ⟨g, 0, none⟩ = some a ∧ w.cell? ⟨g, 1, none⟩ = some b ∧ w.cell? ⟨g, 2, none⟩ = some c ∧ g < w.heap.size := ⟨h.cell 0, h.cell 1, h.cell 2, h.lt⟩
section
variable {a w w' : World} {g : Nat} {t : TypeId} {x y z : Value}
theorem At.all3 (h : At a g t #[x, y, z] w) : w.cell? ⟨g, 0, none⟩ = some x ∧ w.cell? ⟨g, 1, none⟩ = some y ∧ w.cell? ⟨g, 2, none⟩ = some z ∧ At a g t #[x, y, z] w := ⟨h.2.cell 0, h.2.cell 1, h.2.cell 2, h⟩
theorem At.step3 (k : Kp No w w') (h : w.cell? ⟨g, 0, none⟩ = some x ∧ w.cell? ⟨g, 1, none⟩ = some y ∧ w.cell? ⟨g, 2, none⟩ = some z ∧ At a g t #[x, y, z] w) : w'.cell? ⟨g, 0, none⟩ = some x ∧ w'.cell? ⟨g, 1, none⟩ = some y ∧ w'.cell? ⟨g, 2, none⟩ = some z ∧ At a g t #[x, y, z] w' := (h.2.2.2.kp k).all3
end

theorem limited_any (p q u : Int) (w : World) : Calls Tryz.prog 81 #[.agg #[.int .i64 p, .int .i64 q, .int .i64 u]] w fun e w' => e = .returned (.bool (!(q == 0))) ∧ Kp No w w' := by
  go_enter Tryz.func81, Tryz.ntmps81
  go_wp2
  go_ret
  exact ⟨by first | rfl | simp, (Kp.refl No w).alloc _⟩
end Go.Proofs.YtjmaingpiieioaaGreat
