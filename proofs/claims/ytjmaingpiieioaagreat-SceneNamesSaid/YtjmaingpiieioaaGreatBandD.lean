/-
  Contracts: the document's Right; Left (both), Shut.
-/
import Derived.Test.YtjmaingpiieioaaGreatBandC
namespace Go.Proofs.YtjmaingpiieioaaGreat
open Go.RowKit

theorem refright_any (p q u : Int) (w : World) : Calls Tryz.prog 46 #[.agg #[.int .i64 p, .int .i64 q, .int .i64 u]] w fun e w' => e = .returned (.bool (decide (Rb p q u))) ∧ Kp No w w' := by
  by_cases h0 : p < 0
  · have H := hid (show decide (Rb p q u) = false from decide_eq_false (by unfold Rb; omega))
    go_enter Tryz.func46, Tryz.ntmps46
    go_wp2
    go_ret
    rw [H.out]
    exact ⟨by first | rfl | go_num, (Kp.refl No w).alloc _⟩
  have n0 := decide_eq_false h0
  by_cases h1 : 1048576 < p
  · have H := hid (show decide (Rb p q u) = false from decide_eq_false (by unfold Rb; omega))
    go_enter Tryz.func46, Tryz.ntmps46
    go_wp2
    go_ret
    rw [H.out]
    exact ⟨by first | rfl | go_num, (Kp.refl No w).alloc _⟩
  have n1 := decide_eq_false h1
  by_cases h2 : q < 0
  · have H := hid (show decide (Rb p q u) = false from decide_eq_false (by unfold Rb; omega))
    go_enter Tryz.func46, Tryz.ntmps46
    go_wp2
    go_ret
    rw [H.out]
    exact ⟨by first | rfl | go_num, (Kp.refl No w).alloc _⟩
  have n2 := decide_eq_false h2
  by_cases h3 : 1048576 < q
  · have H := hid (show decide (Rb p q u) = false from decide_eq_false (by unfold Rb; omega))
    go_enter Tryz.func46, Tryz.ntmps46
    go_wp2
    go_ret
    rw [H.out]
    exact ⟨by first | rfl | go_num, (Kp.refl No w).alloc _⟩
  have n3 := decide_eq_false h3
  by_cases h4 : u < 0
  · have H := hid (show decide (Rb p q u) = false from decide_eq_false (by unfold Rb; omega))
    go_enter Tryz.func46, Tryz.ntmps46
    go_wp2
    go_ret
    rw [H.out]
    exact ⟨by first | rfl | go_num, (Kp.refl No w).alloc _⟩
  have n4 := decide_eq_false h4
  by_cases h5 : 1099511627776 < u
  · have H := hid (show decide (Rb p q u) = false from decide_eq_false (by unfold Rb; omega))
    go_enter Tryz.func46, Tryz.ntmps46
    go_wp2
    go_ret
    rw [H.out]
    exact ⟨by first | rfl | go_num, (Kp.refl No w).alloc _⟩
  have n5 := decide_eq_false h5
  rcases (show p = 0 ∨ 0 < p from by omega) with rfl | hp <;> rcases (show q = 0 ∨ 0 < q from by omega) with rfl | hq <;> rcases (show u = 0 ∨ 0 < u from by omega) with rfl | hu
  · have H := hid (show decide (Rb 0 0 0) = true from decide_eq_true (by unfold Rb; omega))
    go_enter Tryz.func46, Tryz.ntmps46
    go_wp2
    go_ret
    rw [H.out]
    exact ⟨by first | rfl | go_num, (Kp.refl No w).alloc _⟩
  · have H := hid (show decide (Rb 0 0 u) = false from decide_eq_false (by unfold Rb; omega))
    have z2 : (u == 0) = false := by simp; omega
    go_enter Tryz.func46, Tryz.ntmps46
    go_wp2
    go_ret
    rw [H.out]
    exact ⟨by first | rfl | go_num, (Kp.refl No w).alloc _⟩
  · have H := hid (show decide (Rb 0 q 0) = false from decide_eq_false (by unfold Rb; omega))
    have z1 : (q == 0) = false := by simp; omega
    go_enter Tryz.func46, Tryz.ntmps46
    go_wp2
    go_ret
    rw [H.out]
    exact ⟨by first | rfl | go_num, (Kp.refl No w).alloc _⟩
  · have H := hid (show decide (Rb 0 q u) = false from decide_eq_false (by unfold Rb; omega))
    have z1 : (q == 0) = false := by simp; omega
    have z2 : (u == 0) = false := by simp; omega
    go_enter Tryz.func46, Tryz.ntmps46
    go_wp2
    go_ret
    rw [H.out]
    exact ⟨by first | rfl | go_num, (Kp.refl No w).alloc _⟩
  · have H := hid (show decide (Rb p 0 0) = true from decide_eq_true (by unfold Rb; omega))
    go_enter Tryz.func46, Tryz.ntmps46
    go_wp2
    go_ret
    rw [H.out]
    exact ⟨by first | rfl | go_num, (Kp.refl No w).alloc _⟩
  · have H := hid (show decide (Rb p 0 u) = false from decide_eq_false (by unfold Rb; omega))
    have z2 : (u == 0) = false := by simp; omega
    go_enter Tryz.func46, Tryz.ntmps46
    go_wp2
    go_ret
    rw [H.out]
    exact ⟨by first | rfl | go_num, (Kp.refl No w).alloc _⟩
  · have H := hid (show decide (Rb p q 0) = true from decide_eq_true (by unfold Rb; omega))
    have z1 : (q == 0) = false := by simp; omega
    go_enter Tryz.func46, Tryz.ntmps46
    go_wp2
    go_ret
    rw [H.out]
    exact ⟨by first | rfl | go_num, (Kp.refl No w).alloc _⟩
  · have H := hid (show decide (Rb p q u) = true from decide_eq_true (by unfold Rb; omega))
    have z1 : (q == 0) = false := by simp; omega
    have z2 : (u == 0) = false := by simp; omega
    go_enter Tryz.func46, Tryz.ntmps46
    go_wp2
    go_ret
    rw [H.out]
    exact ⟨by first | rfl | go_num, (Kp.refl No w).alloc _⟩

/-- What is left. -/
def lf (q u : Int) : Int := if q = 0 then -1 else if q < u then 0 else q - u

end Go.Proofs.YtjmaingpiieioaaGreat
