/-
  Contracts: the document's Right; Left (both), Shut.
-/
import Derived.Test.YtnlehhmogdencaaBandC
namespace Go.Proofs.Ytnlehhmogdencaa
open Go.RowKit

theorem refright_any (p q u : Int) (w : World) : Calls Try.prog 11 #[.agg #[.int .i64 p, .int .i64 q, .int .i64 u]] w fun e w' => e = .returned (.bool (decide (Rb p q u))) ∧ Kp No w w' := by
  by_cases h0 : p < 0
  · have H := hid (show decide (Rb p q u) = false from decide_eq_false (by unfold Rb; omega))
    go_enter Try.func11, Try.ntmps11
    go_wp2
    go_ret
    rw [H.out]
    exact ⟨by first | rfl | go_num, (Kp.refl No w).alloc _⟩
  have n0 := decide_eq_false h0
  by_cases h1 : 1048576 < p
  · have H := hid (show decide (Rb p q u) = false from decide_eq_false (by unfold Rb; omega))
    go_enter Try.func11, Try.ntmps11
    go_wp2
    go_ret
    rw [H.out]
    exact ⟨by first | rfl | go_num, (Kp.refl No w).alloc _⟩
  have n1 := decide_eq_false h1
  by_cases h2 : q < 0
  · have H := hid (show decide (Rb p q u) = false from decide_eq_false (by unfold Rb; omega))
    go_enter Try.func11, Try.ntmps11
    go_wp2
    go_ret
    rw [H.out]
    exact ⟨by first | rfl | go_num, (Kp.refl No w).alloc _⟩
  have n2 := decide_eq_false h2
  by_cases h3 : 1048576 < q
  · have H := hid (show decide (Rb p q u) = false from decide_eq_false (by unfold Rb; omega))
    go_enter Try.func11, Try.ntmps11
    go_wp2
    go_ret
    rw [H.out]
    exact ⟨by first | rfl | go_num, (Kp.refl No w).alloc _⟩
  have n3 := decide_eq_false h3
  by_cases h4 : u < 0
  · have H := hid (show decide (Rb p q u) = false from decide_eq_false (by unfold Rb; omega))
    go_enter Try.func11, Try.ntmps11
    go_wp2
    go_ret
    rw [H.out]
    exact ⟨by first | rfl | go_num, (Kp.refl No w).alloc _⟩
  have n4 := decide_eq_false h4
  by_cases h5 : 1099511627776 < u
  · have H := hid (show decide (Rb p q u) = false from decide_eq_false (by unfold Rb; omega))
    go_enter Try.func11, Try.ntmps11
    go_wp2
    go_ret
    rw [H.out]
    exact ⟨by first | rfl | go_num, (Kp.refl No w).alloc _⟩
  have n5 := decide_eq_false h5
  rcases (show p = 0 ∨ 0 < p from by omega) with rfl | hp <;> rcases (show q = 0 ∨ 0 < q from by omega) with rfl | hq <;> rcases (show u = 0 ∨ 0 < u from by omega) with rfl | hu
  · have H := hid (show decide (Rb 0 0 0) = true from decide_eq_true (by unfold Rb; omega))
    go_enter Try.func11, Try.ntmps11
    go_wp2
    go_ret
    rw [H.out]
    exact ⟨by first | rfl | go_num, (Kp.refl No w).alloc _⟩
  · have H := hid (show decide (Rb 0 0 u) = false from decide_eq_false (by unfold Rb; omega))
    have z2 : (u == 0) = false := by simp; omega
    go_enter Try.func11, Try.ntmps11
    go_wp2
    go_ret
    rw [H.out]
    exact ⟨by first | rfl | go_num, (Kp.refl No w).alloc _⟩
  · have H := hid (show decide (Rb 0 q 0) = false from decide_eq_false (by unfold Rb; omega))
    have z1 : (q == 0) = false := by simp; omega
    go_enter Try.func11, Try.ntmps11
    go_wp2
    go_ret
    rw [H.out]
    exact ⟨by first | rfl | go_num, (Kp.refl No w).alloc _⟩
  · have H := hid (show decide (Rb 0 q u) = false from decide_eq_false (by unfold Rb; omega))
    have z1 : (q == 0) = false := by simp; omega
    have z2 : (u == 0) = false := by simp; omega
    go_enter Try.func11, Try.ntmps11
    go_wp2
    go_ret
    rw [H.out]
    exact ⟨by first | rfl | go_num, (Kp.refl No w).alloc _⟩
  · have H := hid (show decide (Rb p 0 0) = true from decide_eq_true (by unfold Rb; omega))
    go_enter Try.func11, Try.ntmps11
    go_wp2
    go_ret
    rw [H.out]
    exact ⟨by first | rfl | go_num, (Kp.refl No w).alloc _⟩
  · have H := hid (show decide (Rb p 0 u) = false from decide_eq_false (by unfold Rb; omega))
    have z2 : (u == 0) = false := by simp; omega
    go_enter Try.func11, Try.ntmps11
    go_wp2
    go_ret
    rw [H.out]
    exact ⟨by first | rfl | go_num, (Kp.refl No w).alloc _⟩
  · have H := hid (show decide (Rb p q 0) = true from decide_eq_true (by unfold Rb; omega))
    have z1 : (q == 0) = false := by simp; omega
    go_enter Try.func11, Try.ntmps11
    go_wp2
    go_ret
    rw [H.out]
    exact ⟨by first | rfl | go_num, (Kp.refl No w).alloc _⟩
  · have H := hid (show decide (Rb p q u) = true from decide_eq_true (by unfold Rb; omega))
    have z1 : (q == 0) = false := by simp; omega
    have z2 : (u == 0) = false := by simp; omega
    go_enter Try.func11, Try.ntmps11
    go_wp2
    go_ret
    rw [H.out]
    exact ⟨by first | rfl | go_num, (Kp.refl No w).alloc _⟩

/-- What is left. -/
def lf (q u : Int) : Int := if q = 0 then -1 else if q < u then 0 else q - u

theorem left_any (p q u : Int) (w : World) (h0 : 0 ≤ q) (h1 : q ≤ 1048576) (h2 : 0 ≤ u) (h3 : u ≤ 1099511627776) : Calls Try.prog 14 #[.agg #[.int .i64 p, .int .i64 q, .int .i64 u]] w fun e w' => e = .returned (.int .i64 (lf q u)) ∧ Kp No w w' := by
  have B := hid (Blk.new w 23 #[.int .i64 p, .int .i64 q, .int .i64 u])
  have wq : IntKind.i64.wrap (q - u) = q - u := wrapI ⟨by omega, by omega⟩
  rcases (show q = 0 ∨ (q ≠ 0 ∧ q < u) ∨ (q ≠ 0 ∧ u ≤ q) from by omega) with rfl | ⟨hq, hu⟩ | ⟨hq, hu⟩
  · have H := hid (show lf 0 u = -1 from by unfold lf; simp)
    clear wq
    go_enter Try.func14, Try.ntmps14
    go_wp2_with fail
    refine (limited_any _ _ _ _).mono ?_
    rintro e w1 ⟨rfl, k1⟩
    have C := hid (B.out.kp0 k1)
    have K := hid (((Kp.refl No w).alloc _).trans k1)
    obtain ⟨c0, c1, c2, lt⟩ := C.out.three
    clear B k1
    try rw [show (!((0 : Int) == 0)) = false from rfl]
    go_wp2_with fail
    go_ret
    rw [H.out]
    exact ⟨by first | rfl | go_num, K.out⟩
  · have H := hid (show lf q u = 0 from by unfold lf; rw [if_neg hq]; rw [if_pos hu])
    have z : (q == 0) = false := by simp; exact hq
    have z' : (!(q == 0)) = true := by simp; exact hq
    have hd := hu
    go_enter Try.func14, Try.ntmps14
    go_wp2_with fail
    refine (limited_any _ _ _ _).mono ?_
    rintro e w1 ⟨rfl, k1⟩
    have C := hid (B.out.kp0 k1)
    have K := hid (((Kp.refl No w).alloc _).trans k1)
    obtain ⟨c0, c1, c2, lt⟩ := C.out.three
    clear B k1
    try rw [z']
    go_wp2_with fail
    go_ret
    rw [H.out]
    exact ⟨by first | rfl | go_num, K.out⟩
  · have H := hid (show lf q u = q - u from by unfold lf; rw [if_neg hq]; rw [if_neg (by omega)])
    have z : (q == 0) = false := by simp; exact hq
    have z' : (!(q == 0)) = true := by simp; exact hq
    have hd := decide_eq_false (show ¬ q < u by omega)
    go_enter Try.func14, Try.ntmps14
    go_wp2_with fail
    refine (limited_any _ _ _ _).mono ?_
    rintro e w1 ⟨rfl, k1⟩
    have C := hid (B.out.kp0 k1)
    have K := hid (((Kp.refl No w).alloc _).trans k1)
    obtain ⟨c0, c1, c2, lt⟩ := C.out.three
    clear B k1
    try rw [z']
    go_wp2_with fail
    go_ret
    rw [H.out]
    exact ⟨by first | rfl | go_num, K.out⟩

theorem refleft_any (p q u : Int) (w : World) (h0 : 0 ≤ q) (h1 : q ≤ 1048576) (h2 : 0 ≤ u) (h3 : u ≤ 1099511627776) : Calls Try.prog 13 #[.agg #[.int .i64 p, .int .i64 q, .int .i64 u]] w fun e w' => e = .returned (.int .i64 (lf q u)) ∧ Kp No w w' := by
  have B := hid (Blk.new w 23 #[.int .i64 p, .int .i64 q, .int .i64 u])
  have wq : IntKind.i64.wrap (q - u) = q - u := wrapI ⟨by omega, by omega⟩
  rcases (show q = 0 ∨ (q ≠ 0 ∧ q < u) ∨ (q ≠ 0 ∧ u ≤ q) from by omega) with rfl | ⟨hq, hu⟩ | ⟨hq, hu⟩
  · have H := hid (show lf 0 u = -1 from by unfold lf; simp)
    clear wq
    go_enter Try.func13, Try.ntmps13
    go_wp2_with fail
    go_ret
    rw [H.out]
    exact ⟨by first | rfl | go_num, (Kp.refl No w).alloc _⟩
  · have H := hid (show lf q u = 0 from by unfold lf; rw [if_neg hq]; rw [if_pos hu])
    have z : (q == 0) = false := by simp; exact hq
    have z' : (!(q == 0)) = true := by simp; exact hq
    have hd := hu
    go_enter Try.func13, Try.ntmps13
    go_wp2_with fail
    go_ret
    rw [H.out]
    exact ⟨by first | rfl | go_num, (Kp.refl No w).alloc _⟩
  · have H := hid (show lf q u = q - u from by unfold lf; rw [if_neg hq]; rw [if_neg (by omega)])
    have z : (q == 0) = false := by simp; exact hq
    have z' : (!(q == 0)) = true := by simp; exact hq
    have hd := decide_eq_false (show ¬ q < u by omega)
    go_enter Try.func13, Try.ntmps13
    go_wp2_with fail
    go_ret
    rw [H.out]
    exact ⟨by first | rfl | go_num, (Kp.refl No w).alloc _⟩

theorem shut_any (p q u : Int) (w : World) (h0 : 0 ≤ q) (h1 : q ≤ 1048576) (h2 : 0 ≤ u) (h3 : u ≤ 1099511627776) : Calls Try.prog 15 #[.agg #[.int .i64 p, .int .i64 q, .int .i64 u]] w fun e w' => e = .returned (.bool (lf q u == 0)) ∧ Kp No w w' := by
  have B := hid (Blk.new w 23 #[.int .i64 p, .int .i64 q, .int .i64 u])
  rcases (show q = 0 ∨ (q ≠ 0 ∧ q ≤ u) ∨ (q ≠ 0 ∧ u < q) from by omega) with rfl | ⟨hq, hu⟩ | ⟨hq, hu⟩
  · have H := hid (show (lf 0 u == 0) = false from by unfold lf; simp)
    go_enter Try.func15, Try.ntmps15
    go_wp2_with fail
    refine (limited_any _ _ _ _).mono ?_
    rintro e w1 ⟨rfl, k1⟩
    have C := hid (B.out.kp0 k1)
    have K := hid (((Kp.refl No w).alloc _).trans k1)
    obtain ⟨c0, c1, c2, lt⟩ := C.out.three
    clear B k1
    try rw [show (!((0 : Int) == 0)) = false from rfl]
    go_wp2_with fail
    go_ret
    rw [H.out]
    exact ⟨by first | rfl | go_num, K.out⟩
  · have H := hid (show (lf q u == 0) = true from by unfold lf; rw [if_neg hq]; split <;> simp <;> omega)
    have z' : (!(q == 0)) = true := by simp; exact hq
    go_enter Try.func15, Try.ntmps15
    go_wp2_with fail
    refine (limited_any _ _ _ _).mono ?_
    rintro e w1 ⟨rfl, k1⟩
    have C := hid (B.out.kp0 k1)
    have K := hid (((Kp.refl No w).alloc _).trans k1)
    obtain ⟨c0, c1, c2, lt⟩ := C.out.three
    clear B k1
    try rw [z']
    go_wp2_with fail
    go_ret
    rw [H.out]
    exact ⟨by first | rfl | go_num, K.out⟩
  · have H := hid (show (lf q u == 0) = false from by unfold lf; rw [if_neg hq]; split <;> simp <;> omega)
    have z' : (!(q == 0)) = true := by simp; exact hq
    have hd := decide_eq_false (show ¬ q ≤ u by omega)
    go_enter Try.func15, Try.ntmps15
    go_wp2_with fail
    refine (limited_any _ _ _ _).mono ?_
    rintro e w1 ⟨rfl, k1⟩
    have C := hid (B.out.kp0 k1)
    have K := hid (((Kp.refl No w).alloc _).trans k1)
    obtain ⟨c0, c1, c2, lt⟩ := C.out.three
    clear B k1
    try rw [z']
    go_wp2_with fail
    go_ret
    rw [H.out]
    exact ⟨by first | rfl | go_num, K.out⟩
end Go.Proofs.Ytnlehhmogdencaa
