/-
  Contracts: awake; contracts with named answers.
-/
import Derived.Test.YtnlehhmogdencaaBandF
namespace Go.Proofs.Ytnlehhmogdencaa
open Go.RowKit

theorem right_is {p q u : Int} {b : Bool} (h : decide (Rb p q u) = b) (w : World) : Calls Try.prog 12 #[.agg #[.int .i64 p, .int .i64 q, .int .i64 u]] w fun e w' => e = .returned (.bool b) ∧ Kp No w w' := by
  subst h
  exact right_any p q u w
theorem refright_is {p q u : Int} {b : Bool} (h : decide (Rb p q u) = b) (w : World) : Calls Try.prog 11 #[.agg #[.int .i64 p, .int .i64 q, .int .i64 u]] w fun e w' => e = .returned (.bool b) ∧ Kp No w w' := by
  subst h
  exact refright_any p q u w
theorem shut_is {p q u : Int} {b : Bool} (hr : Rb p q u) (h : (lf q u == 0) = b) (w : World) : Calls Try.prog 15 #[.agg #[.int .i64 p, .int .i64 q, .int .i64 u]] w fun e w' => e = .returned (.bool b) ∧ Kp No w w' := by
  subst h
  exact shut_any p q u w hr.2.2.1 hr.2.2.2.1 hr.2.2.2.2.1 hr.2.2.2.2.2.1
theorem left_is {p q u z : Int} (hr : Rb p q u) (h : lf q u = z) (w : World) : Calls Try.prog 14 #[.agg #[.int .i64 p, .int .i64 q, .int .i64 u]] w fun e w' => e = .returned (.int .i64 z) ∧ Kp No w w' := by
  subst h
  exact left_any p q u w hr.2.2.1 hr.2.2.2.1 hr.2.2.2.2.1 hr.2.2.2.2.2.1
theorem refleft_is {p q u z : Int} (hr : Rb p q u) (h : lf q u = z) (w : World) : Calls Try.prog 13 #[.agg #[.int .i64 p, .int .i64 q, .int .i64 u]] w fun e w' => e = .returned (.int .i64 z) ∧ Kp No w w' := by
  subst h
  exact refleft_any p q u w hr.2.2.1 hr.2.2.2.1 hr.2.2.2.2.1 hr.2.2.2.2.2.1
theorem charge_is {p q u t z : Int} (hr : Rb p q u) (h : ch q u t = z) (w : World) : Calls Try.prog 16 #[.agg #[.int .i64 p, .int .i64 q, .int .i64 u], .int .i64 t] w fun e w' => e = .returned (.agg #[.int .i64 p, .int .i64 q, .int .i64 z]) ∧ Kp No w w' := by
  unfold ch at h
  split at h
  · next hq =>
    subst hq h
    exact charge_zero p u t w
  · next hq => exact charge_some hq hr.2.2.2.2.1 hr.2.2.2.2.2.1 rfl h w
theorem refcharge_is {p q u t z : Int} (hr : Rb p q u) (h : ch q u t = z) (w : World) : Calls Try.prog 17 #[.agg #[.int .i64 p, .int .i64 q, .int .i64 u], .int .i64 t] w fun e w' => e = .returned (.agg #[.int .i64 p, .int .i64 q, .int .i64 z]) ∧ Kp No w w' := by
  unfold ch at h
  split at h
  · next hq =>
    subst hq h
    exact refcharge_zero p u t w
  · next hq => exact refcharge_some hq hr.2.2.2.2.1 hr.2.2.2.2.2.1 rfl h w
/-- What is used behind some time. -/
def ps (p u n m : Int) : Int := if en p n m = 0 then u else 0
theorem pass_is {p q u n m z : Int} (h : ps p u n m = z) (w : World) : Calls Try.prog 18 #[.agg #[.int .i64 p, .int .i64 q, .int .i64 u], .int .i64 n, .int .i64 m] w fun e w' => e = .returned (.agg #[.int .i64 p, .int .i64 q, .int .i64 z]) ∧ Kp No w w' := by
  unfold ps at h
  split at h
  · next he =>
    subst h
    exact pass_stay he w
  · next he =>
    subst h
    exact pass_end rfl (by have := en_bd p n m; omega) w
theorem refpass_is {p q u n m z : Int} (hr : Rb p q u) (h : ps p u n m = z) (w : World) : Calls Try.prog 19 #[.agg #[.int .i64 p, .int .i64 q, .int .i64 u], .int .i64 n, .int .i64 m] w fun e w' => e = .returned (.agg #[.int .i64 p, .int .i64 q, .int .i64 z]) ∧ Kp No w w' := by
  have hp : p ≤ 9223372036854775807 := by have := hr.2.1; omega
  unfold ps at h
  split at h
  · next he =>
    subst h
    exact refpass_stay hp he w
  · next he =>
    subst h
    exact refpass_end hp rfl (by have := en_bd p n m; omega) w
theorem Rb.used {p q u x : Int} (h : Rb p q u) (h0 : 0 ≤ x) (h1 : x ≤ 1099511627776) (hq : 0 < q ∨ x = 0) : Rb p q x := ⟨h.1, h.2.1, h.2.2.1, h.2.2.2.1, h0, h1, h.2.2.2.2.2.2.1, hq⟩
theorem ch_right {p q u : Int} (h : Rb p q u) (t : Int) : Rb p q (ch q u t) := by
  unfold ch
  split
  · exact h
  · have := tk_bd (u + tk t)
    exact h.used this.1 this.2 (by have := h.2.2.1; omega)
theorem ps_right {p q u : Int} (h : Rb p q u) (n m : Int) : Rb p q (ps p u n m) := by
  unfold ps
  split
  · exact h
  · exact h.used (by omega) (by omega) (.inr rfl)

theorem awake_any (w : World) : Calls Try.prog 10 #[] w fun e w' => e = .returned (.bool true) ∧ Kp No w w' := by
  have R1 : Rb 10 3 3 := by decide
  have R2 : Rb 10 3 0 := by decide
  have A1 := hid (show At w w.heap.size 23 #[.int .i64 10, .int .i64 3, .int .i64 3] (w.alloc (.cells #[.int .i64 10, .int .i64 3, .int .i64 3] 23)) from ⟨(Kp.refl No w).alloc _, Blk.new _ _ _⟩)
  have HR1 := hid R1
  have HR2 := hid R2
  clear R1 R2
  go_enter Try.func10, Try.ntmps10
  go_wp2_with fail
  refine (right_is (b := true) (by decide) _).mono ?_
  rintro e w1 ⟨rfl, k1⟩
  have A2 := hid (A1.out.kp k1)
  clear A1 k1
  obtain ⟨c0, c1, c2, lt⟩ := A2.out.blk.three
  go_wp2_with fail
  refine (shut_is HR1.out (b := true) (by decide) _).mono ?_
  rintro e w2 ⟨rfl, k2⟩
  clear c0 c1 c2 lt
  have A3 := hid (A2.out.kp k2)
  clear A2 k2
  obtain ⟨c0, c1, c2, lt⟩ := A3.out.blk.three
  go_wp2_with fail
  refine (pass_is (z := 3) (by decide) _).mono ?_
  rintro e w3 ⟨rfl, k3⟩
  clear c0 c1 c2 lt
  have A4 := hid (A3.out.kp k3)
  clear A3 k3
  obtain ⟨c0, c1, c2, lt⟩ := A4.out.blk.three
  go_wp2_with fail
  refine (shut_is HR1.out (b := true) (by decide) _).mono ?_
  rintro e w4 ⟨rfl, k4⟩
  clear c0 c1 c2 lt
  have A5 := hid (A4.out.kp k4)
  clear A4 k4
  obtain ⟨c0, c1, c2, lt⟩ := A5.out.blk.three
  go_wp2_with fail
  refine (pass_is (z := 0) (by decide) _).mono ?_
  rintro e w5 ⟨rfl, k5⟩
  clear c0 c1 c2 lt
  have A6 := hid (A5.out.kp k5)
  clear A5 k5
  go_wp2_with fail
  refine (left_is HR2.out (z := 3) (by decide) _).mono ?_
  rintro e w6 ⟨rfl, k6⟩
  have A7 := hid (A6.out.kp k6)
  clear A6 k6
  go_wp2_with fail
  refine (ends_any (z := 1) (by decide) _).mono ?_
  rintro e w7 ⟨rfl, k7⟩
  have A8 := hid (A7.out.kp k7)
  clear A7 k7
  go_wp2_with fail
  go_ret
  exact ⟨rfl, A8.out.kept⟩
end Go.Proofs.Ytnlehhmogdencaa
