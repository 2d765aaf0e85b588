/-
  Contracts: Right (both), Left (both), Shut.
-/
import Derived.Test.YtjmaingpiieioaaGreatBandB
namespace Go.Proofs.YtjmaingpiieioaaGreat
open Go.RowKit

def fitp (p q u : Int) : Int × Int × Int := if cl q 0 1048576 = 0 then (cl p 0 1048576, 0, 0) else (cl p 1 1048576, cl q 0 1048576, tk u)
/-- A band that can be. -/
def Rb (p q u : Int) : Prop := 0 ≤ p ∧ p ≤ 1048576 ∧ 0 ≤ q ∧ q ≤ 1048576 ∧ 0 ≤ u ∧ u ≤ 1099511627776 ∧ (0 < p ∨ q = 0) ∧ (0 < q ∨ u = 0)
instance (p q u : Int) : Decidable (Rb p q u) := by unfold Rb; infer_instance
theorem fitp_iff (p q u : Int) : fitp p q u = (p, q, u) ↔ Rb p q u := by
  unfold fitp Rb cl tk
  by_cases h1 : q < 0
  · simp [h1]; omega
  · by_cases h2 : 1048576 < q
    · simp [h1, h2]; omega
    · by_cases h3 : q = 0
      · subst h3
        by_cases h4 : p < 0 <;> by_cases h5 : 1048576 < p <;> simp [h4, h5] <;> omega
      · by_cases h4 : p < 1 <;> by_cases h5 : 1048576 < p <;> by_cases h6 : u < 0 <;> by_cases h7 : 1099511627776 < u <;> simp [h1, h2, h3, h4, h5, h6, h7] <;> omega
theorem fit_is {p q u P Q U : Int} (h : fitp p q u = (P, Q, U)) (w : World) : Calls Tryz.prog 69 #[.agg #[.int .i64 p, .int .i64 q, .int .i64 u]] w fun e w' => e = .returned (.agg #[.int .i64 P, .int .i64 Q, .int .i64 U]) ∧ Kp No w w' := by
  unfold fitp at h
  split at h
  · next hz =>
    injection h with e1 e2
    injection e2 with e2 e3
    subst e1 e2 e3
    exact fit_zero hz w
  · next hz =>
    injection h with e1 e2
    injection e2 with e2 e3
    subst e1 e2 e3
    exact fit_some rfl hz w

theorem right_any (p q u : Int) (w : World) : Calls Tryz.prog 50 #[.agg #[.int .i64 p, .int .i64 q, .int .i64 u]] w fun e w' => e = .returned (.bool (decide (Rb p q u))) ∧ Kp No w w' := by
  obtain ⟨P, Q, U, hf⟩ : ∃ P Q U, fitp p q u = (P, Q, U) := ⟨_, _, _, rfl⟩
  have hr : decide (Rb p q u) = (decide (p = P) && (decide (q = Q) && decide (u = U))) := by
    rw [Bool.eq_iff_iff]
    simp only [decide_eq_true_eq, Bool.and_eq_true]
    rw [← fitp_iff, hf]
    simp only [Prod.mk.injEq]
    constructor <;> rintro ⟨a, b, c⟩ <;> exact ⟨a.symm, b.symm, c.symm⟩
  rw [hr]
  have HF := hid hf
  clear hf hr
  have A1 : At w w.heap.size 49 #[.int .i64 p, .int .i64 q, .int .i64 u] ((w.alloc (.cells #[.int .i64 p, .int .i64 q, .int .i64 u] 49))) := ⟨(Kp.refl No w).alloc _, Blk.new _ _ _⟩
  obtain ⟨a, ha⟩ : ∃ a, (p == P) = a := ⟨_, rfl⟩
  obtain ⟨b, hb⟩ : ∃ a, (q == Q) = a := ⟨_, rfl⟩
  obtain ⟨c, hc⟩ : ∃ a, (u == U) = a := ⟨_, rfl⟩
  have H1 := hid (show decide (p = P) = a by rw [← ha]; rfl)
  have H2 := hid (show decide (q = Q) = b by rw [← hb]; rfl)
  have H3 := hid (show decide (u = U) = c by rw [← hc]; rfl)
  cases a <;> cases b <;> cases c
  all_goals (
    go_enter Tryz.func50, Tryz.ntmps50
    go_wp2_with fail
    go_region_held3 (fun w' => w'.cell? ⟨w.heap.size, 0, none⟩ = some (.int .i64 p) ∧ w'.cell? ⟨w.heap.size, 1, none⟩ = some (.int .i64 q) ∧ w'.cell? ⟨w.heap.size, 2, none⟩ = some (.int .i64 u) ∧ At w w.heap.size 49 #[.int .i64 p, .int .i64 q, .int .i64 u] w')
      (first | exact A1.drew.all3 | exact At.step3 (by assumption) (by assumption))
      (first | (go_at_call 69; refine (fit_is HF.out _).mono ?_; rintro e w4 ⟨rfl, k4⟩))
    go_wp2_with fail
    go_ret
    rename_i hh
    rw [H1.out, H2.out, H3.out]
    exact ⟨by first | rfl | simp, hh.2.2.2.kept⟩)
end Go.Proofs.YtjmaingpiieioaaGreat
