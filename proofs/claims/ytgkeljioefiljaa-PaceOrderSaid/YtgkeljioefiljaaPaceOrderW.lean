/-
  The walk of PaceOrder.
-/
import Derived.Test.YtgkeljioefiljaaPaceD
namespace Go.Proofs.Ytgkeljioefiljaa
open Go.RowKit

theorem less_is {k i k' i' : Int} {q : Bool} {w : World} (h : ls k i k' i' = q) : Calls Try.prog 20 #[.agg #[.int .i64 k, .int .i64 i], .agg #[.int .i64 k', .int .i64 i']] w fun e w' => e = .returned (.bool q) ∧ Kp No w w' := by
  subst h
  exact less_any k i k' i' w
theorem ls_iff {k i k' i' : Int} : ls k i k' i' = true ↔ k < k' ∨ (k = k' ∧ i < i') := by simp [ls]
theorem ls_trans {k i k' i' k'' i'' : Int} (h : ls k i k' i' = true) (h' : ls k' i' k'' i'' = true) : ls k i k'' i'' = true := by
  rw [ls_iff] at *
  omega
theorem ls_no {k i k' i' : Int} (h : ¬ (k < k' ∨ (k = k' ∧ i < i'))) : ls k i k' i' = false := by
  rw [← Bool.not_eq_true, ls_iff]
  exact h

/-- Three structs of two cells, kept. -/
structure It3 (a : World) (t : TypeId) (g p q : Nat) (x y x' y' x'' y'' : Value) (w : World) : Prop where
  kept : Kp No a w
  one : Blk w g t #[x, y]
  two : Blk w p t #[x', y']
  three : Blk w q t #[x'', y'']
section
variable {a w w' : World} {t : TypeId} {g p q : Nat} {x y x' y' x'' y'' : Value}
theorem It3.kp (h : It3 a t g p q x y x' y' x'' y'' w) (k : Kp No w w') : It3 a t g p q x y x' y' x'' y'' w' := ⟨h.kept.trans k, h.one.kp0 k, h.two.kp0 k, h.three.kp0 k⟩
theorem It3.all (h : It3 a t g p q x y x' y' x'' y'' w) : w.cell? ⟨g, 0, none⟩ = some x ∧ w.cell? ⟨g, 1, none⟩ = some y ∧ w.cell? ⟨p, 0, none⟩ = some x' ∧ w.cell? ⟨p, 1, none⟩ = some y' ∧ w.cell? ⟨q, 0, none⟩ = some x'' ∧ w.cell? ⟨q, 1, none⟩ = some y'' ∧
    It3 a t g p q x y x' y' x'' y'' w := ⟨h.one.cell 0, h.one.cell 1, h.two.cell 0, h.two.cell 1, h.three.cell 0, h.three.cell 1, h⟩
end

theorem paceOrder_walk (w : World) (k i l j m n : Int) (_ : I64 k) (_ : I64 i) (_ : I64 l) (_ : I64 j) (_ : I64 m) (_ : I64 n) :
    Calls Try.prog 8 #[.agg #[.int .i64 k, .int .i64 i], .agg #[.int .i64 l, .int .i64 j], .agg #[.int .i64 m, .int .i64 n]] w fun e w' => e = .returned (.bool true) ∧ Kp No w w' := by
  have A0 : Hid (It3 w 39 w.heap.size (w.heap.size + 1) (w.heap.size + 1 + 1) (.int .i64 k) (.int .i64 i) (.int .i64 l) (.int .i64 j) (.int .i64 m) (.int .i64 n) (((w.alloc (.cells #[.int .i64 k, .int .i64 i] 39)).alloc (.cells #[.int .i64 l, .int .i64 j] 39)).alloc (.cells #[.int .i64 m, .int .i64 n] 39))) := hid (by
    refine ⟨(((Kp.refl No w).alloc _).alloc _).alloc _, ((Blk.new w _ _).kp0 ((Kp.refl No _).alloc _)).kp0 ((Kp.refl No _).alloc _), ?_, ?_⟩
    · have h := Blk.new (w.alloc (.cells #[.int .i64 k, .int .i64 i] 39)) 39 #[.int .i64 l, .int .i64 j]
      rw [show (w.alloc (.cells #[.int .i64 k, .int .i64 i] 39)).heap.size = w.heap.size + 1 from by simp] at h
      exact h.kp0 ((Kp.refl No _).alloc _)
    · have h := Blk.new ((w.alloc (.cells #[.int .i64 k, .int .i64 i] 39)).alloc (.cells #[.int .i64 l, .int .i64 j] 39)) 39 #[.int .i64 m, .int .i64 n]
      rwa [show ((w.alloc (.cells #[.int .i64 k, .int .i64 i] 39)).alloc (.cells #[.int .i64 l, .int .i64 j] 39)).heap.size = w.heap.size + 1 + 1 from by simp] at h)
  rcases (show k < l ∨ (k = l ∧ i < j) ∨ (k = l ∧ i = j) ∨ (k = l ∧ j < i) ∨ l < k from by omega) with hc | ⟨rfl, hc⟩ | ⟨rfl, rfl⟩ | ⟨rfl, hc⟩ | hc
  · have X := hid (show ls k i l j = true from ls_iff.2 (by omega))
    have Y := hid (show ls l j k i = false from ls_no (by omega))
    go_enter Try.func8, Try.ntmps8
    go_wp2_with fail
    refine (awake_any _).mono ?_
    rintro e w1 ⟨rfl, k1⟩
    have A1 := hid (A0.out.kp k1)
    clear k1 A0
    obtain ⟨a1, a2, a3, a4, a5, a6, _⟩ := A1.out.all
    go_wp2_with fail
    refine (less_is X.out).mono ?_
    rintro e w2 ⟨rfl, k2⟩
    have A2 := hid (A1.out.kp k2)
    clear k2 A1 a1 a2 a3 a4 a5 a6
    obtain ⟨a1, a2, a3, a4, a5, a6, _⟩ := A2.out.all
    go_wp2_with fail
    refine (less_is Y.out).mono ?_
    rintro e w3 ⟨rfl, k3⟩
    have A3 := hid (A2.out.kp k3)
    clear k3 A2 a1 a2 a3 a4 a5 a6
    obtain ⟨a1, a2, a3, a4, a5, a6, _⟩ := A3.out.all
    have d1 : (k == l) = false := by rw [beq_eq_false_iff_ne]; omega
    have d2 : (k != l) = true := by rw [bne, d1]; rfl
    cases hq : ls l j m n
    · have Q := hid hq
      clear hq
      go_wp2_with fail
      refine (less_is Q.out).mono ?_
      rintro e w4 ⟨rfl, k4⟩
      have A4 := hid (A3.out.kp k4)
      clear k4 A3 a1 a2 a3 a4 a5 a6
      obtain ⟨a1, a2, a3, a4, a5, a6, _⟩ := A4.out.all
      go_wp2_with fail
      go_ret
      exact ⟨rfl, A4.out.kept⟩
    · have Q := hid hq
      have R := hid (ls_trans X.out hq)
      clear hq
      go_wp2_with fail
      refine (less_is Q.out).mono ?_
      rintro e w4 ⟨rfl, k4⟩
      have A4 := hid (A3.out.kp k4)
      clear k4 A3 a1 a2 a3 a4 a5 a6
      obtain ⟨a1, a2, a3, a4, a5, a6, _⟩ := A4.out.all
      go_wp2_with fail
      refine (less_is R.out).mono ?_
      rintro e w5 ⟨rfl, k5⟩
      have A5 := hid (A4.out.kp k5)
      clear k5 A4 a1 a2 a3 a4 a5 a6
      obtain ⟨a1, a2, a3, a4, a5, a6, _⟩ := A5.out.all
      go_wp2_with fail
      go_ret
      exact ⟨rfl, A5.out.kept⟩
  · have X := hid (show ls k i k j = true from ls_iff.2 (by omega))
    have Y := hid (show ls k j k i = false from ls_no (by omega))
    go_enter Try.func8, Try.ntmps8
    go_wp2_with fail
    refine (awake_any _).mono ?_
    rintro e w1 ⟨rfl, k1⟩
    have A1 := hid (A0.out.kp k1)
    clear k1 A0
    obtain ⟨a1, a2, a3, a4, a5, a6, _⟩ := A1.out.all
    go_wp2_with fail
    refine (less_is X.out).mono ?_
    rintro e w2 ⟨rfl, k2⟩
    have A2 := hid (A1.out.kp k2)
    clear k2 A1 a1 a2 a3 a4 a5 a6
    obtain ⟨a1, a2, a3, a4, a5, a6, _⟩ := A2.out.all
    go_wp2_with fail
    refine (less_is Y.out).mono ?_
    rintro e w3 ⟨rfl, k3⟩
    have A3 := hid (A2.out.kp k3)
    clear k3 A2 a1 a2 a3 a4 a5 a6
    obtain ⟨a1, a2, a3, a4, a5, a6, _⟩ := A3.out.all
    have d1 : (k == k) = true := by simp
    have d2 : (k != k) = false := by simp
    have d3 : (i == j) = false := by rw [beq_eq_false_iff_ne]; omega
    cases hq : ls k j m n
    · have Q := hid hq
      clear hq
      go_wp2_with fail
      refine (less_is Q.out).mono ?_
      rintro e w4 ⟨rfl, k4⟩
      have A4 := hid (A3.out.kp k4)
      clear k4 A3 a1 a2 a3 a4 a5 a6
      obtain ⟨a1, a2, a3, a4, a5, a6, _⟩ := A4.out.all
      go_wp2_with fail
      go_ret
      exact ⟨rfl, A4.out.kept⟩
    · have Q := hid hq
      have R := hid (ls_trans X.out hq)
      clear hq
      go_wp2_with fail
      refine (less_is Q.out).mono ?_
      rintro e w4 ⟨rfl, k4⟩
      have A4 := hid (A3.out.kp k4)
      clear k4 A3 a1 a2 a3 a4 a5 a6
      obtain ⟨a1, a2, a3, a4, a5, a6, _⟩ := A4.out.all
      go_wp2_with fail
      refine (less_is R.out).mono ?_
      rintro e w5 ⟨rfl, k5⟩
      have A5 := hid (A4.out.kp k5)
      clear k5 A4 a1 a2 a3 a4 a5 a6
      obtain ⟨a1, a2, a3, a4, a5, a6, _⟩ := A5.out.all
      go_wp2_with fail
      go_ret
      exact ⟨rfl, A5.out.kept⟩
  · have X := hid (show ls k i k i = false from ls_no (by omega))
    have Y := hid (show ls k i k i = false from ls_no (by omega))
    go_enter Try.func8, Try.ntmps8
    go_wp2_with fail
    refine (awake_any _).mono ?_
    rintro e w1 ⟨rfl, k1⟩
    have A1 := hid (A0.out.kp k1)
    clear k1 A0
    obtain ⟨a1, a2, a3, a4, a5, a6, _⟩ := A1.out.all
    go_wp2_with fail
    refine (less_is X.out).mono ?_
    rintro e w2 ⟨rfl, k2⟩
    have A2 := hid (A1.out.kp k2)
    clear k2 A1 a1 a2 a3 a4 a5 a6
    obtain ⟨a1, a2, a3, a4, a5, a6, _⟩ := A2.out.all
    go_wp2_with fail
    refine (less_is Y.out).mono ?_
    rintro e w3 ⟨rfl, k3⟩
    have A3 := hid (A2.out.kp k3)
    clear k3 A2 a1 a2 a3 a4 a5 a6
    obtain ⟨a1, a2, a3, a4, a5, a6, _⟩ := A3.out.all
    have d1 : (k == k) = true := by simp
    have d2 : (k != k) = false := by simp
    have d3 : (i == i) = true := by simp
    have d4 : decide (i < i) = false := by simp
    have d5 : decide (k < k) = false := by simp
    go_wp2_with fail
    go_ret
    exact ⟨rfl, A3.out.kept⟩
  · have X := hid (show ls k i k j = false from ls_no (by omega))
    have Y := hid (show ls k j k i = true from ls_iff.2 (by omega))
    go_enter Try.func8, Try.ntmps8
    go_wp2_with fail
    refine (awake_any _).mono ?_
    rintro e w1 ⟨rfl, k1⟩
    have A1 := hid (A0.out.kp k1)
    clear k1 A0
    obtain ⟨a1, a2, a3, a4, a5, a6, _⟩ := A1.out.all
    go_wp2_with fail
    refine (less_is X.out).mono ?_
    rintro e w2 ⟨rfl, k2⟩
    have A2 := hid (A1.out.kp k2)
    clear k2 A1 a1 a2 a3 a4 a5 a6
    obtain ⟨a1, a2, a3, a4, a5, a6, _⟩ := A2.out.all
    go_wp2_with fail
    refine (less_is Y.out).mono ?_
    rintro e w3 ⟨rfl, k3⟩
    have A3 := hid (A2.out.kp k3)
    clear k3 A2 a1 a2 a3 a4 a5 a6
    obtain ⟨a1, a2, a3, a4, a5, a6, _⟩ := A3.out.all
    have d1 : (k == k) = true := by simp
    have d2 : (k != k) = false := by simp
    have d3 : (i == j) = false := by rw [beq_eq_false_iff_ne]; omega
    have d4 : decide (i < j) = false := by simp; omega
    have d5 : decide (k < k) = false := by simp
    go_wp2_with fail
    go_ret
    exact ⟨rfl, A3.out.kept⟩
  · have X := hid (show ls k i l j = false from ls_no (by omega))
    have Y := hid (show ls l j k i = true from ls_iff.2 (by omega))
    go_enter Try.func8, Try.ntmps8
    go_wp2_with fail
    refine (awake_any _).mono ?_
    rintro e w1 ⟨rfl, k1⟩
    have A1 := hid (A0.out.kp k1)
    clear k1 A0
    obtain ⟨a1, a2, a3, a4, a5, a6, _⟩ := A1.out.all
    go_wp2_with fail
    refine (less_is X.out).mono ?_
    rintro e w2 ⟨rfl, k2⟩
    have A2 := hid (A1.out.kp k2)
    clear k2 A1 a1 a2 a3 a4 a5 a6
    obtain ⟨a1, a2, a3, a4, a5, a6, _⟩ := A2.out.all
    go_wp2_with fail
    refine (less_is Y.out).mono ?_
    rintro e w3 ⟨rfl, k3⟩
    have A3 := hid (A2.out.kp k3)
    clear k3 A2 a1 a2 a3 a4 a5 a6
    obtain ⟨a1, a2, a3, a4, a5, a6, _⟩ := A3.out.all
    have d1 : (k == l) = false := by rw [beq_eq_false_iff_ne]; omega
    have d2 : (k != l) = true := by rw [bne, d1]; rfl
    have d5 : decide (k < l) = false := by simp; omega
    go_wp2_with fail
    go_ret
    exact ⟨rfl, A3.out.kept⟩
end Go.Proofs.Ytgkeljioefiljaa
