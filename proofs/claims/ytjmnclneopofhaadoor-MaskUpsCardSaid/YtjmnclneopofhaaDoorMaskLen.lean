/-
  How many cores a set has, and what With, Without, Up make of that: plain facts, nothing of a program is named here.
-/
import Derived.Test.YtjmnclneopofhaaDoorMaskC
namespace Go.Proofs.YtjmnclneopofhaaDoor

theorem up_and (a b : Int) : up a &&& up b = up (min a b) := by
  apply (up_U64 a).and.ext (up_U64 _)
  intro i hi
  rw [Nat.testBit_and, up_bit, up_bit, up_bit, ← Bool.decide_and]
  apply decide_eq_decide.2
  omega
theorem up_or (a b : Int) : up a ||| up b = up (max a b) := by
  apply ((up_U64 a).or (up_U64 b)).ext (up_U64 _)
  intro i hi
  rw [Nat.testBit_or, up_bit, up_bit, up_bit, ← Bool.decide_or]
  apply decide_eq_decide.2
  omega

/-- How many of the first k are in it. -/
theorem cs_lens (p q : Nat → Bool) (k : Nat) (hk : k ≤ 64) (h : ∀ i, i < k → p i = q i) : (cs p k).length = (cs q k).length := by
  induction k with
  | zero => rfl
  | succ k ih => rw [cs_succ p k (by omega), cs_succ q k (by omega), List.length_append, List.length_append, ih (by omega) (fun i hi => h i (by omega)), h k (by omega)]
theorem cs_up (n : Nat) (k : Nat) (hk : k ≤ 64) : (cs (fun i => decide (i < n)) k).length = min n k := by
  induction k with
  | zero => simp [cs_zero]
  | succ k ih =>
    rw [cs_succ _ k (by omega), List.length_append, ih (by omega)]
    by_cases h : k < n
    · rw [decide_eq_true h, if_pos rfl, List.length_singleton]; omega
    · rw [decide_eq_false h, if_neg (by decide), List.length_nil]; omega
theorem al_up (n : Int) : (al (up n)).length = hu n := by
  unfold al
  rw [cs_lens _ (fun i => decide (i < hu n)) 64 (Nat.le_refl _), cs_up _ 64 (Nat.le_refl _)]
  · have := hu_le n; omega
  · intro i hi
    rw [isIn_nat _ i hi, up_bit]
    apply decide_eq_decide.2
    unfold hu
    omega
/-- A set with a core more has one more. -/
theorem cs_one (p : Nat → Bool) (c : Nat) (k : Nat) (hk : k ≤ 64) : (cs (fun i => p i || decide (i = c)) k).length = (cs (fun i => p i && !decide (i = c)) k).length + (if c < k then 1 else 0) := by
  induction k with
  | zero => rfl
  | succ k ih =>
    rw [cs_succ _ k (by omega), cs_succ _ k (by omega), List.length_append, List.length_append, ih (by omega)]
    by_cases h : k = c
    · subst h
      simp
    · rw [decide_eq_false h, Bool.or_false, Bool.not_false, Bool.and_true]
      split <;> split <;> split <;> simp <;> omega
end Go.Proofs.YtjmnclneopofhaaDoor
