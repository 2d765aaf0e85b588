/-
  How many cores a set has, and what With, Without, Up make of that: plain facts, nothing of a program is named here.
-/
import Derived.Test.YtjmnclneopofhaaDoorMaskC
namespace Go.Proofs.YtjmnclneopofhaaDoor

theorem up_and (a b : Int) : up a &&& up b = up (min a b) := by
  apply (up_U64 a).and.ext (up_U64 _)
  intro i hi
  rw [Nat.testBit_and, up_bit, up_bit, up_bit, ← Bool.decide_and]
  apply decide_eq_decide.2
  omega
theorem up_or (a b : Int) : up a ||| up b = up (max a b) := by
  apply ((up_U64 a).or (up_U64 b)).ext (up_U64 _)
  intro i hi
  rw [Nat.testBit_or, up_bit, up_bit, up_bit, ← Bool.decide_or]
  apply decide_eq_decide.2
  omega

/-- How many of the first k are in it. -/
theorem cs_lens (p q : Nat → Bool) (k : Nat) (hk : k ≤ 64) (h : ∀ i, i < k → p i = q i) : (cs p k).length = (cs q k).length := by
  induction k with
  | zero => rfl
  | succ k ih => rw [cs_succ p k (by omega), cs_succ q k (by omega), List.length_append, List.length_append, ih (by omega) (fun i hi => h i (by omega)), h k (by omega)]
theorem cs_up (n : Nat) (k : Nat) (hk : k ≤ 64) : (cs (fun i => decide (i < n)) k).length = min n k := by
  induction k with
  | zero => simp [cs_zero]
  | succ k ih =>
    rw [cs_succ _ k (by omega), List.length_append, ih (by omega)]
    by_cases h : k < n
    · rw [decide_eq_true h, if_pos rfl, List.length_singleton]; omega
    · rw [decide_eq_false h, if_neg (by decide), List.length_nil]; omega
theorem al_up (n : Int) : (al (up n)).length = hu n := by
  unfold al
  rw [cs_lens _ (fun i => decide (i < hu n)) 64 (Nat.le_refl _), cs_up _ 64 (Nat.le_refl _)]
  · have := hu_le n; omega
  · intro i hi
    rw [isIn_nat _ i hi, up_bit]
    apply decide_eq_decide.2
    unfold hu
    omega
/-- A set with a core more has one more. -/
theorem cs_one (p : Nat → Bool) (c : Nat) (k : Nat) (hk : k ≤ 64) : (cs (fun i => p i || decide (i = c)) k).length = (cs (fun i => p i && !decide (i = c)) k).length + (if c < k then 1 else 0) := by
  induction k with
  | zero => rfl
  | succ k ih =>
    rw [cs_succ _ k (by omega), cs_succ _ k (by omega), List.length_append, List.length_append, ih (by omega)]
    by_cases h : k = c
    · subst h
      simp
    · rw [decide_eq_false h, Bool.or_false, Bool.not_false, Bool.and_true]
      split <;> split <;> split <;> simp <;> omega

/-- A core. -/
def Cor (c : Int) : Prop := 0 ≤ c ∧ c < 64
theorem isIn_ext {s u : Nat} (hs : U64 s) (hu : U64 u) (h : ∀ i, i < 64 → s.testBit i = u.testBit i) : s = u := hs.ext hu h
theorem isIn_wth (s : Nat) (a b : Int) : isIn (wth s a) b = (isIn s b || decide (0 ≤ a ∧ a < 64 ∧ b = a)) := by
  by_cases hb : 0 ≤ b ∧ b < 64
  · obtain ⟨j, rfl⟩ : ∃ j : Nat, b = (j : Int) := ⟨b.toNat, by omega⟩
    rw [isIn_nat _ j (by omega), isIn_nat _ j (by omega), wth_bit]
  · rw [isIn_out _ _ hb, isIn_out _ _ hb, decide_eq_false (by omega)]
    rfl
theorem isIn_wot (s : Nat) (a b : Int) : isIn (wot s a) b = (isIn s b && !decide (0 ≤ a ∧ a < 64 ∧ b = a)) := by
  by_cases hb : 0 ≤ b ∧ b < 64
  · obtain ⟨j, rfl⟩ : ∃ j : Nat, b = (j : Int) := ⟨b.toNat, by omega⟩
    rw [isIn_nat _ j (by omega), isIn_nat _ j (by omega), wot_bit _ _ _ (by omega)]
  · rw [isIn_out _ _ hb, isIn_out _ _ hb, decide_eq_false (by omega)]
    rfl
theorem wth_twice (s : Nat) (a : Int) : wth (wth s a) a = wth s a := by unfold wth; rw [Nat.or_assoc, Nat.or_self]
theorem wth_comm (s : Nat) (a b : Int) : wth (wth s a) b = wth (wth s b) a := by unfold wth; rw [Nat.or_assoc, Nat.or_comm (onl a), ← Nat.or_assoc]
theorem wot_twice (s : Nat) (a : Int) : wot (wot s a) a = wot s a := by unfold wot; rw [Nat.and_assoc, Nat.and_self]
theorem wth_wot {s : Nat} (hs : U64 s) (a : Int) : wth (wot s a) a = wth s a := by
  apply (wth_U64 (wot_U64 hs a) a).ext (wth_U64 hs a)
  intro i hi
  rw [wth_bit, wth_bit, wot_bit _ _ _ hi]
  cases decide (0 ≤ a ∧ a < 64 ∧ (i : Int) = a) <;> simp
theorem wot_wth {s : Nat} (hs : U64 s) (a : Int) : wot (wth s a) a = wot s a := by
  apply (wot_U64 (wth_U64 hs a) a).ext (wot_U64 hs a)
  intro i hi
  rw [wot_bit _ _ _ hi, wot_bit _ _ _ hi, wth_bit]
  cases decide (0 ≤ a ∧ a < 64 ∧ (i : Int) = a) <;> simp
theorem al_len (s : Nat) : (al s).length ≤ 64 := cs_len _ _
theorem al_one (s : Nat) (a : Int) (h : 0 ≤ a ∧ a < 64) : (al (wth s a)).length = (al (wot s a)).length + 1 := by
  obtain ⟨j, rfl⟩ : ∃ j : Nat, a = (j : Int) := ⟨a.toNat, by omega⟩
  have h1 := cs_one (fun i => isIn s (i : Int)) j 64 (Nat.le_refl _)
  rw [if_pos (by omega)] at h1
  have h2 : (al (wth s (j : Int))).length = (cs (fun i => isIn s (i : Int) || decide (i = j)) 64).length := cs_lens _ _ 64 (Nat.le_refl _) fun i hi => by
    rw [isIn_wth]
    congr 1
    apply decide_eq_decide.2
    omega
  have h3 : (al (wot s (j : Int))).length = (cs (fun i => isIn s (i : Int) && !decide (i = j)) 64).length := cs_lens _ _ 64 (Nat.le_refl _) fun i hi => by
    rw [isIn_wot]
    congr 2
    apply decide_eq_decide.2
    omega
  rw [h2, h3, h1]
theorem onl_none {a : Int} (h : ¬ (0 ≤ a ∧ a < 64)) : onl a = 0 := by unfold onl; rw [if_neg h]
theorem wth_none (s : Nat) {a : Int} (h : ¬ (0 ≤ a ∧ a < 64)) : wth s a = s := by unfold wth; rw [onl_none h, Nat.or_zero]
theorem wot_none {s : Nat} (hs : U64 s) {a : Int} (h : ¬ (0 ≤ a ∧ a < 64)) : wot s a = s := by
  apply (wot_U64 hs a).ext hs
  intro i hi
  rw [wot_bit _ _ _ hi, decide_eq_false (by omega)]
  simp
end Go.Proofs.YtjmnclneopofhaaDoor
