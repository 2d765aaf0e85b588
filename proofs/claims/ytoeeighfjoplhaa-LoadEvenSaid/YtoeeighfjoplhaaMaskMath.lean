/-
  Sets of cores as numbers: plain facts, nothing of a program is named here.
-/
import Derived.Test.YtoeeighfjoplhaaWords
import Derived.Laws.Bits64
import Derived.Laws.BitsAllLaws
namespace Go.Proofs.Ytoeeighfjoplhaa

/-- A number of 64 bits. -/
def U64 (s : Nat) : Prop := s < 18446744073709551616

/-- Whether a core is in a set. -/
def isIn (s : Nat) (c : Int) : Bool := decide (0 ≤ c ∧ c < 64) && s.testBit c.toNat
/-- The set of one core. -/
def onl (c : Int) : Nat := if 0 ≤ c ∧ c < 64 then 2 ^ c.toNat else 0
def wth (s : Nat) (c : Int) : Nat := s ||| onl c
def wot (s : Nat) (c : Int) : Nat := s &&& (18446744073709551615 - onl c)
/-- n, held from 0 to 64. -/
def hu (n : Int) : Nat := (min (max n 0) 64).toNat
def up (n : Int) : Nat := 2 ^ hu n - 1
def cores (s : Nat) : List Nat := (List.range 64).filter fun i => s.testBit i

theorem U64.bit {s : Nat} (h : U64 s) {i : Nat} (hi : 64 ≤ i) : s.testBit i = false := Nat.testBit_lt_two_pow (Nat.lt_of_lt_of_le h (by
  have : (18446744073709551616 : Nat) = 2 ^ 64 := rfl
  rw [this]
  exact Nat.pow_le_pow_right (by decide) hi))
theorem U64.ext {s t : Nat} (hs : U64 s) (ht : U64 t) (h : ∀ i, i < 64 → s.testBit i = t.testBit i) : s = t := Nat.eq_of_testBit_eq fun i => by
  rcases Nat.lt_or_ge i 64 with hi | hi
  · exact h i hi
  · rw [hs.bit hi, ht.bit hi]
theorem U64.of {s : Nat} (h : ∀ i, 64 ≤ i → s.testBit i = false) : U64 s := by
  have : s < 2 ^ 64 := Nat.lt_pow_two_of_testBit s h
  exact this
theorem U64.zero : U64 0 := by unfold U64; omega
theorem U64.and {s t : Nat} (hs : U64 s) : U64 (s &&& t) := U64.of fun i hi => by rw [Nat.testBit_and, hs.bit hi, Bool.false_and]
theorem U64.or {s t : Nat} (hs : U64 s) (ht : U64 t) : U64 (s ||| t) := U64.of fun i hi => by rw [Nat.testBit_or, hs.bit hi, ht.bit hi, Bool.false_or]

theorem hu_le (n : Int) : hu n ≤ 64 := by unfold hu; omega
theorem onl_bit (c : Int) (i : Nat) : (onl c).testBit i = decide (0 ≤ c ∧ c < 64 ∧ (i : Int) = c) := by
  unfold onl
  split
  · rename_i h
    rw [Nat.testBit_two_pow]
    apply decide_eq_decide.2
    omega
  · rename_i h
    rw [Nat.zero_testBit]
    exact (decide_eq_false (by omega)).symm
theorem up_bit (n : Int) (i : Nat) : (up n).testBit i = decide (i < 64 ∧ (i : Int) < n) := by
  unfold up
  rw [Nat.testBit_two_pow_sub_one]
  apply decide_eq_decide.2
  unfold hu
  omega
theorem onl_U64 (c : Int) : U64 (onl c) := U64.of fun i hi => by rw [onl_bit]; exact decide_eq_false (by omega)
theorem up_U64 (n : Int) : U64 (up n) := U64.of fun i hi => by rw [up_bit]; exact decide_eq_false (by omega)
theorem wth_U64 {s : Nat} (hs : U64 s) (c : Int) : U64 (wth s c) := hs.or (onl_U64 c)
theorem wot_U64 {s : Nat} (hs : U64 s) (c : Int) : U64 (wot s c) := hs.and
theorem wth_bit (s : Nat) (c : Int) (i : Nat) : (wth s c).testBit i = (s.testBit i || decide (0 ≤ c ∧ c < 64 ∧ (i : Int) = c)) := by
  unfold wth
  rw [Nat.testBit_or, onl_bit]
theorem not_bit {t : Nat} (ht : U64 t) (i : Nat) (hi : i < 64) : (18446744073709551615 - t).testBit i = !t.testBit i := by
  have h : t < 2 ^ 64 := ht
  have := Nat.testBit_two_pow_sub_succ h i
  rw [show 2 ^ 64 - (t + 1) = 18446744073709551615 - t by omega] at this
  rw [this]
  simp [hi]
theorem wot_bit (s : Nat) (c : Int) (i : Nat) (hi : i < 64) : (wot s c).testBit i = (s.testBit i && !decide (0 ≤ c ∧ c < 64 ∧ (i : Int) = c)) := by
  unfold wot
  rw [Nat.testBit_and, not_bit (onl_U64 c) i hi, onl_bit]
theorem isIn_nat (s : Nat) (i : Nat) (hi : i < 64) : isIn s (i : Int) = s.testBit i := by
  unfold isIn
  rw [decide_eq_true (by omega), Bool.true_and, Int.toNat_natCast]
theorem isIn_out (s : Nat) (c : Int) (h : ¬ (0 ≤ c ∧ c < 64)) : isIn s c = false := by
  unfold isIn
  rw [decide_eq_false h, Bool.false_and]
theorem isIn_big {s : Nat} (hs : U64 s) (i : Nat) : isIn s (i : Int) = s.testBit i := by
  rcases Nat.lt_or_ge i 64 with hi | hi
  · exact isIn_nat s i hi
  · rw [isIn_out _ _ (by omega), hs.bit hi]

/-- What the walk asks of 'Has'. -/
theorem and_onl (s : Nat) (c : Int) : ((s &&& onl c : Nat) == 0) = !isIn s c := by
  unfold isIn onl
  split
  · rename_i h
    rw [decide_eq_true h, Bool.true_and]
    cases hb : s.testBit c.toNat with
    | true =>
      rw [Bool.not_true, beq_eq_false_iff_ne]
      intro h0
      have := congrArg (fun x => x.testBit c.toNat) h0
      simp [Nat.testBit_and, hb] at this
    | false =>
      rw [Bool.not_false, beq_iff_eq]
      apply Nat.eq_of_testBit_eq
      intro i
      rw [Nat.testBit_and, Nat.zero_testBit, Nat.testBit_two_pow]
      by_cases hi : c.toNat = i
      · subst hi; rw [hb]; rfl
      · rw [decide_eq_false hi, Bool.and_false]
  · rename_i h
    rw [decide_eq_false h, Bool.false_and, Nat.and_zero]
    rfl

theorem cores_mem (s i : Nat) : i ∈ cores s ↔ i < 64 ∧ s.testBit i = true := by
  unfold cores
  rw [List.mem_filter, List.mem_range]
theorem cores_len (s : Nat) : (cores s).length ≤ 64 := by
  have := List.length_filter_le (fun i => s.testBit i) (List.range 64)
  rw [List.length_range] at this
  exact this
theorem cores_rise (s : Nat) : (cores s).Pairwise (· < ·) := List.Pairwise.filter _ List.pairwise_lt_range

end Go.Proofs.Ytoeeighfjoplhaa
