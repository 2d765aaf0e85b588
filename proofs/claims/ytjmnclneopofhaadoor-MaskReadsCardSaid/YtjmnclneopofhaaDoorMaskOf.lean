/-
  The set of a list of numbers, as the document reckons it: plain facts, nothing of a program is named here.
-/
import Derived.Test.YtjmnclneopofhaaDoorMaskD
import Derived.Test.YtjmnclneopofhaaDoorMaskLen
import Derived.Test.YtjmnclneopofhaaDoorMaskTxt
namespace Go.Proofs.YtjmnclneopofhaaDoor

/-- Of the k highest cores. -/
def so (l : List Int) : Nat → Nat
  | 0 => 0
  | k + 1 => 2 * so l k + (if (63 - k : Int) ∈ l then 1 else 0)
def ofl (l : List Int) : Nat := so l 64
theorem so_lt (l : List Int) (k : Nat) : so l k < 2 ^ k := by
  induction k with
  | zero => exact Nat.one_pos
  | succ k ih =>
    show 2 * so l k + _ < _
    rw [Nat.pow_succ]
    split <;> omega
theorem so_small (l : List Int) (k : Nat) (hk : k ≤ 63) : so l k < 9223372036854775808 := Nat.lt_of_lt_of_le (so_lt l k) (by
  rw [show (9223372036854775808 : Nat) = 2 ^ 63 from rfl]
  exact Nat.pow_le_pow_right (by decide) hk)
theorem ofl_U64 (l : List Int) : U64 (ofl l) := so_lt l 64
theorem so_bit (l : List Int) (k : Nat) (hk : k ≤ 64) : ∀ j, (so l k).testBit j = decide (j < k ∧ ((64 - k + j : Nat) : Int) ∈ l) := by
  induction k with
  | zero => intro j; rw [show so l 0 = 0 from rfl, Nat.zero_testBit]; exact (decide_eq_false (by omega)).symm
  | succ k ih =>
    intro j
    have hs : so l (k + 1) = 2 * so l k + (if (63 - k : Int) ∈ l then 1 else 0) := rfl
    rw [hs]
    cases j with
    | zero =>
      rw [Nat.testBit_zero, show ((64 - (k + 1) + 0 : Nat) : Int) = 63 - (k : Int) by omega]
      by_cases hm : (63 - k : Int) ∈ l
      · rw [if_pos hm]
        apply decide_eq_decide.2
        exact ⟨fun _ => ⟨by omega, hm⟩, fun _ => by omega⟩
      · rw [if_neg hm]
        apply decide_eq_decide.2
        exact ⟨fun h => by omega, fun h => absurd h.2 hm⟩
    | succ j =>
      rw [Nat.testBit_succ, show (2 * so l k + (if (63 - k : Int) ∈ l then 1 else 0)) / 2 = so l k by split <;> omega, ih (by omega), show 64 - (k + 1) + (j + 1) = 64 - k + j by omega]
      apply decide_eq_decide.2
      exact ⟨fun h => ⟨by omega, h.2⟩, fun h => ⟨by omega, h.2⟩⟩
theorem ofl_bit (l : List Int) (j : Nat) (hj : j < 64) : (ofl l).testBit j = decide ((j : Int) ∈ l) := by
  unfold ofl
  rw [so_bit l 64 (Nat.le_refl _), show 64 - 64 + j = j by omega]
  apply decide_eq_decide.2
  exact ⟨fun h => h.2, fun h => ⟨hj, h⟩⟩

theorem mem_nums (l : List (Fin 64)) (j : Nat) (hj : j < 64) : (j : Int) ∈ nums l ↔ (⟨j, hj⟩ : Fin 64) ∈ l := by
  unfold nums
  rw [List.mem_map]
  constructor
  · rintro ⟨i, hi, he⟩
    have : i = ⟨j, hj⟩ := Fin.ext (Int.ofNat.inj he)
    rw [← this]
    exact hi
  · exact fun h => ⟨_, h, rfl⟩
theorem mem_al (s j : Nat) (hj : j < 64) : (j : Int) ∈ nums (al s) ↔ s.testBit j = true := by
  rw [mem_nums _ j hj]
  unfold al
  rw [cs_mem _ _ _ (Nat.le_refl _), isIn_nat s j hj]
  exact ⟨fun h => h.2, fun h => ⟨hj, h⟩⟩
/-- The first numbers. -/
def upl (k : Nat) : List Int := (List.range k).map fun (i : Nat) => (i : Int)
theorem upl_succ (k : Nat) : upl (k + 1) = upl k ++ [(k : Int)] := by
  unfold upl
  rw [List.range_succ, List.map_append]
  rfl
theorem upl_len (k : Nat) : (upl k).length = k := by unfold upl; rw [List.length_map, List.length_range]
theorem ofl_up (n : Int) : ofl (upl (hu n)) = up n := by
  apply (ofl_U64 _).ext (up_U64 _)
  intro j hj
  rw [ofl_bit _ j hj, up_bit]
  apply decide_eq_decide.2
  unfold upl
  rw [List.mem_map]
  constructor
  · rintro ⟨i, hi, he⟩
    have h1 := List.mem_range.1 hi
    unfold hu at h1
    omega
  · rintro ⟨_, h⟩
    have h1 : j < hu n := by unfold hu; omega
    exact ⟨j, List.mem_range.2 h1, rfl⟩
/-- All but a core. -/
def but (l : List Int) (c : Int) : List Int := l.filter fun x => x != c
theorem but_snoc (l : List Int) (c x : Int) : but (l ++ [x]) c = but l c ++ (if x = c then [] else [x]) := by
  unfold but
  rw [List.filter_append]
  congr 1
  by_cases h : x = c
  · subst h; simp
  · rw [if_neg h]; simp [h]
theorem but_len (l : List Int) (c : Int) : (but l c).length ≤ l.length := List.length_filter_le _ _
theorem ofl_wot {s : Nat} (hs : U64 s) (c : Int) : ofl (but (nums (al s)) c) = wot s c := by
  apply (ofl_U64 _).ext (wot_U64 hs c)
  intro j hj
  rw [ofl_bit _ j hj, wot_bit _ _ _ hj]
  apply Bool.eq_iff_iff.2
  unfold but
  rw [decide_eq_true_eq, List.mem_filter, mem_al s j hj, Bool.and_eq_true, Bool.not_eq_true', decide_eq_false_iff_not, bne_iff_ne]
  constructor
  · exact fun h => ⟨h.1, fun h' => h.2 h'.2.2⟩
  · exact fun h => ⟨h.1, fun h' => h.2 (by omega)⟩
theorem ofl_wth {s : Nat} (hs : U64 s) (c : Int) : ofl (but (nums (al s)) c ++ [c]) = wth s c := by
  apply (ofl_U64 _).ext (wth_U64 hs c)
  intro j hj
  rw [ofl_bit _ j hj, wth_bit]
  apply Bool.eq_iff_iff.2
  unfold but
  rw [decide_eq_true_eq, List.mem_append, List.mem_filter, mem_al s j hj, Bool.or_eq_true, decide_eq_true_eq, bne_iff_ne, List.mem_singleton]
  constructor
  · rintro (h | h)
    · exact .inl h.1
    · exact .inr (by omega)
  · rintro (h | h)
    · by_cases he : (j : Int) = c
      · exact .inr he
      · exact .inl ⟨h, he⟩
    · exact .inr h.2.2
end Go.Proofs.YtjmnclneopofhaaDoor
