/-
  Floats that hold whole numbers below 2^53 either way: nothing is rounded. Nothing of a program is named here. 'fl n': the word of n. 'Whl x n': the word x stands for n (either zero for 0).
-/
import Derived.Laws.ComplexArith
namespace Go.Proofs.Ytpbnmfoecmhnnaa
open Ieee

/-- The word of a whole number. -/
def fl (n : Int) : Nat := floatOfInt .f64 n
/-- A whole number that a float holds exactly. -/
def F53 (n : Int) : Prop := -9007199254740992 < n ∧ n < 9007199254740992

theorem log2_mul_pow {x k : Nat} (h : x ≠ 0) : (x * 2 ^ k).log2 = x.log2 + k := by
  refine (Nat.log2_eq_iff (Nat.mul_ne_zero h (by have := Nat.two_pow_pos k; omega))).2 ⟨?_, ?_⟩
  · rw [Nat.pow_add]; exact Nat.mul_le_mul_right _ (Nat.log2_self_le h)
  · rw [show x.log2 + k + 1 = (x.log2 + 1) + k by omega, Nat.pow_add]
    exact Nat.mul_lt_mul_of_pos_right Nat.lt_log2_self (Nat.two_pow_pos k)

theorem lp : double.leastPlace = -1074 := by decide
theorem cut_even (neg : Bool) (n k d : Nat) (hd : d ≤ k) (h : n ≠ 0) : Toward.even.cut neg (n * 2 ^ k) d = n * 2 ^ (k - d) := by
  have hg : min d ((n * 2 ^ k).log2 + 2) = d := by rw [log2_mul_pow h]; omega
  have e : n * 2 ^ k = n * 2 ^ (k - d) * 2 ^ d := by rw [Nat.mul_assoc, ← Nat.pow_add, show k - d + d = k by omega]
  unfold Toward.cut
  rw [hg]
  simp only [Nat.one_shiftLeft]
  rw [e, Nat.mul_div_cancel _ (Nat.two_pow_pos d), Nat.mul_mod_left]
  have := Nat.two_pow_pos d
  simp

/-- The rung of a whole number. -/
def rg (x : Nat) : Nat := (x.log2 + 1022) * 2 ^ 52 + x * 2 ^ (52 - x.log2)
theorem kept_bd {x : Nat} (h : x ≠ 0) (hx : x < 2 ^ 53) : 2 ^ 52 ≤ x * 2 ^ (52 - x.log2) ∧ x * 2 ^ (52 - x.log2) < 2 ^ 53 := by
  have hl : x.log2 < 53 := (Nat.log2_lt h).2 hx
  constructor
  · calc 2 ^ 52 = 2 ^ x.log2 * 2 ^ (52 - x.log2) := by rw [← Nat.pow_add]; congr 1; omega
      _ ≤ _ := Nat.mul_le_mul_right _ (Nat.log2_self_le h)
  · calc x * 2 ^ (52 - x.log2) < 2 ^ (x.log2 + 1) * 2 ^ (52 - x.log2) := Nat.mul_lt_mul_of_pos_right Nat.lt_log2_self (Nat.two_pow_pos _)
      _ = 2 ^ 53 := by rw [← Nat.pow_add]; congr 1; omega

theorem nearest_whole (neg : Bool) (x k : Nat) (h : x ≠ 0) (hx : x < 2 ^ 53) : double.nearest neg (x * 2 ^ k) (-(k : Int)) = double.word neg (rg x) := by
  have hl : x.log2 < 53 := (Nat.log2_lt h).2 hx
  have hp : x * 2 ^ k ≠ 0 := Nat.mul_ne_zero h (by have := Nat.two_pow_pos k; omega)
  have hb := kept_bd h hx
  unfold Format.nearest
  rw [if_neg hp]
  simp only [log2_mul_pow h, lp]
  have hlast : max (-(k : Int) + ((x.log2 + k : Nat) : Int) - (double.fractionBits : Int)) (-1074) = (x.log2 : Int) - 52 := by
    show max (-(k : Int) + ((x.log2 + k : Nat) : Int) - ((52 : Nat) : Int)) (-1074) = _
    omega
  rw [hlast]
  have hkept : Toward.even.cut neg ((x * 2 ^ k) <<< (-(k : Int) - ((x.log2 : Int) - 52)).toNat) (((x.log2 : Int) - 52) - -(k : Int)).toNat = x * 2 ^ (52 - x.log2) := by
    by_cases hk : k ≤ 52 - x.log2
    · have e1 : (-(k : Int) - ((x.log2 : Int) - 52)).toNat = 52 - x.log2 - k := by omega
      have e2 : (((x.log2 : Int) - 52) - -(k : Int)).toNat = 0 := by omega
      rw [e1, e2, Nat.shiftLeft_eq, Nat.mul_assoc, ← Nat.pow_add, cut_even _ _ _ _ (Nat.zero_le _) h]
      congr 2
      omega
    · have e1 : (-(k : Int) - ((x.log2 : Int) - 52)).toNat = 0 := by omega
      have e2 : (((x.log2 : Int) - 52) - -(k : Int)).toNat = k - (52 - x.log2) := by omega
      rw [e1, e2, Nat.shiftLeft_zero, cut_even _ _ _ _ (by omega) h]
      congr 2
      omega
  rw [hkept]
  have hr : ((x.log2 : Int) - 52 - -1074).toNat * double.binade + x * 2 ^ (52 - x.log2) = rg x := by
    rw [show ((x.log2 : Int) - 52 - -1074).toNat = x.log2 + 1022 by omega]
    rfl
  rw [hr]
  congr 1
  have : rg x ≤ double.infRung := by
    rw [show double.infRung = 2047 * 2 ^ 52 by decide]
    unfold rg
    omega
  omega

theorem read_word (neg : Bool) (x : Nat) (h : x ≠ 0) (hx : x < 2 ^ 53) : double.read (double.word neg (rg x)) = .number neg (x * 2 ^ (52 - x.log2)) ((x.log2 : Int) - 52) := by
  have hl : x.log2 < 53 := (Nat.log2_lt h).2 hx
  have hb := kept_bd h hx
  have hr : rg x < double.signWeight := by
    rw [show double.signWeight = 2048 * 2 ^ 52 by decide]
    unfold rg
    omega
  have e1 : (double.word neg (rg x) / double.signWeight % 2 == 1) = neg := by
    unfold Format.word
    cases neg
    · simp [Nat.div_eq_of_lt hr]
    · have : 0 < double.signWeight := by decide
      simp [Nat.add_div_left _ this, Nat.div_eq_of_lt hr]
  have e2 : double.word neg (rg x) % double.signWeight = rg x := by
    unfold Format.word
    cases neg
    · simp [Nat.mod_eq_of_lt hr]
    · simp [Nat.mod_eq_of_lt hr]
  unfold Format.read
  simp only [e1, e2, lp]
  have b : double.binade = 2 ^ 52 := rfl
  have i : double.infRung = 2047 * 2 ^ 52 := by decide
  obtain ⟨r, hr'⟩ : ∃ r, x * 2 ^ (52 - x.log2) = 2 ^ 52 + r := ⟨x * 2 ^ (52 - x.log2) - 2 ^ 52, by omega⟩
  have hrl : r < 2 ^ 52 := by omega
  have g : rg x = r + (x.log2 + 1023) * 2 ^ 52 := by unfold rg; omega
  have hm : rg x % 2 ^ 52 = r := by rw [g, Nat.add_mul_mod_self_right, Nat.mod_eq_of_lt hrl]
  have hd : rg x / 2 ^ 52 = x.log2 + 1023 := by rw [g, Nat.add_mul_div_right _ _ (Nat.two_pow_pos 52), Nat.div_eq_of_lt hrl]; omega
  have hpl : (-1074 : Int) + ((x.log2 + 1023 - 1 : Nat) : Int) = (x.log2 : Int) - 52 := by omega
  rw [b, i, if_neg (by omega), if_pos (by omega), hm, hd, hr', hpl]

/-- A datum that stands for a whole number. -/
def Dat (d : Datum) (n : Int) : Prop := ∃ (s : Bool) (m k : Nat), d = .number s m (-(k : Int)) ∧ (if s then -(m : Int) else m) = n * 2 ^ k ∧ (n = 0 → s = false)
/-- The same, either zero for 0. -/
def Dat0 (d : Datum) (n : Int) : Prop := ∃ (s : Bool) (m k : Nat), d = .number s m (-(k : Int)) ∧ (if s then -(m : Int) else m) = n * 2 ^ k
theorem Dat.zero {d : Datum} {n : Int} (h : Dat d n) : Dat0 d n := by
  obtain ⟨s, m, k, h1, h2, _⟩ := h
  exact ⟨s, m, k, h1, h2⟩
theorem Dat0.opposite {d : Datum} {n : Int} (h : Dat0 d n) : Dat0 d.opposite (-n) := by
  obtain ⟨s, m, k, rfl, h2⟩ := h
  refine ⟨!s, m, k, rfl, ?_⟩
  rw [Int.neg_mul, ← h2]
  cases s <;> simp

theorem pow_pos' (k : Nat) : (0 : Int) < 2 ^ k := Int.pow_pos (by omega)

theorem near_zero (s : Bool) (p : Int) : double.nearest s 0 p = double.word s 0 := by
  unfold Format.nearest
  rw [if_pos rfl]

theorem write_num (s : Bool) (m k : Nat) (n : Int) (hn : F53 n) (h : (if s then -(m : Int) else m) = n * 2 ^ k) (hs : n = 0 → s = false) : double.write (.number s m (-(k : Int))) = fl n := by
  have hp := pow_pos' k
  have hw : fl n = double.nearest (decide (n < 0)) n.natAbs (-((0 : Nat) : Int)) := rfl
  by_cases h0 : n = 0
  · subst h0
    have hs' := hs rfl
    subst hs'
    have : m = 0 := by simpa using h
    subst this
    rw [hw]
    exact (near_zero _ _).trans (near_zero _ _).symm
  · have hx0 : n.natAbs ≠ 0 := by omega
    have hx : n.natAbs < 2 ^ 53 := by unfold F53 at hn; omega
    have hsd : s = decide (n < 0) := by
      rcases Int.lt_or_gt_of_ne h0 with hlt | hgt
      · have : n * 2 ^ k < 0 := Int.mul_neg_of_neg_of_pos hlt hp
        cases s
        · simp at h; omega
        · simp [hlt]
      · have : 0 < n * 2 ^ k := Int.mul_pos hgt hp
        cases s
        · simp; omega
        · simp at h; omega
    have hm : m = n.natAbs * 2 ^ k := by
      have : (m : Int).natAbs = (n * 2 ^ k).natAbs := by
        rw [← h]; cases s <;> simp
      rw [Int.natAbs_mul, Int.natAbs_pow] at this
      simpa using this
    subst hm
    have h1 := nearest_whole s n.natAbs k hx0 hx
    have h2 := nearest_whole (decide (n < 0)) n.natAbs 0 hx0 hx
    rw [Nat.pow_zero, Nat.mul_one] at h2
    rw [hw, h2, ← hsd]
    exact h1

theorem fl_dat {n : Int} (hn : F53 n) : Dat (double.read (fl n)) n := by
  by_cases h0 : n = 0
  · subst h0
    exact ⟨false, 0, 1074, by decide, by rw [Int.zero_mul]; rfl, fun _ => rfl⟩
  · have hx0 : n.natAbs ≠ 0 := by omega
    have hx : n.natAbs < 2 ^ 53 := by unfold F53 at hn; omega
    have hl : n.natAbs.log2 < 53 := (Nat.log2_lt hx0).2 hx
    have hw : fl n = double.nearest (decide (n < 0)) n.natAbs (-((0 : Nat) : Int)) := rfl
    have h2 := nearest_whole (decide (n < 0)) n.natAbs 0 hx0 hx
    rw [Nat.pow_zero, Nat.mul_one] at h2
    refine ⟨decide (n < 0), n.natAbs * 2 ^ (52 - n.natAbs.log2), 52 - n.natAbs.log2, ?_, ?_, fun h => (h0 h).elim⟩
    · rw [hw, h2, read_word _ _ hx0 hx]
      congr 1
      omega
    · have e : ((n.natAbs * 2 ^ (52 - n.natAbs.log2) : Nat) : Int) = (n.natAbs : Int) * 2 ^ (52 - n.natAbs.log2) := by simp
      rw [e]
      by_cases hlt : n < 0
      · rw [if_pos (by simpa using hlt), ← Int.neg_mul, show -(n.natAbs : Int) = n by omega]
      · rw [if_neg (by simpa using hlt), show (n.natAbs : Int) = n by omega]

theorem signed_eq {s : Bool} {m k K : Nat} {n : Int} (h : (if s then -(m : Int) else m) = n * 2 ^ k) (hk : k ≤ K) : signed s m (K - k) = n * 2 ^ K := by
  have e : n * 2 ^ K = n * 2 ^ k * 2 ^ (K - k) := by rw [Int.mul_assoc, ← Int.pow_add, show k + (K - k) = K by omega]
  rw [e, ← h]
  unfold signed
  cases s <;> simp [Nat.shiftLeft_eq, Int.neg_mul]

theorem base_eq {k j : Nat} : min (-(k : Int)) (-(j : Int)) = -((max k j : Nat) : Int) ∧ (-(k : Int) - -((max k j : Nat) : Int)).toNat = max k j - k ∧ (-(j : Int) - -((max k j : Nat) : Int)).toNat = max k j - j := by omega

theorem dat_sum {d e : Datum} {a b : Int} (h : Dat d a) (k : Dat0 e b) (hf : F53 (a + b)) : (d.sum e).map double.write = some (fl (a + b)) := by
  obtain ⟨s, m, i, rfl, h1, h2⟩ := h
  obtain ⟨t, n, j, rfl, k1⟩ := k
  unfold Datum.sum
  simp only [base_eq.1, base_eq.2.1, base_eq.2.2, Option.map_some]
  rw [signed_eq h1 (Nat.le_max_left i j), signed_eq k1 (Nat.le_max_right i j), ← Int.add_mul]
  have hp := pow_pos' (max i j)
  congr 1
  refine write_num _ _ _ _ hf ?_ ?_
  · by_cases h0 : (a + b) * 2 ^ max i j = 0
    · rw [h0]; simp
    · rw [if_neg h0]
      by_cases hlt : (a + b) * 2 ^ max i j < 0
      · rw [if_pos (by simpa using hlt)]; omega
      · rw [if_neg (by simpa using hlt)]; omega
  · intro h0
    rw [h0, Int.zero_mul, if_pos rfl]
    by_cases ha : a = 0
    · rw [h2 ha]; rfl
    · have hi := pow_pos' i
      have hj := pow_pos' j
      rcases Int.lt_or_gt_of_ne ha with hlt | hgt
      · have hb : 0 < b := by omega
        have : 0 < b * 2 ^ j := Int.mul_pos hb hj
        cases t
        · simp
        · simp at k1; omega
      · have : 0 < a * 2 ^ i := Int.mul_pos hgt hi
        cases s
        · simp
        · simp at h1; omega

theorem dat_order {d e : Datum} {a b : Int} (h : Dat0 d a) (k : Dat0 e b) : d.order e = some (compare a b) := by
  obtain ⟨s, m, i, rfl, h1⟩ := h
  obtain ⟨t, n, j, rfl, k1⟩ := k
  unfold Datum.order
  simp only [base_eq.1, base_eq.2.1, base_eq.2.2]
  rw [signed_eq h1 (Nat.le_max_left i j), signed_eq k1 (Nat.le_max_right i j)]
  have hp := pow_pos' (max i j)
  congr 1
  rcases Int.lt_trichotomy a b with hab | hab | hab
  · rw [Int.compare_eq_lt.2 hab, Int.compare_eq_lt.2 (Int.mul_lt_mul_of_pos_right hab hp)]
  · rw [hab, Int.compare_eq_eq.2 rfl, Int.compare_eq_eq.2 rfl]
  · rw [Int.compare_eq_gt.2 hab, Int.compare_eq_gt.2 (Int.mul_lt_mul_of_pos_right hab hp)]

theorem cut_zero (neg : Bool) (x k : Nat) : Toward.zero.cut neg (x * 2 ^ k) k = x := by
  unfold Toward.cut
  simp only [Nat.one_shiftLeft]
  by_cases h : x = 0
  · subst h; simp
  · have hg : min k ((x * 2 ^ k).log2 + 2) = k := by rw [log2_mul_pow h]; omega
    rw [hg, Nat.mul_div_cancel _ (Nat.two_pow_pos k)]
    simp

theorem dat_int {d : Datum} {n : Int} (h : Dat0 d n) : d.toInt .zero = some n := by
  obtain ⟨s, m, k, rfl, h1⟩ := h
  have hm : m = n.natAbs * 2 ^ k := by
    have : (m : Int).natAbs = (n * 2 ^ k).natAbs := by
      rw [← h1]; cases s <;> simp
    rw [Int.natAbs_mul, Int.natAbs_pow] at this
    simpa using this
  subst hm
  unfold Datum.toInt Datum.integral
  have e1 : (-(k : Int)).toNat = 0 := by omega
  have e2 : (- -(k : Int)).toNat = k := by omega
  simp only [e1, e2, Nat.shiftLeft_zero, cut_zero]
  congr 1
  have hp := pow_pos' k
  have e : ((n.natAbs * 2 ^ k : Nat) : Int) = (n.natAbs : Int) * 2 ^ k := by simp
  rw [e] at h1
  have := signed_eq (s := s) (m := n.natAbs) (k := 0) (K := 0) (n := n) (by
    rw [Int.pow_zero, Int.mul_one]
    cases s
    · simp at h1 ⊢
      exact Int.eq_of_mul_eq_mul_right (Int.ne_of_gt hp) h1
    · simp at h1 ⊢
      rw [← Int.neg_mul] at h1
      exact Int.eq_of_mul_eq_mul_right (Int.ne_of_gt hp) h1) (Nat.le_refl _)
  simpa using this

theorem dat_mul {d e : Datum} {a b : Int} (h : Dat0 d a) (k : Dat0 e b) (hf : F53 (a * b)) : ∃ r, (d.product e).map double.write = some r ∧ Dat0 (double.read r) (a * b) := by
  obtain ⟨s, m, i, rfl, h1⟩ := h
  obtain ⟨t, n, j, rfl, k1⟩ := k
  unfold Datum.product
  refine ⟨_, rfl, ?_⟩
  have e : (-(i : Int)) + -(j : Int) = -((i + j : Nat) : Int) := by omega
  rw [e]
  have hv : (if (s ^^ t) then -((m * n : Nat) : Int) else ((m * n : Nat) : Int)) = a * b * 2 ^ (i + j) := by
    rw [Int.pow_add, show a * b * (2 ^ i * 2 ^ j) = (a * 2 ^ i) * (b * 2 ^ j) by ac_rfl, ← h1, ← k1]
    cases s <;> cases t <;> simp [Int.neg_mul, Int.mul_neg]
  by_cases h0 : a * b = 0
  · rw [h0, Int.zero_mul] at hv
    have hz : m * n = 0 := by
      generalize m * n = q at hv
      split at hv <;> omega
    rw [hz, h0]
    have hw : double.write (.number (s ^^ t) 0 (-((i + j : Nat) : Int))) = double.word (s ^^ t) 0 := near_zero _ _
    rw [hw]
    cases (s ^^ t)
    · exact ⟨false, 0, 1074, by decide, by rw [Int.zero_mul]; rfl⟩
    · exact ⟨true, 0, 1074, by decide, by rw [Int.zero_mul]; rfl⟩
  · rw [write_num _ _ _ (a * b) hf hv (fun h => (h0 h).elim)]
    exact (fl_dat hf).zero

/-- A word that stands for a whole number. -/
def Whl (x : Nat) (n : Int) : Prop := Dat0 (double.read x) n
theorem fl_whl {n : Int} (h : F53 n) : Whl (fl n) n := (fl_dat h).zero
theorem fl_add {a b : Int} {y : Nat} (ha : F53 a) (hy : Whl y b) (h : F53 (a + b)) : double.add (fl a) y = some (fl (a + b)) := dat_sum (fl_dat ha) hy h
theorem fl_sub {a b : Int} (ha : F53 a) (hb : F53 b) (h : F53 (a - b)) : double.sub (fl a) (fl b) = some (fl (a - b)) := dat_sum (fl_dat ha) (fl_whl hb).opposite h
theorem fl_mul {a b : Int} (ha : F53 a) (hb : F53 b) (h : F53 (a * b)) : ∃ r, double.mul (fl a) (fl b) = some r ∧ Whl r (a * b) := dat_mul (fl_whl ha) (fl_whl hb) h
theorem fl_eq {a b : Int} (ha : F53 a) (hb : F53 b) : (double.order (fl a) (fl b) == some .eq) = (a == b) := by
  have h : double.order (fl a) (fl b) = some (compare a b) := dat_order (fl_whl ha) (fl_whl hb)
  rw [h]
  by_cases e : a = b
  · subst e; rw [Int.compare_eq_eq.2 rfl, beq_self_eq_true, beq_self_eq_true]
  · have h1 : compare a b ≠ .eq := fun h => e (Int.compare_eq_eq.1 h)
    rw [beq_eq_false_iff_ne.2 e]
    exact beq_eq_false_iff_ne.2 (fun h => h1 (Option.some.inj h))
theorem fl_int {n : Int} (h : F53 n) : floatToIntVal .f64 (fl n) .i64 = some n := by
  have h1 : (FloatKind.f64.decode (fl n)).toInt .zero = some n := dat_int (fl_whl h)
  unfold floatToIntVal
  rw [h1]
  unfold F53 at h
  have h2 : IntKind.i64.min ≤ n ∧ n ≤ IntKind.i64.max := by
    show (-9223372036854775808 : Int) ≤ n ∧ n ≤ 9223372036854775807
    omega
  simp only [h2, and_self, if_true]
theorem fl_zero : fl 0 = 0 := by decide

theorem fl_cadd {a b c d : Int} {x y : Nat} (ha : F53 a) (hb : F53 b) (hx : Whl x c) (hy : Whl y d) (h1 : F53 (a + c)) (h2 : F53 (b + d)) : cSumBits .add .f64 (fl a) (fl b) x y = some (fl (a + c), fl (b + d)) := by
  have e1 : floatBits .add .f64 (fl a) x = some (fl (a + c)) := fl_add ha hx h1
  have e2 : floatBits .add .f64 (fl b) y = some (fl (b + d)) := fl_add hb hy h2
  simp [cSumBits, e1, e2]
theorem fl_csub {a b c d : Int} (ha : F53 a) (hb : F53 b) (hc : F53 c) (hd : F53 d) (h1 : F53 (a - c)) (h2 : F53 (b - d)) : cSumBits .sub .f64 (fl a) (fl b) (fl c) (fl d) = some (fl (a - c), fl (b - d)) := by
  have e1 : floatBits .sub .f64 (fl a) (fl c) = some (fl (a - c)) := fl_sub ha hc h1
  have e2 : floatBits .sub .f64 (fl b) (fl d) = some (fl (b - d)) := fl_sub hb hd h2
  simp [cSumBits, e1, e2]

end Go.Proofs.Ytpbnmfoecmhnnaa
