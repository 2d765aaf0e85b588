/-
  Math Num: texts laid into one.
-/
import Derived.IntWalk
import Derived.Laws.BitsAllLaws

/-
  Plain facts on numbers and lists: nothing of Go is named here.
-/
namespace Go.Proofs.YtggmdgdgljlddaaGreatDoor

/-- A width as it is held. -/
def hw (x : Int) : Nat := if x < 1 then 1 else if 8 < x then 8 else x.toNat
theorem hw_bd (x : Int) : 1 ≤ hw x ∧ hw x ≤ 8 := by unfold hw; split <;> (try split) <;> omega

/-- The lowest k bytes of n, the lowest one first. -/
def dg (n : Int) : Nat → List Int
  | 0 => []
  | k + 1 => n % 256 :: dg (n / 256) k
theorem dg_len (k : Nat) : ∀ n, (dg n k).length = k := by
  induction k with
  | zero => intro n; rfl
  | succ k ih => intro n; simp [dg, ih]
theorem dg_bytes (k : Nat) : ∀ n, ∀ x ∈ dg n k, 0 ≤ x ∧ x ≤ 255 := by
  induction k with
  | zero => intro n x hx; cases hx
  | succ k ih =>
    intro n x hx
    rcases List.mem_cons.1 hx with rfl | h
    · omega
    · exact ih _ x h

/-- n without its lowest k bytes. -/
def sr (n : Int) : Nat → Int
  | 0 => n
  | k + 1 => sr n k / 256
theorem sr_div (k : Nat) : ∀ n, sr (n / 256) k = sr n k / 256 := by
  induction k with
  | zero => intro n; rfl
  | succ k ih => intro n; simp [sr, ih]
theorem dg_snoc (k : Nat) : ∀ n, dg n (k + 1) = dg n k ++ [sr n k % 256] := by
  induction k with
  | zero => intro n; rfl
  | succ k ih =>
    intro n
    rw [dg, ih (n / 256), sr_div]
    rfl
theorem sr_bd (n M : Int) (h : 0 ≤ n ∧ n ≤ M) (k : Nat) : 0 ≤ sr n k ∧ sr n k ≤ M := by
  induction k with
  | zero => exact h
  | succ k ih => simp only [sr]; omega

/-- What bytes tell, the lowest one first. -/
def num : List Int → Int
  | [] => 0
  | x :: r => x + 256 * num r

/-- 256 to the k. -/
def pw : Nat → Int
  | 0 => 1
  | k + 1 => 256 * pw k
theorem pw_pos (k : Nat) : 0 < pw k := by
  induction k with
  | zero => decide
  | succ k ih => simp only [pw]; omega
theorem num_bd (xs : List Int) (h : ∀ x ∈ xs, 0 ≤ x ∧ x ≤ 255) : 0 ≤ num xs ∧ num xs < pw xs.length := by
  induction xs with
  | nil => simp [num, pw]
  | cons x r ih =>
    have := ih fun y hy => h y (List.mem_cons_of_mem _ hy)
    have hx := h x (List.mem_cons_self ..)
    simp only [num, List.length_cons, pw]
    omega
theorem num_snoc (xs : List Int) (y : Int) : num (xs ++ [y]) = num xs + pw xs.length * y := by
  induction xs with
  | nil => simp [num, pw]
  | cons x r ih =>
    simp only [List.cons_append, num, ih, List.length_cons, pw, Int.mul_add]
    rw [Int.mul_assoc]
    omega
theorem num_app (xs ys : List Int) : num (xs ++ ys) = num xs + pw xs.length * num ys := by
  induction xs with
  | nil => simp [num, pw]
  | cons x r ih =>
    simp only [List.cons_append, num, ih, List.length_cons, pw, Int.mul_add]
    rw [Int.mul_assoc]
    omega
theorem take_snoc (xs : List Int) (k : Nat) (h : k < xs.length) : xs.take (k + 1) = xs.take k ++ [xs.getD k 0] := by
  rw [List.take_succ_eq_append_getElem h]
  simp [List.getD, List.getElem?_eq_getElem h]
/-- What was put is told: what fits whole, the rest without its higher bytes. -/
theorem num_dg (k : Nat) : ∀ n, num (dg n k) = n % pw k := by
  induction k with
  | zero => intro n; simp [dg, num, pw, Int.emod_one]
  | succ k ih =>
    intro n
    simp only [dg, num, ih, pw]
    have hp := pw_pos k
    have h1 : n % (256 * pw k) = n % 256 + 256 * (n / 256 % pw k) := by
      have e : n = n % 256 + 256 * (n / 256 % pw k) + 256 * pw k * (n / 256 / pw k) := by
        have a := Int.emod_add_mul_ediv (n / 256) (pw k)
        have b := Int.emod_add_mul_ediv n 256
        have c : 256 * pw k * (n / 256 / pw k) = 256 * (pw k * (n / 256 / pw k)) := Int.mul_assoc ..
        omega
      have r0 := Int.emod_nonneg (n / 256) (show pw k ≠ 0 by omega)
      have r1 := Int.emod_lt_of_pos (n / 256) hp
      have lo : 0 ≤ n % 256 + 256 * (n / 256 % pw k) := by omega
      have hi : n % 256 + 256 * (n / 256 % pw k) < 256 * pw k := by omega
      conv => lhs; rw [e]
      rw [Int.add_mul_emod_self_left, Int.emod_eq_of_lt lo hi]
    omega
theorem mod_pw (n : Int) (k : Nat) : n % pw (k + 1) = n % 256 + 256 * (n / 256 % pw k) := by
  have h := num_dg (k + 1) n
  rw [← h, dg, num, num_dg]
/-- Numbers have the same lowest bytes just if they are the same without their higher ones. -/
theorem dg_eq (k : Nat) : ∀ a b : Int, dg a k = dg b k ↔ a % pw k = b % pw k := by
  induction k with
  | zero => intro a b; simp [dg, pw, Int.emod_one]
  | succ k ih =>
    intro a b
    rw [dg, dg, List.cons.injEq, ih, mod_pw, mod_pw]
    omega
theorem dg_mod (k : Nat) (a : Int) : dg (a % pw k) k = dg a k := (dg_eq k _ _).2 (Int.emod_emod_of_dvd _ (Int.dvd_refl _))
theorem dg_add (j : Nat) : ∀ (n : Int) (k : Nat), dg n (j + k) = dg n j ++ dg (sr n j) k := by
  induction j with
  | zero => intro n k; simp [dg, sr]
  | succ j ih =>
    intro n k
    rw [show j + 1 + k = (j + k) + 1 from by omega, dg, ih, dg, List.cons_append, sr_div]
    rfl
end Go.Proofs.YtggmdgdgljlddaaGreatDoor

/-
  Plain facts on the model's numbers, as the walks spell them.
-/
namespace Go.Proofs.YtggmdgdgljlddaaGreatDoor

theorem u64w (x : Int) : IntKind.u64.wrap x = x % 18446744073709551616 := by simp [IntKind.wrap, IntKind.bits, IntKind.signed]
theorem u8w (x : Int) : IntKind.u8.wrap x = x % 256 := by rw [IntKind.wrap_u8]

theorem pw_of (k : Nat) (h : k ≤ 8) : pw k = 1 ∧ k = 0 ∨ pw k = 256 ∧ k = 1 ∨ pw k = 65536 ∧ k = 2 ∨ pw k = 16777216 ∧ k = 3 ∨ pw k = 4294967296 ∧ k = 4 ∨ pw k = 1099511627776 ∧ k = 5 ∨ pw k = 281474976710656 ∧ k = 6 ∨ pw k = 72057594037927936 ∧ k = 7 ∨ pw k = 18446744073709551616 ∧ k = 8 := by
  rcases (show k = 0 ∨ k = 1 ∨ k = 2 ∨ k = 3 ∨ k = 4 ∨ k = 5 ∨ k = 6 ∨ k = 7 ∨ k = 8 from by omega) with rfl | rfl | rfl | rfl | rfl | rfl | rfl | rfl | rfl <;> simp [pw]

theorem num_round (xs : List Int) (k : Nat) (h8 : xs.length ≤ 8) (hlt : k < xs.length) (hx : ∀ x ∈ xs, 0 ≤ x ∧ x ≤ 255) :
    IntKind.u64.wrap (num (xs.take k) + IntKind.u64.wrap (pw k % 18446744073709551616 * IntKind.u64.wrap (xs[k]))) = num (xs.take (k + 1)) := by
  have hb := num_bd (xs.take k) (fun x hxk => hx x (List.mem_of_mem_take hxk))
  have hl : (xs.take k).length = k := by simp; omega
  have hy := hx xs[k] (List.getElem_mem hlt)
  rw [take_snoc xs k hlt, num_snoc, hl]
  rw [hl] at hb
  have e : xs.getD k 0 = xs[k] := by simp [List.getD, List.getElem?_eq_getElem hlt]
  rw [e]
  generalize xs[k] = y at *
  generalize num (xs.take k) = m at *
  simp only [u64w]
  rcases pw_of k (by omega) with ⟨h, _⟩ | ⟨h, _⟩ | ⟨h, _⟩ | ⟨h, _⟩ | ⟨h, _⟩ | ⟨h, _⟩ | ⟨h, _⟩ | ⟨h, _⟩ | ⟨h, _⟩ <;> rw [h] at hb ⊢ <;> omega

theorem pw_round (k : Nat) : IntKind.u64.wrap (pw k % 18446744073709551616 * 256) = pw (k + 1) % 18446744073709551616 := by
  rw [u64w]
  simp only [pw]
  omega

/-- The number with a sign that k bytes of n tell. -/
def sg (n : Int) (k : Nat) : Int := if pw k ≤ 2 * (n % pw k) then n % pw k - pw k else n % pw k
theorem sg1 (n : Int) : RowKit.wrap64 (IntKind.u64.wrap (n * 72057594037927936)) / 72057594037927936 = sg n 1 := by
  simp only [u64w, RowKit.wrap64, sg, pw]
  omega
theorem sg2 (n : Int) : RowKit.wrap64 (IntKind.u64.wrap (n * 281474976710656)) / 281474976710656 = sg n 2 := by
  simp only [u64w, RowKit.wrap64, sg, pw]
  omega
theorem sg3 (n : Int) : RowKit.wrap64 (IntKind.u64.wrap (n * 1099511627776)) / 1099511627776 = sg n 3 := by
  simp only [u64w, RowKit.wrap64, sg, pw]
  omega
theorem sg4 (n : Int) : RowKit.wrap64 (IntKind.u64.wrap (n * 4294967296)) / 4294967296 = sg n 4 := by
  simp only [u64w, RowKit.wrap64, sg, pw]
  omega
theorem sg5 (n : Int) : RowKit.wrap64 (IntKind.u64.wrap (n * 16777216)) / 16777216 = sg n 5 := by
  simp only [u64w, RowKit.wrap64, sg, pw]
  omega
theorem sg6 (n : Int) : RowKit.wrap64 (IntKind.u64.wrap (n * 65536)) / 65536 = sg n 6 := by
  simp only [u64w, RowKit.wrap64, sg, pw]
  omega
theorem sg7 (n : Int) : RowKit.wrap64 (IntKind.u64.wrap (n * 256)) / 256 = sg n 7 := by
  simp only [u64w, RowKit.wrap64, sg, pw]
  omega
theorem sg8 (n : Int) : RowKit.wrap64 n = sg n 8 := by
  simp only [RowKit.wrap64, sg, pw]
  omega

theorem num_rep (j : Nat) : num (List.replicate j 255) = pw j - 1 ∧ num (List.replicate j 0) = 0 := by
  induction j with
  | zero => simp [num, pw]
  | succ j ih => simp only [List.replicate_succ, num, pw]; omega
/-- The highest one of k + 1 bytes says whether it is half or more. -/
theorem high_bit (n : Int) (k : Nat) (hk : k + 1 ≤ 8) : (128 ≤ sr n k % 256) ↔ pw (k + 1) ≤ 2 * (n % pw (k + 1)) := by
  have h1 := num_dg (k + 1) n
  rw [dg_snoc, num_snoc, dg_len] at h1
  have h2 := num_bd (dg n k) (dg_bytes k n)
  rw [dg_len] at h2
  rw [← h1]
  generalize num (dg n k) = a at *
  simp only [pw]
  rcases pw_of k (by omega) with ⟨h, _⟩ | ⟨h, _⟩ | ⟨h, _⟩ | ⟨h, _⟩ | ⟨h, _⟩ | ⟨h, _⟩ | ⟨h, _⟩ | ⟨h, _⟩ | ⟨h, _⟩ <;> rw [h] at h2 ⊢ <;> omega
theorem wide_neg (n : Int) (k j : Nat) (hk : 1 ≤ k) (h : k + j = 8) (hb : pw k ≤ 2 * (n % pw k)) : RowKit.wrap64 (num (dg n k ++ List.replicate j 255)) = sg n k := by
  have h1 := num_dg k n
  rw [num_app, dg_len, (num_rep j).1, h1, sg, if_pos hb]
  have r0 := Int.emod_nonneg n (show pw k ≠ 0 by have := pw_pos k; omega)
  have r1 := Int.emod_lt_of_pos n (pw_pos k)
  have e : j = 8 - k := by omega
  subst e
  generalize n % pw k = a at *
  simp only [RowKit.wrap64]
  rcases pw_of k (by omega) with ⟨h, rfl⟩ | ⟨h, rfl⟩ | ⟨h, rfl⟩ | ⟨h, rfl⟩ | ⟨h, rfl⟩ | ⟨h, rfl⟩ | ⟨h, rfl⟩ | ⟨h, rfl⟩ | ⟨h, rfl⟩ <;> simp only [pw] at * <;> omega
theorem wide_pos (n : Int) (k j : Nat) (hk : 1 ≤ k) (h : k + j = 8) (hb : ¬ pw k ≤ 2 * (n % pw k)) : RowKit.wrap64 (num (dg n k ++ List.replicate j 0)) = sg n k := by
  have h1 := num_dg k n
  rw [num_app, dg_len, (num_rep j).2, h1, sg, if_neg hb]
  have r0 := Int.emod_nonneg n (show pw k ≠ 0 by have := pw_pos k; omega)
  have r1 := Int.emod_lt_of_pos n (pw_pos k)
  generalize n % pw k = a at *
  simp only [RowKit.wrap64]
  rcases pw_of k (by omega) with ⟨h, rfl⟩ | ⟨h, rfl⟩ | ⟨h, rfl⟩ | ⟨h, rfl⟩ | ⟨h, rfl⟩ | ⟨h, rfl⟩ | ⟨h, rfl⟩ | ⟨h, rfl⟩ | ⟨h, rfl⟩ <;> simp only [pw] at * <;> omega

/-- Bits that lie above others are added by 'or'. -/
theorem or_low (i : Nat) (n y : Int) (h0 : 0 ≤ n) (y0 : 0 ≤ y) (y1 : y < ((2 ^ i : Nat) : Int)) (hb : ((2 ^ i : Nat) : Int) * n + y < 18446744073709551616) : bits .or .u64 (((2 ^ i : Nat) : Int) * n) y = ((2 ^ i : Nat) : Int) * n + y := by
  have hp : (0 : Int) ≤ ((2 ^ i : Nat) : Int) * n := Int.mul_nonneg (by omega) h0
  rw [u64_or _ _ hp (by omega) y0 (by omega)]
  have e : (((2 ^ i : Nat) : Int) * n).toNat = 2 ^ i * n.toNat := by
    obtain ⟨m, rfl⟩ := Int.eq_ofNat_of_zero_le h0
    rw [← Int.natCast_mul, Int.toNat_natCast, Int.toNat_natCast]
  rw [e, ← Nat.two_pow_add_eq_or_of_lt (by omega)]
  obtain ⟨m, rfl⟩ := Int.eq_ofNat_of_zero_le h0
  rw [Int.toNat_natCast, Int.natCast_add, Int.natCast_mul, Int.toNat_of_nonneg y0]

theorem take_round (ys : List Int) (i : Nat) (h8 : ys.length ≤ 8) (hi : i < ys.length) (hx : ∀ x ∈ ys, 0 ≤ x ∧ x ≤ 255) :
    bits .or .u64 (IntKind.u64.wrap (num (ys.drop (i + 1)) * 256)) (ys.getD i 0) = num (ys.drop i) := by
  have hn := num_bd (ys.drop (i + 1)) fun y hy => hx y (List.mem_of_mem_drop hy)
  have hl : (ys.drop (i + 1)).length = ys.length - (i + 1) := by simp
  rw [hl] at hn
  have hy := hx (ys.getD i 0) (by simp [List.getD, List.getElem?_eq_getElem hi])
  have e : ys.drop i = ys.getD i 0 :: ys.drop (i + 1) := by
    rw [List.drop_eq_getElem_cons hi]
    simp [List.getD, List.getElem?_eq_getElem hi]
  rw [e, num]
  generalize ys.getD i 0 = y at *
  generalize num (ys.drop (i + 1)) = n at *
  have hb : n < 72057594037927936 := by
    rcases pw_of (ys.length - (i + 1)) (by omega) with ⟨h, _⟩ | ⟨h, _⟩ | ⟨h, _⟩ | ⟨h, _⟩ | ⟨h, _⟩ | ⟨h, _⟩ | ⟨h, _⟩ | ⟨h, _⟩ | ⟨h, _⟩ <;> rw [h] at hn <;> omega
  have hw : IntKind.u64.wrap (n * 256) = ((2 ^ 8 : Nat) : Int) * n := by rw [u64w]; omega
  rw [hw, or_low 8 n y hn.1 hy.1 (by omega) (by omega)]
  omega

theorem sg_neg (n : Int) (k : Nat) : sg n k < 0 ↔ pw k ≤ 2 * (n % pw k) := by
  have h0 := pw_pos k
  have h1 := Int.emod_nonneg n (show pw k ≠ 0 by omega)
  have h2 := Int.emod_lt_of_pos n h0
  unfold sg
  split <;> omega
/-- A number with a sign is its bytes: where it lies; that it is told by those bytes, and put as them. -/
theorem sg_facts (n : Int) (k : Nat) (hk : k ≤ 8) :
    -pw k ≤ 2 * sg n k ∧ 2 * sg n k < pw k ∧ sg (num (dg n k)) k = sg n k ∧ dg (IntKind.u64.wrap (sg n k)) k = dg n k := by
  have h0 := pw_pos k
  have r0 := Int.emod_nonneg n (show pw k ≠ 0 by omega)
  have r1 := Int.emod_lt_of_pos n h0
  refine ⟨by unfold sg; split <;> omega, by unfold sg; split <;> omega, ?_, ?_⟩
  · rw [num_dg]
    unfold sg
    rw [Int.emod_emod_of_dvd _ (Int.dvd_refl _)]
  · rw [dg_eq, u64w]
    unfold sg
    generalize n % pw k = a at *
    by_cases hb : pw k ≤ 2 * a
    · rw [if_pos hb]
      rcases pw_of k (by omega) with ⟨h, rfl⟩ | ⟨h, rfl⟩ | ⟨h, rfl⟩ | ⟨h, rfl⟩ | ⟨h, rfl⟩ | ⟨h, rfl⟩ | ⟨h, rfl⟩ | ⟨h, rfl⟩ | ⟨h, rfl⟩ <;> simp only [pw] at * <;> omega
    · rw [if_neg hb]
      rcases pw_of k (by omega) with ⟨h, rfl⟩ | ⟨h, rfl⟩ | ⟨h, rfl⟩ | ⟨h, rfl⟩ | ⟨h, rfl⟩ | ⟨h, rfl⟩ | ⟨h, rfl⟩ | ⟨h, rfl⟩ | ⟨h, rfl⟩ <;> simp only [pw] at * <;> omega

theorem num_fits (xs : List Int) (hl : xs.length ≤ 8) (hx : ∀ x ∈ xs, 0 ≤ x ∧ x ≤ 255) : 0 ≤ num xs ∧ num xs ≤ 18446744073709551615 := by
  have h := num_bd xs hx
  rcases pw_of xs.length hl with ⟨e, _⟩ | ⟨e, _⟩ | ⟨e, _⟩ | ⟨e, _⟩ | ⟨e, _⟩ | ⟨e, _⟩ | ⟨e, _⟩ | ⟨e, _⟩ | ⟨e, _⟩ <;> rw [e] at h <;> omega
theorem num_dg_bd (n : Int) (k : Nat) (hk : k ≤ 8) : 0 ≤ num (dg n k) ∧ num (dg n k) ≤ 18446744073709551615 := num_fits _ (by rw [dg_len]; exact hk) (dg_bytes k n)

theorem tdiv2 (s : Int) : -1 ≤ 2 * s.tdiv 2 - s ∧ 2 * s.tdiv 2 - s ≤ 1 := by
  have h := Int.tmod_add_mul_tdiv s 2
  rcases Int.le_total 0 s with hs | hs
  · have a := Int.tmod_nonneg 2 hs
    have b := Int.tmod_lt_of_pos s (show (0 : Int) < 2 by decide)
    omega
  · have a : s.tmod 2 ≤ 0 := by
      have := Int.tmod_nonneg 2 (show 0 ≤ -s by omega)
      rw [Int.neg_tmod] at this
      omega
    have b : -2 < s.tmod 2 := by
      have := Int.tmod_lt_of_pos (-s) (show (0 : Int) < 2 by decide)
      rw [Int.neg_tmod] at this
      omega
    omega
theorem tdiv2_pos (s : Int) (hs : 0 ≤ s) : 2 * s.tdiv 2 ≤ s := by
  have h := Int.tmod_add_mul_tdiv s 2
  have a := Int.tmod_nonneg 2 hs
  omega
theorem or_high (i : Nat) (n y : Int) (h0 : 0 ≤ n) (y0 : 0 ≤ y) (y1 : y < ((2 ^ i : Nat) : Int)) (hb : ((2 ^ i : Nat) : Int) * n + y < 18446744073709551616) : bits .or .u64 y (((2 ^ i : Nat) : Int) * n) = ((2 ^ i : Nat) : Int) * n + y := by
  have hp : (0 : Int) ≤ ((2 ^ i : Nat) : Int) * n := Int.mul_nonneg (by omega) h0
  rw [← or_low i n y h0 y0 y1 hb, u64_or _ _ hp (by omega) y0 (by omega), u64_or _ _ y0 (by omega) hp (by omega), Nat.or_comm]
theorem sr_eq (n : Int) (k : Nat) : sr n k = n / pw k := by
  induction k with
  | zero => simp [sr, pw]
  | succ k ih =>
    have := pw_pos k
    rw [sr, ih, pw, Int.ediv_ediv_of_nonneg (by omega), Int.mul_comm]
/-- Two halves, side by side: the lower bytes, and the higher ones above them. -/
theorem sides (n : Int) (a b : Nat) (ha : 1 ≤ a) (hb : 1 ≤ b) (ha4 : a ≤ 4) (hb4 : b ≤ 4) :
    bits .or .u64 (num (dg n a)) (IntKind.u64.wrap (num (dg (sr n a) b) * pw a)) = num (dg n (a + b)) := by
  have h1 := num_bd (dg n a) (dg_bytes a n)
  have h2 := num_bd (dg (sr n a) b) (dg_bytes b _)
  rw [dg_len] at h1 h2
  rw [dg_add, num_app, dg_len]
  generalize num (dg n a) = p at *
  generalize num (dg (sr n a) b) = q at *
  have hq : q < 4294967296 := by
    rcases pw_of b (by omega) with ⟨e, _⟩ | ⟨e, _⟩ | ⟨e, _⟩ | ⟨e, _⟩ | ⟨e, _⟩ | ⟨e, _⟩ | ⟨e, _⟩ | ⟨e, _⟩ | ⟨e, _⟩ <;> rw [e] at h2 <;> omega
  have hh : ∀ i : Nat, pw a = ((2 ^ i : Nat) : Int) → pw a ≤ 4294967296 → bits .or .u64 p (IntKind.u64.wrap (q * pw a)) = p + pw a * q := by
    intro i hi hle
    have hm : pw a * q ≤ 4294967296 * q := Int.mul_le_mul_of_nonneg_right hle h2.1
    have hm0 : 0 ≤ pw a * q := Int.mul_nonneg (by omega) h2.1
    have hw : IntKind.u64.wrap (q * pw a) = pw a * q := by
      rw [u64w, Int.mul_comm]
      exact Int.emod_eq_of_lt hm0 (by omega)
    have h1' := h1.2
    rw [hw]
    rw [hi] at h1' hm hle ⊢
    rw [or_high i q p h2.1 h1.1 h1' (by omega), Int.add_comm]
  rcases (show a = 1 ∨ a = 2 ∨ a = 3 ∨ a = 4 from by omega) with rfl | rfl | rfl | rfl
  · exact hh 8 (by simp [pw]) (by simp [pw])
  · exact hh 16 (by simp [pw]) (by simp [pw])
  · exact hh 24 (by simp [pw]) (by simp [pw])
  · exact hh 32 (by simp [pw]) (by simp [pw])
end Go.Proofs.YtggmdgdgljlddaaGreatDoor
