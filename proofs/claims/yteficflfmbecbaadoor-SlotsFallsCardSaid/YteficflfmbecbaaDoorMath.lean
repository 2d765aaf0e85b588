/-
  Plain facts on numbers and lists: nothing of Go is named here.
-/
namespace Go.Proofs.YteficflfmbecbaaDoor

/-- A width as it is held. -/
def hw (x : Int) : Nat := if x < 1 then 1 else if 8 < x then 8 else x.toNat
theorem hw_bd (x : Int) : 1 ≤ hw x ∧ hw x ≤ 8 := by unfold hw; split <;> (try split) <;> omega

/-- The lowest k bytes of n, the lowest one first. -/
def dg (n : Int) : Nat → List Int
  | 0 => []
  | k + 1 => n % 256 :: dg (n / 256) k
theorem dg_len (k : Nat) : ∀ n, (dg n k).length = k := by
  induction k with
  | zero => intro n; rfl
  | succ k ih => intro n; simp [dg, ih]
theorem dg_bytes (k : Nat) : ∀ n, ∀ x ∈ dg n k, 0 ≤ x ∧ x ≤ 255 := by
  induction k with
  | zero => intro n x hx; cases hx
  | succ k ih =>
    intro n x hx
    rcases List.mem_cons.1 hx with rfl | h
    · omega
    · exact ih _ x h

/-- n without its lowest k bytes. -/
def sr (n : Int) : Nat → Int
  | 0 => n
  | k + 1 => sr n k / 256
theorem sr_div (k : Nat) : ∀ n, sr (n / 256) k = sr n k / 256 := by
  induction k with
  | zero => intro n; rfl
  | succ k ih => intro n; simp [sr, ih]
theorem dg_snoc (k : Nat) : ∀ n, dg n (k + 1) = dg n k ++ [sr n k % 256] := by
  induction k with
  | zero => intro n; rfl
  | succ k ih =>
    intro n
    rw [dg, ih (n / 256), sr_div]
    rfl
theorem sr_bd (n M : Int) (h : 0 ≤ n ∧ n ≤ M) (k : Nat) : 0 ≤ sr n k ∧ sr n k ≤ M := by
  induction k with
  | zero => exact h
  | succ k ih => simp only [sr]; omega

/-- What bytes tell, the lowest one first. -/
def num : List Int → Int
  | [] => 0
  | x :: r => x + 256 * num r

/-- 256 to the k. -/
def pw : Nat → Int
  | 0 => 1
  | k + 1 => 256 * pw k
theorem pw_pos (k : Nat) : 0 < pw k := by
  induction k with
  | zero => decide
  | succ k ih => simp only [pw]; omega
theorem num_bd (xs : List Int) (h : ∀ x ∈ xs, 0 ≤ x ∧ x ≤ 255) : 0 ≤ num xs ∧ num xs < pw xs.length := by
  induction xs with
  | nil => simp [num, pw]
  | cons x r ih =>
    have := ih fun y hy => h y (List.mem_cons_of_mem _ hy)
    have hx := h x (List.mem_cons_self ..)
    simp only [num, List.length_cons, pw]
    omega
theorem num_snoc (xs : List Int) (y : Int) : num (xs ++ [y]) = num xs + pw xs.length * y := by
  induction xs with
  | nil => simp [num, pw]
  | cons x r ih =>
    simp only [List.cons_append, num, ih, List.length_cons, pw, Int.mul_add]
    rw [Int.mul_assoc]
    omega
theorem num_app (xs ys : List Int) : num (xs ++ ys) = num xs + pw xs.length * num ys := by
  induction xs with
  | nil => simp [num, pw]
  | cons x r ih =>
    simp only [List.cons_append, num, ih, List.length_cons, pw, Int.mul_add]
    rw [Int.mul_assoc]
    omega
theorem take_snoc (xs : List Int) (k : Nat) (h : k < xs.length) : xs.take (k + 1) = xs.take k ++ [xs.getD k 0] := by
  rw [List.take_succ_eq_append_getElem h]
  simp [List.getD, List.getElem?_eq_getElem h]
/-- What was put is told: what fits whole, the rest without its higher bytes. -/
theorem num_dg (k : Nat) : ∀ n, num (dg n k) = n % pw k := by
  induction k with
  | zero => intro n; simp [dg, num, pw, Int.emod_one]
  | succ k ih =>
    intro n
    simp only [dg, num, ih, pw]
    have hp := pw_pos k
    have h1 : n % (256 * pw k) = n % 256 + 256 * (n / 256 % pw k) := by
      have e : n = n % 256 + 256 * (n / 256 % pw k) + 256 * pw k * (n / 256 / pw k) := by
        have a := Int.emod_add_mul_ediv (n / 256) (pw k)
        have b := Int.emod_add_mul_ediv n 256
        have c : 256 * pw k * (n / 256 / pw k) = 256 * (pw k * (n / 256 / pw k)) := Int.mul_assoc ..
        omega
      have r0 := Int.emod_nonneg (n / 256) (show pw k ≠ 0 by omega)
      have r1 := Int.emod_lt_of_pos (n / 256) hp
      have lo : 0 ≤ n % 256 + 256 * (n / 256 % pw k) := by omega
      have hi : n % 256 + 256 * (n / 256 % pw k) < 256 * pw k := by omega
      conv => lhs; rw [e]
      rw [Int.add_mul_emod_self_left, Int.emod_eq_of_lt lo hi]
    omega
theorem mod_pw (n : Int) (k : Nat) : n % pw (k + 1) = n % 256 + 256 * (n / 256 % pw k) := by
  have h := num_dg (k + 1) n
  rw [← h, dg, num, num_dg]
/-- Numbers have the same lowest bytes just if they are the same without their higher ones. -/
theorem dg_eq (k : Nat) : ∀ a b : Int, dg a k = dg b k ↔ a % pw k = b % pw k := by
  induction k with
  | zero => intro a b; simp [dg, pw, Int.emod_one]
  | succ k ih =>
    intro a b
    rw [dg, dg, List.cons.injEq, ih, mod_pw, mod_pw]
    omega
theorem dg_mod (k : Nat) (a : Int) : dg (a % pw k) k = dg a k := (dg_eq k _ _).2 (Int.emod_emod_of_dvd _ (Int.dvd_refl _))
theorem dg_add (j : Nat) : ∀ (n : Int) (k : Nat), dg n (j + k) = dg n j ++ dg (sr n j) k := by
  induction j with
  | zero => intro n k; simp [dg, sr]
  | succ j ih =>
    intro n k
    rw [show j + 1 + k = (j + k) + 1 from by omega, dg, ih, dg, List.cons_append, sr_div]
    rfl
end Go.Proofs.YteficflfmbecbaaDoor
