/-
  Plain facts: rows exchanged, and turned about by exchanges; what is permuted within a range. Nothing of Go is named here.
-/
import Derived.Test.YtoeeighfjoplhaaLoS
namespace Go.Proofs.Ytoeeighfjoplhaa

/-- Two places exchanged. -/
def swp2 (x y : Nat) (f : Nat → Int) : Nat → Int := fun k => if k = x then f y else if k = y then f x else f k
/-- Two rows of n exchanged. -/
def swF (x y n : Nat) (f : Nat → Int) : Nat → Int := fun k => if x ≤ k ∧ k < x + n then f (y + (k - x)) else if y ≤ k ∧ k < y + n then f (x + (k - y)) else f k
theorem swF_zero (x y : Nat) (f : Nat → Int) : swF x y 0 f = f := by
  funext k
  unfold swF
  rw [if_neg (by omega), if_neg (by omega)]
theorem swF_succ {x y n : Nat} (h : x + (n + 1) ≤ y) (f : Nat → Int) : swp2 (x + n) (y + n) (swF x y n f) = swF x y (n + 1) f := by
  funext k
  unfold swp2 swF
  (repeat' split) <;> first | (exfalso; omega) | (congr 1; omega) | rfl
/-- Where the left one is the longer. -/
theorem rot_more {m i j : Nat} (hj : j < i) (hm : i ≤ m) (f : Nat → Int) : rotF (m - (i - j)) m (m + j) (swF (m - i) m j f) = rotF (m - i) m (m + j) f := by
  funext k
  unfold rotF swF
  (repeat' split) <;> first | (exfalso; omega) | (congr 1; omega) | rfl
theorem rot_less {m i j : Nat} (hj : i < j) (hm : i ≤ m) (f : Nat → Int) : rotF (m - i) m (m + (j - i)) (swF (m - i) (m + j - i) i f) = rotF (m - i) m (m + j) f := by
  funext k
  unfold rotF swF
  (repeat' split) <;> first | (exfalso; omega) | (congr 1; omega) | rfl
theorem rot_same {m i : Nat} (hm : i ≤ m) (f : Nat → Int) : swF (m - i) m i f = rotF (m - i) m (m + i) f := by
  funext k
  unfold rotF swF
  (repeat' split) <;> first | (exfalso; omega) | (congr 1; omega) | rfl
/-- Permuted within [a, b): by exchanges. -/
inductive Pm (a b : Nat) (f : Nat → Int) : (Nat → Int) → Prop
  | rfl' : Pm a b f f
  | sw {g : Nat → Int} {x y : Nat} : Pm a b f g → a ≤ x → x < b → a ≤ y → y < b → Pm a b f (swp2 x y g)
section
variable {a b : Nat} {f g h : Nat → Int}
theorem Pm.trans (p : Pm a b f g) (q : Pm a b g h) : Pm a b f h := by
  induction q with
  | rfl' => exact p
  | sw _ h1 h2 h3 h4 ih => exact .sw ih h1 h2 h3 h4
theorem Pm.mono (p : Pm a b f g) {a' b' : Nat} (ha : a' ≤ a) (hb : b ≤ b') : Pm a' b' f g := by
  induction p with
  | rfl' => exact .rfl'
  | sw _ h1 h2 h3 h4 ih => exact .sw ih (by omega) (by omega) (by omega) (by omega)
theorem Pm.out (p : Pm a b f g) {k : Nat} (hk : k < a ∨ b ≤ k) : g k = f k := by
  induction p with
  | rfl' => rfl
  | sw _ h1 h2 h3 h4 ih =>
    unfold swp2
    rw [if_neg (by omega), if_neg (by omega)]
    exact ih
/-- What holds of all in the range still does. -/
theorem Pm.all (p : Pm a b f g) {P : Int → Prop} (hP : ∀ k, a ≤ k → k < b → P (f k)) : ∀ k, a ≤ k → k < b → P (g k) := by
  induction p with
  | rfl' => exact hP
  | sw _ h1 h2 h3 h4 ih =>
    intro k hk hkb
    unfold swp2
    split
    · exact ih _ h3 h4
    · split
      · exact ih _ h1 h2
      · exact ih k hk hkb
theorem Pm.swF (p : Pm a b f g) {x y n : Nat} (hx : a ≤ x) (hxy : x + n ≤ y) (hy : y + n ≤ b) : Pm a b f (swF x y n g) := by
  induction n with
  | zero => rw [swF_zero]; exact p
  | succ n ih =>
    rw [← swF_succ hxy]
    exact .sw (ih (by omega) (by omega)) (by omega) (by omega) (by omega) (by omega)
end
end Go.Proofs.Ytoeeighfjoplhaa
