/-
  Plain: a stretch on its way to be parted.
-/
import Derived.Test.YtoeeighfjoplhaaLoP
namespace Go.Proofs.Ytoeeighfjoplhaa
open Go.RowKit
section
variable {n : Nat} {V : Int → Prop} {R : Int → Int → Prop}
/-- A stretch on its way to be parted. -/
structure PI (R : Int → Int → Prop) (a b i j : Nat) (F G : Nat → Int) : Prop where
  pm : Pm a b F G
  ai : a < i
  ij : i ≤ j + 1
  jb : j < b
  left : ∀ k, a < k → k < i → R (G k) (G a)
  right : ∀ k, j < k → k < b → R (G a) (G k)
theorem PI.start {a b : Nat} {F G : Nat → Int} (hab : a < b) (p : Pm a b F G) : PI R a b (a + 1) (b - 1) F G := ⟨p, by omega, by omega, by omega, fun k h1 h2 => by omega, fun k h1 h2 => by omega⟩
theorem PI.up {a b i j : Nat} {F G : Nat → Int} (h : PI R a b i j F G) (hij : i ≤ j) (hr : R (G i) (G a)) : PI R a b (i + 1) j F G := ⟨h.pm, by have := h.ai; omega, by omega, h.jb, fun k h1 h2 => by
  by_cases e : k = i
  · rw [e]; exact hr
  · exact h.left k h1 (by omega), h.right⟩
theorem PI.dn {a b i j : Nat} {F G : Nat → Int} (h : PI R a b i j F G) (hij : i ≤ j) (hr : R (G a) (G j)) : PI R a b i (j - 1) F G := ⟨h.pm, h.ai, by have := h.ai; omega, by have := h.jb; omega, h.left, fun k h1 h2 => by
  by_cases e : k = j
  · rw [e]; exact hr
  · exact h.right k (by omega) h2⟩
theorem PI.sw {a b i j : Nat} {F G : Nat → Int} (h : PI R a b i j F G) (hij : i < j) (hi : R (G a) (G i)) (hj : R (G j) (G a)) : PI R a b (i + 1) (j - 1) F (swp2 i j G) := by
  have h1 := h.ai
  have h2 := h.jb
  have ea : swp2 i j G a = G a := swp2_o G (by omega) (by omega)
  refine ⟨.sw h.pm (by omega) (by omega) (by omega) (by omega), by omega, by omega, by omega, fun k g1 g2 => ?_, fun k g1 g2 => ?_⟩
  · rw [ea]
    by_cases e : k = i
    · rw [e, swp2_l]; exact hj
    · rw [swp2_o G e (by omega)]
      exact h.left k g1 (by omega)
  · rw [ea]
    by_cases e : k = j
    · rw [e, swp2_r]; exact hi
    · rw [swp2_o G (by omega) e]
      exact h.right k (by omega) g2
theorem PI.fin {a b i j : Nat} {F G : Nat → Int} (h : PI R a b i j F G) (hij : j < i) : Pm a b F (swp2 j a G) ∧ Part R a b j (swp2 j a G) := by
  have h1 := h.ai
  have h2 := h.jb
  have h3 := h.ij
  refine ⟨.sw h.pm (by omega) (by omega) (by omega) (by omega), by omega, h2, fun k g1 g2 => ?_, fun k g1 g2 => ?_⟩
  · rw [swp2_l]
    by_cases e : k = a
    · rw [e, swp2_r]; exact h.left j (by omega) (by omega)
    · rw [swp2_o G (by omega) e]
      exact h.left k (by omega) (by omega)
  · rw [swp2_l, swp2_o G (by omega) (by omega)]
    exact h.right k g1 g2
/-- What is there behind whatever permutation. -/
theorem Pm.vals {a b : Nat} {F G : Nat → Int} (p : Pm a b F G) (hV : ∀ k, k < n → V (F k)) (hb : b ≤ n) : ∀ k, k < n → V (G k) := fun k hk => by
  by_cases hkk : a ≤ k ∧ k < b
  · exact p.all (P := V) (fun k h1 h2 => hV k (by omega)) k hkk.1 hkk.2
  · rw [p.out (by omega)]; exact hV k hk
end
end Go.Proofs.Ytoeeighfjoplhaa
