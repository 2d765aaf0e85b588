/-
  Plain facts: insertion by exchanges of neighbours. Nothing of Go is named here.
-/
import Derived.Test.YtoeeighfjoplhaaLoT
namespace Go.Proofs.Ytoeeighfjoplhaa

/-- All of [a, i] but what stands at j is in order, and that is ahead of all behind it. -/
structure Ins (R : Int → Int → Prop) (a i j : Nat) (f : Nat → Int) : Prop where
  rest : ∀ p q, a ≤ p → p < q → q ≤ i → p ≠ j → q ≠ j → R (f p) (f q)
  ahead : ∀ q, j < q → q ≤ i → R (f j) (f q)
  ja : a ≤ j
  ji : j ≤ i
section
variable {R : Int → Int → Prop} {a b i j : Nat} {f g : Nat → Int}
theorem Ins.start (h : Srt R a i f) (hi : a ≤ i) : Ins R a i i f :=
  ⟨fun p q h1 h2 h3 _ h5 => h p q h1 h2 (by omega), fun q h1 h2 => by omega, hi, Nat.le_refl _⟩
theorem Ins.step (h : Ins R a i j f) (hj : a < j) (hr : R (f j) (f (j - 1))) : Ins R a i (j - 1) (swp2 j (j - 1) f) := by
  have e1 : swp2 j (j - 1) f (j - 1) = f j := by unfold swp2; rw [if_neg (by omega), if_pos rfl]
  have e2 : swp2 j (j - 1) f j = f (j - 1) := by unfold swp2; rw [if_pos rfl]
  have e3 : ∀ k, k ≠ j → k ≠ j - 1 → swp2 j (j - 1) f k = f k := fun k h1 h2 => by unfold swp2; rw [if_neg h1, if_neg h2]
  refine ⟨fun p q h1 h2 h3 h4 h5 => ?_, fun q h1 h2 => ?_, by omega, by have := h.ji; omega⟩
  · by_cases hp : p = j
    · subst hp
      rw [e2, e3 q (by omega) h5]
      exact h.rest (p - 1) q (by omega) (by omega) h3 (by omega) (by omega)
    · rw [e3 p hp h4]
      by_cases hq : q = j
      · subst hq
        rw [e2]
        exact h.rest p (q - 1) h1 (by omega) (by omega) hp (by omega)
      · rw [e3 q hq h5]
        exact h.rest p q h1 h2 h3 hp hq
  · rw [e1]
    by_cases hq : q = j
    · subst hq
      rw [e2]
      exact hr
    · rw [e3 q hq (by omega)]
      exact h.ahead q (by omega) h2
theorem Ins.done (hR : Ord R) (h : Ins R a i j f) (hr : j = a ∨ R (f (j - 1)) (f j)) : Srt R a (i + 1) f := fun p q h1 h2 h3 => by
  by_cases hp : p = j
  · subst hp
    exact h.ahead q h2 (by omega)
  · by_cases hq : q = j
    · subst hq
      rcases hr with hr | hr
      · omega
      · by_cases he : p = q - 1
        · rw [he]; exact hr
        · exact hR.tr (h.rest p (q - 1) h1 (by omega) (by have := h.ji; omega) hp (by omega)) hr
    · exact h.rest p q h1 h2 (by omega) hp hq
/-- What a comparison says of what is put in, and of what stands ahead of it. -/
def Says (c : Int → Int → Int) (R : Int → Int → Prop) (a b : Nat) (f : Nat → Int) : Prop := ∀ i p, a ≤ p → p < i → i < b → (c (f i) (f p) < 0 ∧ R (f i) (f p)) ∨ (¬ c (f i) (f p) < 0 ∧ R (f p) (f i))
/-- The first ones are permuted, the others stand as they stood, and what is on its way is the one that stood at i. -/
structure InsSt (c : Int → Int → Int) (R : Int → Int → Prop) (a i j : Nat) (f0 f : Nat → Int) : Prop where
  pm : Pm a (i + 1) f0 f
  ins : Ins R a i j f
  mv : f j = f0 i
  pre : ∀ k, a ≤ k → k ≤ i → k ≠ j → ∃ p, a ≤ p ∧ p < i ∧ f k = f0 p
theorem InsSt.start {c : Int → Int → Int} {f0 : Nat → Int} (p : Pm a i f0 f) (h : Srt R a i f) (hi : a ≤ i) : InsSt c R a i i f0 f :=
  ⟨p.mono (Nat.le_refl _) (by omega), Ins.start h hi, p.out (.inr (Nat.le_refl _)), fun k h1 h2 h3 => by
    have := p.all (P := fun x => ∃ p, a ≤ p ∧ p < i ∧ x = f0 p) (fun k h1 h2 => ⟨k, h1, h2, rfl⟩) k h1 (by omega)
    exact this⟩
theorem InsSt.says {c : Int → Int → Int} {f0 : Nat → Int} (h : InsSt c R a i j f0 f) (hs : Says c R a b f0) (hib : i < b) (hj : a < j) : (c (f j) (f (j - 1)) < 0 ∧ R (f j) (f (j - 1))) ∨ (¬ c (f j) (f (j - 1)) < 0 ∧ R (f (j - 1)) (f j)) := by
  obtain ⟨p, h1, h2, h3⟩ := h.pre (j - 1) (by omega) (by have := h.ins.ji; omega) (by omega)
  rw [h.mv, h3]
  exact hs i p h1 h2 hib
theorem InsSt.step {c : Int → Int → Int} {f0 : Nat → Int} (h : InsSt c R a i j f0 f) (hj : a < j) (hr : R (f j) (f (j - 1))) : InsSt c R a i (j - 1) f0 (swp2 j (j - 1) f) := by
  have hji := h.ins.ji
  refine ⟨.sw h.pm (by omega) (by omega) (by omega) (by omega), h.ins.step hj hr, ?_, fun k h1 h2 h3 => ?_⟩
  · unfold swp2
    rw [if_neg (by omega), if_pos rfl]
    exact h.mv
  · unfold swp2
    by_cases hk : k = j
    · rw [if_pos hk]
      exact h.pre (j - 1) (by omega) (by omega) (by omega)
    · rw [if_neg hk, if_neg h3]
      exact h.pre k h1 h2 hk
end
end Go.Proofs.Ytoeeighfjoplhaa
