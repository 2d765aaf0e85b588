/-
  Sorted lists by their members, for ShelfOrder.
-/
import Derived.Test.YtllamoiehmdgfaaShelfBackW
namespace Go.Proofs.Ytllamoiehmdgfaa

theorem ltB_self (x : It) : ltB x x = false := by
  cases e : ltB x x with
  | false => rfl
  | true => rw [ltB_asymm e] at e; exact e.symm

/-- Two sorted lists with the same members are one. -/
theorem sorted_ext {a b : List It} (ha : Sorted a) (hb : Sorted b) (h : ∀ x, x ∈ a ↔ x ∈ b) : a = b := by
  induction a generalizing b with
  | nil =>
    cases b with
    | nil => rfl
    | cons y b => exact absurd ((h y).2 (by simp)) (by simp)
  | cons x a ih =>
    cases b with
    | nil => exact absurd ((h x).1 (by simp)) (by simp)
    | cons y b =>
      unfold Sorted at ha hb
      rw [List.pairwise_cons] at ha hb
      have hxy : x = y := by
        rcases List.mem_cons.1 ((h x).1 (by simp)) with e | e
        · exact e
        · rcases List.mem_cons.1 ((h y).2 (by simp)) with f | f
          · exact f.symm
          · have h1 := hb.1 x e
            have h2 := ha.1 y f
            rw [ltB_asymm h1] at h2
            exact absurd h2 (by simp)
      subst hxy
      congr 1
      refine ih ha.2 hb.2 fun z => ⟨fun hz => ?_, fun hz => ?_⟩
      · rcases List.mem_cons.1 ((h z).1 (List.mem_cons.2 (.inr hz))) with e | e
        · subst e
          have := ha.1 z hz
          rw [ltB_self] at this
          exact absurd this (by simp)
        · exact e
      · rcases List.mem_cons.1 ((h z).2 (List.mem_cons.2 (.inr hz))) with e | e
        · subst e
          have := hb.1 z hz
          rw [ltB_self] at this
          exact absurd this (by simp)
        · exact e

theorem mem_putL {l : List It} {x y : It} : y ∈ putL l x ↔ y = x ∨ y ∈ l := by
  unfold putL
  split
  · rename_i h
    exact ⟨.inr, fun e => e.elim (fun e => e ▸ h) id⟩
  · rename_i h
    simp only [List.mem_append, List.mem_cons, List.mem_filter]
    constructor
    · rintro (⟨e, _⟩ | e | ⟨e, _⟩)
      · exact .inr e
      · exact .inl e
      · exact .inr e
    · rintro (e | e)
      · exact .inr (.inl e)
      · rcases ltB_tri y x with f | f | f
        · exact .inl ⟨e, f⟩
        · exact .inr (.inl f)
        · exact .inr (.inr ⟨e, f⟩)
theorem mem_dropL {l : List It} {x y : It} : y ∈ dropL l x ↔ y ∈ l ∧ y ≠ x := by
  unfold dropL
  simp

/-- Every place is come to, going round from b on. -/
theorem round_all {n : Nat} (b : Nat) {j : Nat} (hj : j < n) : ∃ i, i < n ∧ (i + b) % n = j := by
  refine ⟨(j + (n - b % n)) % n, Nat.mod_lt _ (by omega), ?_⟩
  have h1 : b % n < n := Nat.mod_lt _ (by omega)
  rw [Nat.add_mod, Nat.mod_mod, ← Nat.add_mod]
  have h2 : j + (n - b % n) + b = j + n * (b / n + 1) := by
    have := Nat.div_add_mod b n
    rw [Nat.mul_add, Nat.mul_one]
    omega
  rw [h2, Nat.add_mul_mod_self_left, Nat.mod_eq_of_lt hj]
end Go.Proofs.Ytllamoiehmdgfaa
