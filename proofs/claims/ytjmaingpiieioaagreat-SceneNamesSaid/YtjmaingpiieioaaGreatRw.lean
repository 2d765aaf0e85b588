/-
  Slices of structs that came in, or were made: how they read. Nothing of a program is named here.
-/
import Derived.Test.YtjmaingpiieioaaGreatWords
namespace Go.Proofs.YtjmaingpiieioaaGreat
open Go.RowKit

/-- A slice that reads as a list, each element in n cells. -/
def Rw {α : Type} (n : Nat) (f : α → Nat → Value) (d : α) (w : World) (P : Nat → Prop) (v : Value) (xs : List α) : Prop :=
  ∃ A c, v = .slice A xs.length c ∧ xs.length ≤ c ∧ c ≤ maxLen ∧
    (0 < xs.length → ∃ b o, A = some ⟨b, o, none⟩ ∧ b < w.heap.size ∧ P b ∧ ∀ j i, j < xs.length → i < n → w.cell? ⟨b, o + (j * n + i), none⟩ = some (f (xs.getD j d) i))

section
variable {α : Type} {n : Nat} {f : α → Nat → Value} {d : α} {S P : Nat → Prop} {a w : World} {v : Value} {xs : List α}
theorem Rw.nil (n : Nat) (f : α → Nat → Value) (d : α) (w : World) (P : Nat → Prop) : Rw n f d w P (.slice none 0 0) [] := ⟨none, 0, rfl, by simp, by simp, by simp⟩
theorem Rw.kp (h : Rw n f d a P v xs) (k : Kp S a w) (hn : ∀ i, i < a.heap.size → P i → ¬ S i) : Rw n f d w P v xs := by
  obtain ⟨A, c, rfl, hc, hm, h⟩ := h
  refine ⟨A, c, rfl, hc, hm, fun h0 => ?_⟩
  obtain ⟨b, o, rfl, hb, hp, hcell⟩ := h h0
  exact ⟨b, o, rfl, Nat.lt_of_lt_of_le hb k.size, hp, fun j i hj hi => (k.cell (p := ⟨b, o + (j * n + i), none⟩) hb (hn b hb hp)).trans (hcell j i hj hi)⟩
theorem Rw.kp0 (h : Rw n f d a P v xs) (k : Kp No a w) : Rw n f d w P v xs := h.kp k fun _ _ _ h => h
theorem Rw.there {A : Option Addr} {m c : Nat} (h : Rw n f d w P (.slice A m c) xs) (h0 : 0 < xs.length) : ∃ b o, A = some ⟨b, o, none⟩ := by
  obtain ⟨A', c', he, _, _, hr⟩ := h
  injection he with e1 _ e3
  subst e1 e3
  obtain ⟨b', o', e8, _⟩ := hr h0
  exact ⟨b', o', e8⟩
theorem Rw.cell {A : Option Addr} {m c b o j i : Nat} (h : Rw n f d a P (.slice A m c) xs) (k : Kp No a w) (hj : j < xs.length) (hi : i < n) (hA : A = some ⟨b, o, none⟩) : w.cell? ⟨b, o + (j * n + i), none⟩ = some (f (xs.getD j d) i) := by
  obtain ⟨A', c', he, _, _, hr⟩ := h.kp0 k
  injection he with e1 _ e3
  subst e1 e3
  obtain ⟨b', o', e8, _, _, hc⟩ := hr (by omega)
  rw [hA] at e8
  cases e8
  exact hc j i hj hi
end
end Go.Proofs.YtjmaingpiieioaaGreat
