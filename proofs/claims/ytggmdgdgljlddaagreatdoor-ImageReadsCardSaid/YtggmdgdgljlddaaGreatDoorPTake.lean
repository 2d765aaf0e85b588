/-
  Plain facts: what bytes are read as, place by place. Nothing of Go is named here.
-/
import Derived.Test.YtggmdgdgljlddaaGreatDoorPMatb
namespace Go.Proofs.YtggmdgdgljlddaaGreatDoor

theorem ents_snoc (b : List Int) (k : Nat) : ents b (k + 1) = ents b k ++ [entAt b k] := by
  unfold ents
  rw [List.range_succ, List.map_append]
  rfl
def lastOf : Int → List En → Int
  | x, [] => x
  | _, e :: l => lastOf e.k l
theorem lastOf_snoc (l : List En) (e : En) : ∀ x, lastOf x (l ++ [e]) = e.k := by
  induction l with
  | nil => intro x; rfl
  | cons a l ih => intro x; exact ih a.k
theorem kinds_snoc (l : List En) (e : En) : ∀ x, kinds x (l ++ [e]) = (kinds x l && decide (lastOf x l < e.k)) := by
  induction l with
  | nil => intro x; show (decide (x < e.k) && true) = (true && decide (x < e.k)); rw [Bool.and_true, Bool.true_and]
  | cons a l ih => intro x; rw [List.cons_append, kinds, ih, kinds, lastOf, Bool.and_assoc]
theorem kinds_up {b : List Int} {k : Nat} (h : kinds 0 (ents b k) = false) : ∀ {m : Nat}, k ≤ m → kinds 0 (ents b m) = false := by
  intro m
  induction m with
  | zero => intro hk; rwa [show k = 0 by omega] at h
  | succ m ih =>
    intro hk
    by_cases he : k = m + 1
    · rwa [← he]
    · rw [ents_snoc, kinds_snoc, ih (by omega)]
      rfl
theorem total_snoc (l : List En) (e : En) : total (l ++ [e]) = total l + e.n := by
  unfold total
  simp
theorem total_up (b : List Int) {k m : Nat} (h : k ≤ m) : total (ents b k) ≤ total (ents b m) := by
  induction m with
  | zero => rw [show k = 0 by omega]; exact Nat.le_refl _
  | succ m ih =>
    by_cases he : k = m + 1
    · rw [he]; exact Nat.le_refl _
    · rw [ents_snoc, total_snoc]
      have := ih (by omega)
      omega
theorem total_le {b : List Int} (hb : Bs b) (k : Nat) : total (ents b k) ≤ 65535 * k := by
  induction k with
  | zero => exact Nat.le_refl _
  | succ k ih =>
    rw [ents_snoc, total_snoc]
    have h1 := getD_rg hb (10 + 7 * k)
    have h2 := getD_rg hb (11 + 7 * k)
    have : (entAt b k).n ≤ 65535 := by unfold entAt; simp only; omega
    omega
theorem lastOf_rg {b : List Int} (hb : Bs b) (k : Nat) : 0 ≤ lastOf 0 (ents b k) ∧ lastOf 0 (ents b k) ≤ 255 := by
  cases k with
  | zero => exact ⟨Int.le_refl 0, show (0 : Int) ≤ 255 by omega⟩
  | succ k =>
    rw [ents_snoc, lastOf_snoc]
    exact getD_rg hb (9 + 7 * k)
theorem bodU_snoc (e : En) : ∀ (l : List En) (r : List Int), bodU (l ++ [e]) r = (bodU l r).bind fun L => if ck4 ((r.drop (total l)).take e.n) = e.c then some (L ++ [⟨e.k, (r.drop (total l)).take e.n⟩]) else none := by
  intro l
  induction l with
  | nil =>
    intro r
    simp only [List.nil_append, bodU, total, List.map_nil, List.sum_nil, List.drop_zero, Option.bind_some]
    split <;> rfl
  | cons a l ih =>
    intro r
    rw [List.cons_append, bodU, ih, bodU]
    have ht : ∀ L : List Int, (L.drop a.n).drop (total l) = L.drop (total (a :: l)) := fun L => by
      rw [List.drop_drop]
      congr 1
    rw [ht]
    by_cases hc : ck4 (r.take a.n) = a.c
    · rw [if_pos hc, if_pos hc]
      cases bodU l (r.drop a.n) with
      | none => rfl
      | some L =>
        simp only [Option.bind_some, Option.map_some]
        split <;> rfl
    · rw [if_neg hc, if_neg hc]
      rfl
theorem bodU_up {b r : List Int} {k : Nat} (h : bodU (ents b k) r = none) : ∀ {m : Nat}, k ≤ m → bodU (ents b m) r = none := by
  intro m
  induction m with
  | zero => intro hk; rwa [show k = 0 by omega] at h
  | succ m ih =>
    intro hk
    by_cases he : k = m + 1
    · rwa [← he]
    · rw [ents_snoc, bodU_snoc, ih (by omega)]
      rfl
end Go.Proofs.YtggmdgdgljlddaaGreatDoor
