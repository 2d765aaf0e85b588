/-
  Slices that came in: how they read. Nothing of a program is named here.
-/
import Derived.Test.YtoeeighfjoplhaaWords
import Derived.DataReads
import Derived.OpenShut
namespace Go.Proofs.Ytoeeighfjoplhaa
open Go.RowKit

/-- A slice that reads as a list, each element in one cell. -/
def Sl {α : Type} (f : α → Value) (d : α) (w : World) (P : Nat → Prop) (v : Value) (xs : List α) : Prop :=
  ∃ A c, v = .slice A xs.length c ∧ xs.length ≤ c ∧ c ≤ maxLen ∧
    (0 < xs.length → ∃ b o, A = some ⟨b, o, none⟩ ∧ b < w.heap.size ∧ P b ∧ ∀ j, j < xs.length → w.cell? ⟨b, o + j, none⟩ = some (f (xs.getD j d)))

section
variable {α : Type} {f : α → Value} {d : α} {S P : Nat → Prop} {a w : World} {v : Value} {xs : List α}
theorem Sl.nil (f : α → Value) (d : α) (w : World) (P : Nat → Prop) : Sl f d w P (.slice none 0 0) [] := ⟨none, 0, rfl, by simp, by simp, by simp⟩
theorem Sl.kp (h : Sl f d a P v xs) (k : Kp S a w) (hn : ∀ i, i < a.heap.size → P i → ¬ S i) : Sl f d w P v xs := by
  obtain ⟨A, c, rfl, hc, hm, h⟩ := h
  refine ⟨A, c, rfl, hc, hm, fun h0 => ?_⟩
  obtain ⟨b, o, rfl, hb, hp, hcell⟩ := h h0
  exact ⟨b, o, rfl, Nat.lt_of_lt_of_le hb k.size, hp, fun j hj => (k.cell (p := ⟨b, o + j, none⟩) hb (hn b hb hp)).trans (hcell j hj)⟩
theorem Sl.below (h : Sl f d w P v xs) : Sl f d w (fun i => i < w.heap.size) v xs := by
  obtain ⟨A, c, rfl, hc, hm, h⟩ := h
  refine ⟨A, c, rfl, hc, hm, fun h0 => ?_⟩
  obtain ⟨b, o, rfl, hb, hp, hcell⟩ := h h0
  exact ⟨b, o, rfl, hb, hb, hcell⟩
theorem Sl.of_row {x : Addr} {l c : Nat} {zs : List α} (hl : l ≤ c) (hm : c ≤ maxLen) (hz : zs.length = c) (hcell : ∀ i, i < zs.length → w.cell? (x.add i) = some (f (zs.getD i d))) :
    Sl f d w Anyb (.slice (some x) l c) (zs.take l) := by
  have hlen : (zs.take l).length = l := by simp; omega
  refine ⟨some x, c, by rw [hlen], by omega, hm, fun h0 => ?_⟩
  rw [hlen] at h0 ⊢
  obtain ⟨b, o, spot⟩ := x
  have h1 := hcell 0 (by omega)
  have hs : spot = none := by simpa [Addr.add] using World.cell?_spot h1
  subst hs
  refine ⟨b, o, rfl, by simpa [Addr.add] using World.block_lt_of_cell? w _ h1, trivial, fun j hj => ?_⟩
  have ha : (⟨b, o, none⟩ : Addr).add j = ⟨b, o + j, none⟩ := by unfold Addr.add; split <;> simp_all
  rw [← ha, hcell j (by omega)]
  simp [List.getD, hj]
end

theorem Sl.of_fun {α : Type} {f : α → Value} {d : α} {w : World} {x : Addr} {l c : Nat} {B : Nat → α} (hl : l ≤ c) (hm : c ≤ maxLen) (hcell : ∀ i, i < c → w.cell? (x.add i) = some (f (B i))) :
    Sl f d w Anyb (.slice (some x) l c) (((List.range c).map B).take l) :=
  Sl.of_row hl hm (by simp) fun i hi => by
    have hi' : i < c := by simpa using hi
    rw [hcell i hi']
    simp [List.getD, hi']

theorem Byt.of_row {w : World} {x : Addr} {l c : Nat} {zs : List Int} (hl : l ≤ c) (hm : c ≤ maxLen) (hz : zs.length = c) (hcell : ∀ i, i < zs.length → w.cell? (x.add i) = some (.int .u8 (zs.getD i 0)))
    (hwz : ∀ n ∈ zs, (Lit.int .u8 n).wf = true) : Byt w Anyb (.slice (some x) l c) (zs.take l) := by
  obtain ⟨A, c', he, h1, h2, h3⟩ := Sl.of_row (f := Value.int .u8) (d := 0) hl hm hz hcell
  exact ⟨A, c', he, h1, h2, fun n hn => bounds_u8 (hwz n (List.mem_of_mem_take hn)), h3⟩
theorem Byt.below {w : World} {P : Nat → Prop} {v : Value} {xs : List Int} (h : Byt w P v xs) : Byt w (fun i => i < w.heap.size) v xs := h.old.mono fun _ _ h => h.2
theorem Byt.kp0 {a w : World} {P : Nat → Prop} {v : Value} {xs : List Int} (h : Byt a P v xs) (k : Kp No a w) : Byt w P v xs := h.kp k fun _ _ h => h

end Go.Proofs.Ytoeeighfjoplhaa
