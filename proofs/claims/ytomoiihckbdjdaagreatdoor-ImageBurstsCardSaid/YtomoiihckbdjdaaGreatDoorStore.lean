/-
  A byte that is stored into bytes which the call owns: nothing of a program is named here.
-/
import Derived.Test.YtomoiihckbdjdaaGreatDoorBytes
namespace Go.Proofs.YtomoiihckbdjdaaGreatDoor
open Go.RowKit

section
variable {w : World} {base : Nat} {e : TypeId} {v : Value} {xs : List Int}
theorem Own.spot (h : Own w base e v xs) (h0 : 0 < xs.length) : ∃ g c, v = .slice (some ⟨g, 0, none⟩) xs.length c ∧ base ≤ g ∧ c ≤ maxLen ∧ xs.length ≤ c ∧
    (∀ j, j < xs.length → w.cell? ⟨g, j, none⟩ = some (.int .u8 (xs.getD j 0))) ∧ ∀ j, w.frozen? ⟨g, j, none⟩ = false := by
  rcases h.1.2 with ⟨rfl, h1⟩ | ⟨g, cap, cur, rfl, hb, hg, hl, hm, hs, ht⟩
  · omega
  · refine ⟨g, cap, rfl, hb, hm, hl, fun j hj => ?_, fun j => Blk.frozen (cs := cur) hg j⟩
    have := h.1.cellAt j (by simpa using hj)
    rw [this]
    simp [List.getElem?_map, List.getElem?_eq_getElem hj]
theorem Own.put {g n c : Nat} (h : Own w base e (.slice (some ⟨g, 0, none⟩) n c) xs) (k : Nat) (y : Int) (hy : 0 ≤ y ∧ y ≤ 255) :
    Own (w.setCell ⟨g, k, none⟩ (.int .u8 y)) base e (.slice (some ⟨g, 0, none⟩) n c) (xs.set k y) := by
  rcases h.1.2 with ⟨h0, _⟩ | ⟨g', cap, cur, hv, hb, hg, hl, hm, hs, ht⟩
  · cases h0
  · injection hv with e1 e2 e3
    injection e1 with e1
    injection e1 with e1 _ _
    subst e1 e2 e3
    refine ⟨⟨by simp, .inr ⟨g, c, cur.setIfInBounds k (.int .u8 y), by simp, hb, Blk.put (cs := cur) hg k (.int .u8 y), by simpa using hl, hm, by simpa using hs, ?_⟩⟩, fun z hz => ?_⟩
    · rw [Array.toList_setIfInBounds, List.take_set, List.length_set, ht, List.map_set]
    · rcases List.mem_or_eq_of_mem_set hz with hz | rfl
      · exact h.2 z hz
      · exact hy
end
end Go.Proofs.YtomoiihckbdjdaaGreatDoor
