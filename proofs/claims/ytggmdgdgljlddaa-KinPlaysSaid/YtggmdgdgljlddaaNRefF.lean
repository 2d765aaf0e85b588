/-
  The document's list behind each operation; contract of its without.
-/
import Derived.Test.YtggmdgdgljlddaaNRefE
import Derived.Test.YtggmdgdgljlddaaNMovB
namespace Go.Proofs.Ytggmdgdgljlddaa
open Go.RowKit

def wo (L : List (Int × Int)) (id : Int) : List (Int × Int) := L.filter fun y => decide (y.1 ≠ id)
section
variable {T : Tre} {D : Int → Nat} {L : List (Int × Int)} {id p x : Int}
theorem LT.new : LT [] newT := ⟨List.nodup_nil, fun x p => by
  unfold newT
  constructor
  · intro h; cases h
  · rintro ⟨h0, ks, e⟩
    rw [if_neg h0] at e
    cases e⟩
theorem wo_mem : (x, p) ∈ wo L id ↔ (x, p) ∈ L ∧ x ≠ id := by
  unfold wo
  rw [List.mem_filter]
  simp
theorem wo_nd (h : (L.map (·.1)).Nodup) : ((wo L id).map (·.1)).Nodup := by
  refine List.Nodup.sublist ?_ h
  exact List.Sublist.map _ List.filter_sublist
theorem wo_no : id ∉ (wo L id).map (·.1) := by
  intro h
  obtain ⟨⟨y, q⟩, hy, e⟩ := List.mem_map.1 h
  simp only at e
  subst e
  exact (wo_mem.1 hy).2 rfl
theorem nd_snoc {L : List (Int × Int)} (h : (L.map (·.1)).Nodup) (hn : id ∉ L.map (·.1)) : ((L ++ [(id, p)]).map (·.1)).Nodup := by
  rw [List.map_append, List.nodup_append]
  refine ⟨h, by simp, fun a ha b hb e => ?_⟩
  simp only [List.map_cons, List.map_nil, List.mem_singleton] at hb
  subst e
  subst hb
  exact hn ha
theorem LT.add (h : LT L T) {q : Int × List Int} (hp : T p = some q) (hn : T id = Option.none) (h0 : id ≠ 0) : LT (L ++ [(id, p)]) (hangT T id p []) := by
  refine ⟨nd_snoc h.nd fun hm => ?_, fun x p' => ?_⟩
  · obtain ⟨⟨y, q'⟩, hy, e⟩ := List.mem_map.1 hm
    simp only at e
    subst e
    obtain ⟨_, ks, e⟩ := (h.mem y q').1 hy
    rw [hn] at e
    cases e
  · rw [List.mem_append, List.mem_singleton, h.mem, hang_at hp]
    by_cases e1 : x = p
    · have e2 : x ≠ id := fun e => by rw [← e1, e, hn] at hp; cases hp
      rw [if_pos e1, e1, hp]
      constructor
      · rintro (⟨g0, ks, e⟩ | e)
        · cases e
          exact ⟨g0, _, rfl⟩
        · cases e
          exact absurd e1 e2
      · rintro ⟨g0, ks, e⟩
        cases e
        exact .inl ⟨g0, _, rfl⟩
    · rw [if_neg e1]
      by_cases e2 : x = id
      · rw [if_pos e2, e2, hn]
        constructor
        · rintro (⟨_, ks, e⟩ | e)
          · cases e
          · cases e
            exact ⟨h0, [], rfl⟩
        · rintro ⟨_, ks, e⟩
          cases e
          exact .inr rfl
      · rw [if_neg e2]
        constructor
        · rintro (h | e)
          · exact h
          · cases e
            exact absurd rfl e2
        · exact fun h => .inl h
theorem LT.drop (h : LT L T) (W : WT T D) {q : Int × List Int} (hq : T id = some q) (h0 : id ≠ 0) : LT (wo L id) (cutT T id) := by
  obtain ⟨r, hr, _, hne, hc⟩ := cut_at W hq h0
  refine ⟨wo_nd h.nd, fun x p' => ?_⟩
  rw [wo_mem, h.mem, hc]
  by_cases e1 : x = q.1
  · rw [if_pos e1, e1, hr]
    constructor
    · rintro ⟨⟨g0, ks, e⟩, _⟩
      cases e
      exact ⟨g0, _, rfl⟩
    · rintro ⟨g0, ks, e⟩
      cases e
      exact ⟨⟨g0, _, rfl⟩, hne⟩
  · rw [if_neg e1]
    by_cases e2 : x = id
    · rw [if_pos e2]
      exact ⟨fun h => absurd e2 h.2, fun ⟨_, _, e⟩ => (by cases e)⟩
    · rw [if_neg e2]
      exact ⟨fun h => h.1, fun h => ⟨h, e2⟩⟩
theorem LT.move (h : LT L T) (W : WT T D) {q q2 : Int × List Int} (hq : T id = some q) (h0 : id ≠ 0) (hp : T p = some q2) (hl : id ∉ path T p) : LT (wo L id ++ [(id, p)]) (movT T id p) := by
  have hm := mov_at W hq h0 hp hl
  refine ⟨nd_snoc (wo_nd h.nd) wo_no, fun x p' => ?_⟩
  rw [List.mem_append, List.mem_singleton, wo_mem, h.mem, hm]
  by_cases e : x = id
  · rw [e, hq]
    constructor
    · rintro (⟨_, h⟩ | h)
      · exact absurd rfl h
      · cases h
        exact ⟨h0, _, by rw [Option.map_some, if_pos rfl]⟩
    · rintro ⟨_, ks, h⟩
      rw [Option.map_some, if_pos rfl] at h
      cases h
      exact .inr rfl
  · constructor
    · rintro (⟨⟨g0, ks, h⟩, _⟩ | h)
      · exact ⟨g0, _, by rw [h, Option.map_some, if_neg e]⟩
      · cases h
        exact absurd rfl e
    · rintro ⟨g0, ks, h⟩
      cases hT : T x with
      | none => rw [hT] at h; cases h
      | some a =>
        rw [hT, Option.map_some, if_neg e] at h
        cases h
        exact .inl ⟨⟨g0, a.2, rfl⟩, e⟩
end
end Go.Proofs.Ytggmdgdgljlddaa
