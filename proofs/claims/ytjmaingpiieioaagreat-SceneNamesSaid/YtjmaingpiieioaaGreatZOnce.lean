/-
  Plain facts for SceneOnce: what is shuffled has the same groups below the first one, and the same tasks; what Check tells of it.
-/
import Derived.Test.YtjmaingpiieioaaGreatZShuf
import Derived.Test.YtjmaingpiieioaaGreatZAwake
namespace Go.Proofs.YtjmaingpiieioaaGreat

theorem rot_perm {α : Type} (l : List α) (b : Nat) (d : α) : ((List.range l.length).map fun i => l.getD ((i + b) % l.length) d).Perm l := by
  have e : ((List.range l.length).map fun i => l.getD ((i + b) % l.length) d) = l.drop (b % l.length) ++ l.take (b % l.length) := by
    apply List.ext_getElem?
    intro i
    by_cases hi : i < l.length
    · have hL : 0 < l.length := by omega
      have hk := Nat.mod_lt b hL
      have hm : (i + b) % l.length = if i + b % l.length < l.length then i + b % l.length else i + b % l.length - l.length := by
        rw [Nat.add_mod, Nat.mod_eq_of_lt hi]
        split
        · rename_i h
          exact Nat.mod_eq_of_lt h
        · rename_i h
          rw [Nat.mod_eq_sub_mod (by omega), Nat.mod_eq_of_lt (by omega)]
      rw [List.getElem?_map, List.getElem?_range hi, Option.map_some, hm, List.getElem?_append, List.length_drop]
      split
      · rename_i h
        rw [if_pos (by omega), List.getElem?_drop, List.getD, show b % l.length + i = i + b % l.length by omega, List.getElem?_eq_getElem h, Option.getD_some]
      · rename_i h
        rw [if_neg (by omega), List.getElem?_take_of_lt (by omega), List.getD, show i - (l.length - b % l.length) = i + b % l.length - l.length by omega, List.getElem?_eq_getElem (by omega), Option.getD_some]
    · rw [List.getElem?_eq_none (by simp; omega), List.getElem?_eq_none (by simp; omega)]
  rw [e]
  refine List.perm_append_comm.trans ?_
  rw [List.take_append_drop]
def rotG (gt : List GS) (b : Nat) : List GS := (List.range gt.length).map fun i => gt.getD ((i + b) % gt.length) gs0
theorem outG_cons (g0 : GS) (gt : List GS) (b : Nat) : outG (g0 :: gt) b (gt.length + 1) = g0 :: rotG gt b := by
  unfold outG rotG
  rw [List.range_succ_eq_map, List.map_cons, List.map_map]
  congr 1
  apply List.map_congr_left
  intro i hi
  show (g0 :: gt).getD (if i + 1 = 0 then 0 else 1 + (i + 1 - 1 + b) % (gt.length + 1 - 1)) gs0 = _
  rw [if_neg (by omega), show 1 + (i + 1 - 1 + b) % (gt.length + 1 - 1) = (i + b) % gt.length + 1 by rw [Nat.add_comm 1]; rfl]
  rfl
theorem outT_perm (ts : List TS) (b : Nat) : (outT ts b ts.length).Perm ts := rot_perm ts b ts0
theorem check0 {g0 : GS} {gt : List GS} {ts : List TS} (h : checkS (g0 :: gt) ts = 0) : ¬ (4096 < (g0 :: gt).length ∨ 4096 < ts.length) ∧ ¬ ((g0 :: gt).any wrongG = true ∨ ts.any wrongT = true) ∧ (idsOf (g0 :: gt) ts).Nodup ∧ ¬ lostB g0 gt ts = true ∧ ordB (g0 :: gt) ts = true ∧ tallG (g0 :: gt) < 16 := by
  rw [checkS_cons] at h
  by_cases h1 : 4096 < (g0 :: gt).length ∨ 4096 < ts.length
  · rw [if_pos h1] at h
    exact absurd h (by decide)
  rw [if_neg h1] at h
  by_cases h2 : (g0 :: gt).any wrongG = true ∨ ts.any wrongT = true
  · rw [if_pos h2] at h
    exact absurd h (by decide)
  rw [if_neg h2] at h
  by_cases h3 : (idsOf (g0 :: gt) ts).Nodup
  · rw [if_neg (fun n => n h3)] at h
    by_cases h4 : lostB g0 gt ts = true
    · rw [if_pos h4] at h
      exact absurd h (by decide)
    rw [if_neg h4] at h
    by_cases h5 : ordB (g0 :: gt) ts = false
    · rw [if_pos h5] at h
      exact absurd h (by decide)
    rw [if_neg h5] at h
    by_cases h6 : 16 ≤ tallG (g0 :: gt)
    · rw [if_pos h6] at h
      exact absurd h (by decide)
    exact ⟨h1, h2, h3, h4, by simpa using h5, by omega⟩
  · rw [if_pos h3] at h
    exact absurd h (by decide)
theorem any_perm {α : Type} {a b : List α} (h : a.Perm b) (p : α → Bool) : a.any p = b.any p := by
  rw [Bool.eq_iff_iff, List.any_eq_true, List.any_eq_true]
  exact ⟨fun ⟨x, hx, e⟩ => ⟨x, h.mem_iff.1 hx, e⟩, fun ⟨x, hx, e⟩ => ⟨x, h.mem_iff.2 hx, e⟩⟩
/-- What is told of a scene whose groups, but the first one, and tasks stand in another order. -/
theorem check_shuf {g0 : GS} {gt gt' : List GS} {ts ts' : List TS} (h : checkS (g0 :: gt) ts = 0) (hg : gt'.Perm gt) (ht : ts'.Perm ts) :
    orderG (g0 :: gt) = g0 :: gt ∧ srtT ts = ts ∧ orderG (g0 :: gt') = g0 :: gt ∧ srtT ts' = ts ∧ ((g0 :: gt').map (·.id)).Nodup ∧ (ts'.map (·.id)).Nodup ∧ ((g0 :: gt).map (·.id)).Nodup ∧ (ts.map (·.id)).Nodup ∧
    checkS (g0 :: gt') ts' = if g0 :: gt' = g0 :: gt ∧ ts' = ts then 0 else 5 := by
  obtain ⟨h1, h2, h3, h4, h5, h6⟩ := check0 h
  have hc := h
  have hP : (g0 :: gt').Perm (g0 :: gt) := hg.cons g0
  have hn1 := (List.nodup_append.1 h3).1
  have hn2 := (List.nodup_append.1 h3).2.1
  have hn3 : ((g0 :: gt').map (·.id)).Nodup := ((hP.map (·.id)).nodup_iff).2 hn1
  have hn4 : (ts'.map (·.id)).Nodup := ((ht.map (·.id)).nodup_iff).2 hn2
  have hor := h5
  unfold ordB at hor
  rw [Bool.and_eq_true, decide_eq_true_eq, decide_eq_true_eq] at hor
  have ho : orderG (g0 :: gt') = g0 :: gt := by
    have : visits (g0 :: gt') = visits (g0 :: gt) := visits_perm (srtG_of (List.nodup_cons.1 hn1).2 hg) hg.length_eq
    unfold orderG
    rw [this]
    exact hor.1.symm
  have hs : srtT ts' = ts := (srtT_of hn2 ht).trans hor.2.symm
  refine ⟨hor.1.symm, hor.2.symm, ho, hs, hn3, hn4, hn1, hn2, ?_⟩
  by_cases he : g0 :: gt' = g0 :: gt ∧ ts' = ts
  · rw [if_pos he]
    injection he.1 with _ e1
    rw [e1, he.2]
    exact hc
  · rw [if_neg he, checkS_cons]
    have a1 : ¬ (4096 < (g0 :: gt').length ∨ 4096 < ts'.length) := by rw [hP.length_eq, ht.length_eq]; exact h1
    have a2 : ¬ ((g0 :: gt').any wrongG = true ∨ ts'.any wrongT = true) := by rw [any_perm hP, any_perm ht]; exact h2
    have a3 : (idsOf (g0 :: gt') ts').Nodup := by
      unfold idsOf
      exact (((hP.map fun g : GS => g.id).append (ht.map fun t : TS => t.id)).nodup_iff).2 h3
    have a4 : ¬ lostB g0 gt' ts' = true := by
      have hm : ∀ x : Int, decide (x ∈ (g0 :: gt').map (·.id)) = decide (x ∈ (g0 :: gt).map (·.id)) := fun x => by
        rw [Bool.eq_iff_iff, decide_eq_true_eq, decide_eq_true_eq]
        exact (hP.map (·.id)).mem_iff
      have e : lostB g0 gt' ts' = lostB g0 gt ts := by
        unfold lostB
        simp only [hm]
        rw [any_perm hP, any_perm ht]
      rw [e]
      exact h4
    have a5 : ordB (g0 :: gt') ts' = false := by
      unfold ordB
      rw [ho, hs, Bool.and_eq_false_iff, decide_eq_false_iff_not, decide_eq_false_iff_not]
      by_cases e : g0 :: gt' = g0 :: gt
      · exact .inr fun e2 => he ⟨e, e2⟩
      · exact .inl e
    rw [if_neg a1, if_neg a2, if_neg (fun n => n a3), if_neg a4, if_pos a5]
end Go.Proofs.YtjmaingpiieioaaGreat
