/-
  Plain facts on the order of a scene's groups: sorted rows, and what a falling row of groups gives. Nothing of Go is named here.
-/
import Derived.Test.YtjmaingpiieioaaGreatZMod
namespace Go.Proofs.YtjmaingpiieioaaGreat

section
variable {gs ys tl : List GS} {x : Int}
theorem srtG_pair (l : List GS) : (srtG l).Pairwise (fun a b => a.id ≤ b.id) := by
  have := List.pairwise_mergeSort (le := fun a b : GS => decide (a.id ≤ b.id)) (by simp; omega) (by simp; omega) l
  exact this.imp fun h => by simpa using h
theorem srtT_pair (l : List TS) : (srtT l).Pairwise (fun a b => a.id ≤ b.id) := by
  have := List.pairwise_mergeSort (le := fun a b : TS => decide (a.id ≤ b.id)) (by simp; omega) (by simp; omega) l
  exact this.imp fun h => by simpa using h
/-- Of lists without a number twice there is one in order. -/
theorem uniq {α : Type} (key : α → Int) : ∀ (l1 l2 : List α), l1.Perm l2 → l1.Pairwise (fun a b => key a ≤ key b) → l2.Pairwise (fun a b => key a ≤ key b) → (∀ a ∈ l1, ∀ b ∈ l1, key a = key b → a = b) → l1 = l2
  | [], l2, h, _, _, _ => h.nil_eq
  | a :: l1, [], h, _, _, _ => absurd h.length_eq (by simp)
  | a :: l1, b :: l2, h, h1, h2, hi => by
    rw [List.pairwise_cons] at h1 h2
    have ha : a ∈ b :: l2 := h.mem_iff.1 List.mem_cons_self
    have hb : b ∈ a :: l1 := h.mem_iff.2 List.mem_cons_self
    have e : a = b := by
      refine hi a List.mem_cons_self b hb (Int.le_antisymm ?_ ?_)
      · rcases List.mem_cons.1 hb with e | e
        · rw [e]
          exact Int.le_refl _
        · exact h1.1 b e
      · rcases List.mem_cons.1 ha with e | e
        · rw [e]
          exact Int.le_refl _
        · exact h2.1 a e
    subst e
    rw [uniq key l1 l2 h.cons_inv h1.2 h2.2 fun x hx y hy => hi x (List.mem_cons_of_mem _ hx) y (List.mem_cons_of_mem _ hy)]
theorem idT_inj {l : List TS} (h : (l.map (·.id)).Nodup) {a b : TS} (ha : a ∈ l) (hb : b ∈ l) (e : a.id = b.id) : a = b := by
  induction l with
  | nil => cases ha
  | cons y l ih =>
    rw [List.map_cons, List.nodup_cons] at h
    rcases List.mem_cons.1 ha with e1 | h1
    · rcases List.mem_cons.1 hb with e2 | h2
      · rw [e1, e2]
      · exact absurd (List.mem_map.2 ⟨b, h2, by rw [← e, e1]⟩) h.1
    · rcases List.mem_cons.1 hb with e2 | h2
      · exact absurd (List.mem_map.2 ⟨a, h1, by rw [e, e2]⟩) h.1
      · exact ih h.2 h1 h2
/-- A falling row of the same groups is the rising one turned round. -/
theorem falling (hnd : (gs.map (·.id)).Nodup) (hp : ys.Perm gs) (hs : ys.Pairwise (fun a b => b.id ≤ a.id)) : ys = (srtG gs).reverse := by
  have h1 : ys.reverse.Pairwise (fun a b => a.id ≤ b.id) := List.pairwise_reverse.2 hs
  have h2 := uniq GS.id ys.reverse (srtG gs) ((List.reverse_perm ys).trans (hp.trans (srtG_perm gs).symm)) h1 (srtG_pair gs) fun _ ha _ hb e => id_inj hnd (hp.mem_iff.1 (List.mem_reverse.1 ha)) (hp.mem_iff.1 (List.mem_reverse.1 hb)) e
  rw [← h2, List.reverse_reverse]
theorem rising {ts zs : List TS} (hnd : (ts.map (·.id)).Nodup) (hp : zs.Perm ts) (hs : zs.Pairwise (fun a b => a.id ≤ b.id)) : zs = srtT ts :=
  uniq TS.id zs (srtT ts) (hp.trans (srtT_perm ts).symm) hs (srtT_pair ts) fun _ ha _ hb e => idT_inj hnd (hp.mem_iff.1 ha) (hp.mem_iff.1 hb) e
theorem srtG_of (hnd : (gs.map (·.id)).Nodup) (hp : ys.Perm gs) : srtG ys = srtG gs :=
  uniq GS.id _ _ ((srtG_perm ys).trans (hp.trans (srtG_perm gs).symm)) (srtG_pair ys) (srtG_pair gs) fun _ ha _ hb e => id_inj hnd (hp.mem_iff.1 ((srtG_perm ys).mem_iff.1 ha)) (hp.mem_iff.1 ((srtG_perm ys).mem_iff.1 hb)) e
theorem srtT_of {ts zs : List TS} (hnd : (ts.map (·.id)).Nodup) (hp : zs.Perm ts) : srtT zs = srtT ts :=
  uniq TS.id _ _ ((srtT_perm zs).trans (hp.trans (srtT_perm ts).symm)) (srtT_pair zs) (srtT_pair ts) fun _ ha _ hb e => idT_inj hnd (hp.mem_iff.1 ((srtT_perm zs).mem_iff.1 ha)) (hp.mem_iff.1 ((srtT_perm zs).mem_iff.1 hb)) e
theorem kids_rev (hnd : (tl.map (·.id)).Nodup) (hp : ys.Perm tl) (hs : ys.Pairwise (fun a b => b.id ≤ a.id)) : (ys.filter fun g => decide (g.par = x)) = (kidsA tl x).reverse := by
  rw [falling hnd hp hs, kidsA, List.filter_reverse]
/-- No place is further down than it is behind the first one. -/
theorem vis_down {K : Int → List GS} {g0 : GS} {o : List Pl} (h : Vis K [(g0, 0)] o) : ∀ (n i : Nat) (p : Pl), i < n → o[i]? = some p → p.2 ≤ i := by
  intro n
  induction n with
  | zero => intro i p hi; omega
  | succ n ih =>
    intro i p hi hp
    rcases h.up i p hp with h1 | ⟨j, q, h1, h2, _, h4⟩
    · rw [List.mem_singleton] at h1
      rw [h1]
      exact Nat.zero_le _
    · have := ih j q (by omega) h2
      omega
/-- What is known of the place that comes next. -/
theorem visits_next {g0 g : GS} {d : Nat} {seen out : List Pl} (hnd : ((g0 :: tl).map (·.id)).Nodup) (h : visits (g0 :: tl) = seen ++ (g, d) :: out) :
    g ∈ g0 :: tl ∧ g.id ∉ seen.map (·.1.id) ∧ d ≤ seen.length ∧ seen.length + 1 + out.length ≤ tl.length + 1 := by
  obtain ⟨h1, h2, h3, h4⟩ := visits_is hnd
  refine ⟨h3 g ?_, fun hm => ?_, ?_, ?_⟩
  · unfold orderG
    rw [h]
    simp
  · unfold orderG at h2
    rw [h, List.map_append, List.map_append, List.nodup_append] at h2
    refine h2.2.2 g.id ?_ g.id (by simp) rfl
    obtain ⟨p, hp, e⟩ := List.mem_map.1 hm
    exact List.mem_map.2 ⟨p.1, List.mem_map.2 ⟨p, hp, rfl⟩, e⟩
  · have := vis_down h1 (seen.length + 1) seen.length (g, d) (by omega) (by rw [h]; simp)
    exact this
  · rw [h] at h4
    simp at h4
    omega
end
end Go.Proofs.YtjmaingpiieioaaGreat
