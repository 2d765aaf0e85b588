/-
  Plain facts for SceneParts: a scene in order without its tasks, and without its last group if no task is in it.
-/
import Derived.Test.YtjmaingpiieioaaGreatZOnce
namespace Go.Proofs.YtjmaingpiieioaaGreat

/-- A leaf struck out of what is told. -/
theorem Vis.strike {K K' : Int → List GS} {L : GS} (hL : K L.id = []) (hK : ∀ x, K' x = (K x).filter fun g => decide (g ≠ L)) {st o : List Pl} (h : Vis K st o) :
    Vis K' (st.filter fun p => decide (p.1 ≠ L)) (o.filter fun p => decide (p.1 ≠ L)) := by
  induction h with
  | nil => exact .nil
  | @pop g d st out h ih =>
    by_cases e : g = L
    · subst e
      rw [List.filter_cons_of_neg (by simp), List.filter_cons_of_neg (by simp)]
      rw [hL] at ih
      simpa [lay] using ih
    · rw [List.filter_cons_of_pos (by simpa using e), List.filter_cons_of_pos (by simpa using e)]
      refine .pop ?_
      rw [List.filter_append] at ih
      have : (lay (d + 1) (K g.id)).filter (fun p => decide (p.1 ≠ L)) = lay (d + 1) (K' g.id) := by
        rw [hK]
        unfold lay
        rw [List.filter_map]
        rfl
      rw [this] at ih
      exact ih
theorem tl_foldl (l : List Pl) : ∀ a, l.foldl (fun m p => max m p.2) a = max a (tl l) := by
  induction l with
  | nil => intro a; simp [tl]
  | cons x l ih =>
    intro a
    unfold tl
    simp only [List.foldl_cons]
    rw [ih, ih]
    omega
theorem tl_cons (x : Pl) (l : List Pl) : tl (x :: l) = max x.2 (tl l) := by
  show (x :: l).foldl (fun m p => max m p.2) 0 = _
  rw [List.foldl_cons, tl_foldl]
  omega
theorem tl_filter (p : Pl → Bool) : ∀ l : List Pl, tl (l.filter p) ≤ tl l
  | [] => by simp
  | x :: l => by
    have := tl_filter p l
    rw [List.filter_cons, tl_cons]
    split
    · rw [tl_cons]
      omega
    · omega
section
variable {g0 L : GS} {gi : List GS}
theorem strike_last (l : List GS) (h : ((l ++ [L]).map (·.id)).Nodup) : (l ++ [L]).filter (fun g => decide (g ≠ L)) = l := by
  rw [List.filter_append, List.filter_eq_self.2, List.filter_cons_of_neg (by simp)]
  · simp
  · intro a ha
    rw [List.map_append, List.nodup_append] at h
    rw [decide_eq_true_eq]
    rintro rfl
    exact h.2.2 a.id (List.mem_map.2 ⟨a, ha, rfl⟩) a.id (by simp) rfl
/-- The last group of a scene in order has none below it. -/
theorem last_leaf (hnd : ((g0 :: (gi ++ [L])).map (·.id)).Nodup) (ho : orderG (g0 :: (gi ++ [L])) = g0 :: (gi ++ [L])) : kidsA (gi ++ [L]) L.id = [] := by
  obtain ⟨hv, _, _, _⟩ := visits_is hnd
  refine List.eq_nil_iff_forall_not_mem.2 fun k hk => ?_
  have hlen : (visits (g0 :: (gi ++ [L]))).length = gi.length + 2 := by
    have := congrArg List.length ho
    unfold orderG at this
    rw [List.length_map] at this
    simpa using this
  have hat : ∀ (i : Nat) (p : Pl), (visits (g0 :: (gi ++ [L])))[i]? = some p → (g0 :: (gi ++ [L]))[i]? = some p.1 := fun i p h => by
    rw [← ho]
    unfold orderG
    rw [List.getElem?_map, h]
    rfl
  -- the last place is L's
  have hLm : L ∈ orderG (g0 :: (gi ++ [L])) := by rw [ho]; simp
  unfold orderG at hLm
  obtain ⟨q, hq, hqL⟩ := List.mem_map.1 hLm
  have hkv := hv.kids q hq k (by rw [hqL]; exact hk)
  obtain ⟨i, hi⟩ := List.mem_iff_getElem?.1 hkv
  have hkt := (mem_kids.1 hk).1
  have hkp := (mem_kids.1 hk).2
  rcases hv.up i _ hi with h1 | ⟨j, p, hj, hp, hpk, _⟩
  · have h1 : k = g0 := by
      rw [List.mem_singleton] at h1
      exact congrArg Prod.fst h1
    subst h1
    rw [List.map_cons, List.nodup_cons] at hnd
    exact hnd.1 (List.mem_map.2 ⟨k, hkt, rfl⟩)
  · have hpp := (mem_kids.1 hpk).2
    have hpm := hat j p hp
    have hpmem : p.1 ∈ g0 :: (gi ++ [L]) := List.mem_iff_getElem?.2 ⟨j, hpm⟩
    have e : p.1 = L := id_inj hnd hpmem (by simp) (by rw [← hpp, hkp])
    rw [e] at hpm
    have hLlast : (g0 :: (gi ++ [L]))[gi.length + 1]? = some L := by simp
    have hjl : j < (g0 :: (gi ++ [L])).length := (List.getElem?_eq_some_iff.1 hpm).1
    have hil : i < (visits (g0 :: (gi ++ [L]))).length := (List.getElem?_eq_some_iff.1 hi).1
    have hne : j ≠ gi.length + 1 := by omega
    -- L stands at one place alone
    have hl2 : (g0 :: (gi ++ [L])).length = gi.length + 2 := by simp
    have hpw : (g0 :: (gi ++ [L])).Pairwise (fun a b => a.id ≠ b.id) := List.pairwise_map.1 hnd
    have := List.pairwise_iff_getElem.1 hpw j (gi.length + 1) hjl (by omega) (by omega)
    rw [List.getElem?_eq_getElem hjl] at hpm
    rw [List.getElem?_eq_getElem (by omega)] at hLlast
    injection hpm with e1
    injection hLlast with e2
    rw [e1, e2] at this
    exact this rfl
theorem order_strike (hnd : ((g0 :: (gi ++ [L])).map (·.id)).Nodup) (ho : orderG (g0 :: (gi ++ [L])) = g0 :: (gi ++ [L])) :
    orderG (g0 :: gi) = g0 :: gi ∧ tallG (g0 :: gi) ≤ tallG (g0 :: (gi ++ [L])) := by
  have hleaf := last_leaf hnd ho
  obtain ⟨hv, _, _, _⟩ := visits_is hnd
  have hnt : ((gi ++ [L]).map (·.id)).Nodup := (List.nodup_cons.1 hnd).2
  have hn2 : ((g0 :: gi).map (·.id)).Nodup := List.Sublist.nodup ((List.Sublist.cons_cons g0 (List.sublist_append_left gi [L])).map _) hnd
  have hne : g0 ≠ L := by
    rintro rfl
    rw [List.map_cons, List.nodup_cons] at hnd
    exact hnd.1 (by simp)
  have hK : ∀ x, kidsA gi x = (kidsA (gi ++ [L]) x).filter fun g => decide (g ≠ L) := fun x => by
    have hs : srtG gi = (srtG (gi ++ [L])).filter fun g => decide (g ≠ L) := by
      refine uniq GS.id _ _ ?_ (srtG_pair gi) ((srtG_pair _).filter _) fun _ ha _ hb e => ?_
      · refine (srtG_perm gi).trans ?_
        have := ((srtG_perm (gi ++ [L])).filter fun g => decide (g ≠ L)).symm
        rwa [strike_last gi hnt] at this
      · refine id_inj hnt ?_ ?_ e
        · exact List.mem_append_left _ ((srtG_perm gi).mem_iff.1 ha)
        · exact List.mem_append_left _ ((srtG_perm gi).mem_iff.1 hb)
    unfold kidsA
    rw [hs, List.filter_filter, List.filter_filter]
    congr 1
    funext g
    exact Bool.and_comm _ _
  have h1 := hv.strike hleaf hK
  rw [List.filter_cons_of_pos (by simpa using hne), List.filter_nil] at h1
  obtain ⟨hv2, _, _, _⟩ := visits_is hn2
  have he := hv2.det h1
  constructor
  · unfold orderG
    rw [he]
    have h2 : ((visits (g0 :: (gi ++ [L]))).filter fun p => decide (p.1 ≠ L)).map (·.1) = (orderG (g0 :: (gi ++ [L]))).filter fun g => decide (g ≠ L) := by
      unfold orderG
      rw [List.filter_map]
      rfl
    rw [h2, ho]
    exact strike_last (g0 :: gi) hnd
  · unfold tallG
    rw [he]
    exact tl_filter _ _
end
theorem check_back {g0 : GS} {gt : List GS} {ts : List TS} (h1 : ¬ (4096 < (g0 :: gt).length ∨ 4096 < ts.length)) (h2 : ¬ ((g0 :: gt).any wrongG = true ∨ ts.any wrongT = true)) (h3 : (idsOf (g0 :: gt) ts).Nodup) (h4 : ¬ lostB g0 gt ts = true) (h5 : ordB (g0 :: gt) ts = true) (h6 : tallG (g0 :: gt) < 16) :
    checkS (g0 :: gt) ts = 0 := by
  rw [checkS_cons, if_neg h1, if_neg h2, if_neg (fun n => n h3), if_neg h4, if_neg (by rw [h5]; simp), if_neg (by omega)]
theorem any_sub {α : Type} {a b : List α} (h : a.Sublist b) (p : α → Bool) (hb : b.any p = false) : a.any p = false := by
  rw [List.any_eq_false] at hb ⊢
  exact fun x hx => hb x (h.subset hx)
/-- Without its tasks. -/
theorem parts_none {g0 : GS} {gt : List GS} {ts : List TS} (h : checkS (g0 :: gt) ts = 0) : checkS (g0 :: gt) [] = 0 := by
  obtain ⟨h1, h2, h3, h4, h5, h6⟩ := check0 h
  refine check_back (fun h => h1 (h.imp id fun h => absurd h (by simp))) (fun h => h2 (h.imp id fun h => absurd h (by simp))) ?_ ?_ ?_ h6
  · unfold idsOf at h3 ⊢
    exact List.Sublist.nodup (by simp) h3
  · unfold lostB at h4 ⊢
    simp only [Bool.or_eq_true, not_or] at h4 ⊢
    exact ⟨h4.1, by simp⟩
  · unfold ordB at h5 ⊢
    rw [Bool.and_eq_true] at h5 ⊢
    exact ⟨h5.1, by rw [srtT_nil]; rfl⟩
/-- Without its last group, and the tasks that are in it. -/
theorem parts_last {g0 L : GS} {gi : List GS} {ts : List TS} (h : checkS (g0 :: (gi ++ [L])) ts = 0) : checkS (g0 :: gi) (ts.filter fun t => decide (t.gr ≠ L.id)) = 0 := by
  obtain ⟨h1, h2, h3, h4, h5, h6⟩ := check0 h
  have hsg : (g0 :: gi).Sublist (g0 :: (gi ++ [L])) := List.Sublist.cons_cons g0 (List.sublist_append_left gi [L])
  have hst : (ts.filter fun t => decide (t.gr ≠ L.id)).Sublist ts := List.filter_sublist
  have hnd := (List.nodup_append.1 h3).1
  have hndt := (List.nodup_append.1 h3).2.1
  have h5' := h5
  unfold ordB at h5'
  rw [Bool.and_eq_true, decide_eq_true_eq, decide_eq_true_eq] at h5'
  have hor : orderG (g0 :: (gi ++ [L])) = g0 :: (gi ++ [L]) := h5'.1.symm
  obtain ⟨o1, o2⟩ := order_strike hnd hor
  have hleaf := last_leaf hnd hor
  refine check_back ?_ ?_ ?_ ?_ ?_ (by omega)
  · have a := hsg.length_le
    have b := hst.length_le
    omega
  · rintro (e | e)
    · refine h2 (.inl ?_)
      rw [List.any_eq_true] at e ⊢
      obtain ⟨x, hx, e⟩ := e
      exact ⟨x, hsg.subset hx, e⟩
    · refine h2 (.inr ?_)
      rw [List.any_eq_true] at e ⊢
      obtain ⟨x, hx, e⟩ := e
      exact ⟨x, hst.subset hx, e⟩
  · unfold idsOf at h3 ⊢
    exact List.Sublist.nodup ((hsg.map _).append (hst.map _)) h3
  · unfold lostB at h4 ⊢
    simp only [Bool.or_eq_true, not_or, List.any_eq_true, not_exists, not_and] at h4 ⊢
    obtain ⟨⟨a1, a2⟩, a3⟩ := h4
    have hin : ∀ x : Int, x ∈ (g0 :: (gi ++ [L])).map (·.id) → x ≠ L.id → x ∈ (g0 :: gi).map (·.id) := fun x hx hne => by
      obtain ⟨y, hy, rfl⟩ := List.mem_map.1 hx
      refine List.mem_map.2 ⟨y, ?_, rfl⟩
      rcases List.mem_cons.1 hy with e | hy
      · rw [e]; exact List.mem_cons_self
      · rcases List.mem_append.1 hy with hy | hy
        · exact List.mem_cons_of_mem _ hy
        · rw [List.mem_singleton] at hy
          exact absurd (congrArg GS.id hy) hne
    refine ⟨⟨a1, fun g hg => ?_⟩, fun t ht => ?_⟩
    · have := a2 g (hsg.subset hg)
      simp only [Bool.and_eq_true, Bool.not_eq_true', decide_eq_false_iff_not, bne_iff_ne, ne_eq, not_and, Classical.not_not] at this ⊢
      intro hp
      refine hin _ (this hp) fun e => ?_
      -- who has the last one for its parent is below it
      rcases List.mem_cons.1 hg with e2 | hg
      · rw [e2] at hp
        simp only [bne_iff_ne, ne_eq, Classical.not_not] at a1
        exact hp a1
      · have hk : g ∈ kidsA (gi ++ [L]) L.id := mem_kids.2 ⟨List.mem_append_left _ hg, e⟩
        rw [hleaf] at hk
        cases hk
    · rw [List.mem_filter, decide_eq_true_eq] at ht
      have := a3 t ht.1
      simp only [Bool.not_eq_true', decide_eq_false_iff_not, Classical.not_not] at this ⊢
      exact hin _ this ht.2
  · unfold ordB
    rw [o1, Bool.and_eq_true, decide_eq_true_eq, decide_eq_true_eq]
    refine ⟨rfl, ?_⟩
    have hp : ts.Pairwise (fun a b => a.id ≤ b.id) := by rw [h5'.2]; exact srtT_pair ts
    refine uniq TS.id _ _ (srtT_perm _).symm (hp.filter _) (srtT_pair _) fun _ ha _ hb e => ?_
    exact idT_inj hndt (hst.subset ha) (hst.subset hb) e
end Go.Proofs.YtjmaingpiieioaaGreat
