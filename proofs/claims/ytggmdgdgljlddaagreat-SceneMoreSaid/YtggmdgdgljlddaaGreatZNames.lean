/-
  Plain facts for SceneNames: what is renamed can be, if it could, is as tall, and in two steps as in one.
-/
import Derived.Test.YtggmdgdgljlddaaGreatZName
import Derived.Test.YtggmdgdgljlddaaGreatZParts
namespace Go.Proofs.YtggmdgdgljlddaaGreat

/-- What is told of shifted groups is what is told, shifted. -/
theorem Vis.shift {K K' : Int → List GS} {sh : GS → GS} (hpos : ∀ x, ∀ g ∈ K x, 0 < g.id) (hK : ∀ g : GS, 0 < g.id → K' (sh g).id = (K g.id).map sh) {st o : List Pl} (h : Vis K st o) :
    (∀ p ∈ st, 0 < p.1.id) → Vis K' (st.map fun p => (sh p.1, p.2)) (o.map fun p => (sh p.1, p.2)) := by
  induction h with
  | nil => exact fun _ => .nil
  | @pop g d st out h ih =>
    intro hs
    have hg : 0 < g.id := hs (g, d) List.mem_cons_self
    refine .pop ?_
    have h1 := ih fun p hp => by
      rcases List.mem_append.1 hp with hp | hp
      · obtain ⟨k, hk, rfl⟩ := List.mem_map.1 hp
        exact hpos _ k hk
      · exact hs p (List.mem_cons_of_mem _ hp)
    rw [List.map_append] at h1
    have e : (lay (d + 1) (K g.id)).map (fun p => (sh p.1, p.2)) = lay (d + 1) (K' (sh g).id) := by
      rw [hK g hg]
      unfold lay
      rw [List.map_map, List.map_map]
      rfl
    rw [e] at h1
    exact h1
section
variable {y : Int}
theorem shG_id (g : GS) : (shG y g).id = g.id + y := rfl
theorem srtG_sh {l : List GS} (hnd : (l.map (·.id)).Nodup) : srtG (l.map (shG y)) = (srtG l).map (shG y) := by
  have hn2 : ((l.map (shG y)).map (·.id)).Nodup := by
    rw [List.map_map]
    have : (l.map ((fun g : GS => g.id) ∘ shG y)) = (l.map (·.id)).map (· + y) := by rw [List.map_map]; rfl
    rw [this]
    exact List.pairwise_map.2 (hnd.imp fun h e => h (by omega))
  refine uniq GS.id _ _ ((srtG_perm _).trans ((srtG_perm l).map (shG y)).symm) (srtG_pair _) ?_ fun _ ha _ hb e => id_inj hn2 ((srtG_perm _).mem_iff.1 ha) ((srtG_perm _).mem_iff.1 hb) e
  refine List.pairwise_map.2 ((srtG_pair l).imp fun h => ?_)
  rw [shG_id, shG_id]
  omega
theorem order_sh {g0 : GS} {gt : List GS} (hy : 0 ≤ y) (hpos : ∀ g ∈ g0 :: gt, 0 < g.id) (hnd : ((g0 :: gt).map (·.id)).Nodup) :
    visits ((g0 :: gt).map (shG y)) = (visits (g0 :: gt)).map fun p => (shG y p.1, p.2) := by
  obtain ⟨hv, _, _, _⟩ := visits_is hnd
  have hn2 : (((g0 :: gt).map (shG y)).map (·.id)).Nodup := by
    rw [List.map_map]
    have : ((g0 :: gt).map ((fun g : GS => g.id) ∘ shG y)) = ((g0 :: gt).map (·.id)).map (· + y) := by rw [List.map_map]; rfl
    rw [this]
    exact List.pairwise_map.2 (hnd.imp fun h e => h (by omega))
  obtain ⟨hv2, _, _, _⟩ := visits_is (g0 := shG y g0) (tl := gt.map (shG y)) hn2
  have hK : ∀ g : GS, 0 < g.id → kidsA (gt.map (shG y)) (shG y g).id = (kidsA gt g.id).map (shG y) := fun g hg => by
    unfold kidsA
    rw [srtG_sh (List.nodup_cons.1 hnd).2, List.filter_map]
    congr 1
    apply List.filter_congr
    intro k _
    show decide ((if k.par = 0 then 0 else k.par + y) = g.id + y) = decide (k.par = g.id)
    rw [decide_eq_decide]
    split <;> omega
  exact hv2.det (hv.shift (fun x g hg => hpos g (List.mem_cons_of_mem _ (mem_kids.1 hg).1)) hK fun p hp => by rw [List.mem_singleton.1 hp]; exact hpos g0 List.mem_cons_self)
theorem tl_sh (l : List Pl) (sh : GS → GS) : tl (l.map fun p => (sh p.1, p.2)) = tl l := by
  induction l with
  | nil => rfl
  | cons p l ih => rw [List.map_cons, tl_cons, tl_cons, ih]
theorem ids_sh (gs : List GS) (ts : List TS) : idsOf (gs.map (shG y)) (ts.map (shT y)) = (idsOf gs ts).map (· + y) := by
  unfold idsOf
  rw [List.map_append, List.map_map, List.map_map, List.map_map, List.map_map]
  rfl
theorem max_sh {l : List Int} (h : l ≠ []) : Lib.maxOf (l.map (· + y)) = Lib.maxOf l + y := by
  have h2 : l.map (· + y) ≠ [] := fun e => h (by simpa using e)
  have a := maxOf_mem h
  have b := maxOf_mem h2
  obtain ⟨z, hz, e⟩ := List.mem_map.1 b
  have c := maxOf_le z hz
  have d := maxOf_le (l := l.map (· + y)) _ (List.mem_map.2 ⟨_, a, rfl⟩)
  omega
/-- What is renamed can be, and is as tall. -/
theorem check_sh {gs : List GS} {ts : List TS} (hy : 0 ≤ y) (h : checkS gs ts = 0) (hm : ¬ 1048576 < Lib.maxOf (idsOf gs ts) + y) :
    checkS (gs.map (shG y)) (ts.map (shT y)) = 0 ∧ tallG (gs.map (shG y)) = tallG gs := by
  obtain ⟨m1, m2, _, _, _⟩ := ok_sm h
  cases gs with
  | nil =>
    have h2 : (2 : Int) = 0 := h
    exact absurd h2 (by decide)
  | cons g0 gt =>
    obtain ⟨h1, h2, h3, h4, h5, h6⟩ := check0 h
    have hnd := (List.nodup_append.1 h3).1
    have hndt := (List.nodup_append.1 h3).2.1
    have hw : ∀ g ∈ g0 :: gt, wrongG g = false := fun g hg => by
      cases e : wrongG g with
      | false => rfl
      | true => exact absurd (.inl (List.any_eq_true.2 ⟨g, hg, e⟩)) h2
    have hwt : ∀ t ∈ ts, wrongT t = false := fun t ht => by
      cases e : wrongT t with
      | false => rfl
      | true => exact absurd (.inr (List.any_eq_true.2 ⟨t, ht, e⟩)) h2
    have hpos : ∀ g ∈ g0 :: gt, 0 < g.id := fun g hg => by
      have := hw g hg
      unfold wrongG numB at this
      simp only [Bool.or_eq_false_iff, Bool.not_eq_false', Bool.and_eq_true, decide_eq_true_eq] at this
      omega
    have hle : ∀ x ∈ idsOf (g0 :: gt) ts, x + y ≤ 1048576 := fun x hx => by
      have := maxOf_le x hx
      omega
    have hvis := order_sh hy hpos hnd
    have h5' := h5
    unfold ordB at h5'
    rw [Bool.and_eq_true, decide_eq_true_eq, decide_eq_true_eq] at h5'
    have htall : tallG ((g0 :: gt).map (shG y)) = tallG (g0 :: gt) := by
      show tl (visits _) = tl (visits _)
      rw [hvis]
      exact tl_sh _ _
    refine ⟨check_back (g0 := shG y g0) (gt := gt.map (shG y)) ?_ ?_ ?_ ?_ ?_ ?_, htall⟩
    · rw [List.length_map, List.length_cons, List.length_map]
      exact h1
    · rintro (e | e)
      · obtain ⟨g, hg, e⟩ := List.any_eq_true.1 e
        rw [← List.map_cons] at hg
        obtain ⟨k, hk, rfl⟩ := List.mem_map.1 hg
        have a := hw k hk
        have b := hle k.id (List.mem_append_left _ (List.mem_map.2 ⟨k, hk, rfl⟩))
        have c : wrongG (shG y k) = false := by
          unfold wrongG numB at a ⊢
          simp only [Bool.or_eq_false_iff, Bool.not_eq_false', Bool.and_eq_true, decide_eq_true_eq] at a ⊢
          exact ⟨⟨⟨⟨by show 1 ≤ k.id + y; omega, b⟩, a.1.1.2⟩, a.1.2⟩, a.2⟩
        rw [c] at e
        cases e
      · obtain ⟨t, ht, e⟩ := List.any_eq_true.1 e
        obtain ⟨k, hk, rfl⟩ := List.mem_map.1 ht
        have a := hwt k hk
        have b := hle k.id (List.mem_append_right _ (List.mem_map.2 ⟨k, hk, rfl⟩))
        have c : wrongT (shT y k) = false := by
          unfold wrongT numB at a ⊢
          simp only [Bool.or_eq_false_iff, Bool.not_eq_false', Bool.and_eq_true, decide_eq_true_eq] at a ⊢
          exact ⟨⟨⟨⟨⟨⟨⟨by show 1 ≤ k.id + y; omega, b⟩, a.1.1.1.1.1.2⟩, a.1.1.1.1.2⟩, a.1.1.1.2⟩, a.1.1.2⟩, a.1.2⟩, a.2⟩
        rw [c] at e
        cases e
    · rw [← List.map_cons, ids_sh]
      exact List.pairwise_map.2 (h3.imp fun h e => h (by omega))
    · unfold lostB at h4 ⊢
      simp only [Bool.or_eq_true, not_or, List.any_eq_true, not_exists, not_and] at h4 ⊢
      obtain ⟨⟨a1, a2⟩, a3⟩ := h4
      have hin : ∀ x : Int, x ∈ (g0 :: gt).map (·.id) → x + y ∈ (shG y g0 :: gt.map (shG y)).map (·.id) := fun x hx => by
        obtain ⟨g, hg, rfl⟩ := List.mem_map.1 hx
        exact List.mem_map.2 ⟨shG y g, by rw [← List.map_cons]; exact List.mem_map.2 ⟨g, hg, rfl⟩, rfl⟩
      refine ⟨⟨?_, fun g hg => ?_⟩, fun t ht => ?_⟩
      · simp only [bne_iff_ne, ne_eq, Classical.not_not] at a1 ⊢
        show (if g0.par = 0 then 0 else g0.par + y) = 0
        rw [if_pos a1]
      · rw [← List.map_cons] at hg
        obtain ⟨k, hk, rfl⟩ := List.mem_map.1 hg
        have := a2 k hk
        simp only [Bool.and_eq_true, Bool.not_eq_true', decide_eq_false_iff_not, bne_iff_ne, ne_eq, not_and, Classical.not_not] at this ⊢
        show ¬ (if k.par = 0 then 0 else k.par + y) = 0 → (if k.par = 0 then 0 else k.par + y) ∈ _
        split
        · exact fun h => absurd rfl h
        · rename_i hp
          exact fun _ => hin _ (this hp)
      · obtain ⟨k, hk, rfl⟩ := List.mem_map.1 ht
        have := a3 k hk
        simp only [Bool.not_eq_true', decide_eq_false_iff_not, Classical.not_not] at this ⊢
        exact hin _ this
    · unfold ordB
      rw [Bool.and_eq_true, decide_eq_true_eq, decide_eq_true_eq, ← List.map_cons]
      constructor
      · unfold orderG
        rw [hvis, List.map_map]
        conv => lhs; rw [h5'.1]
        unfold orderG
        rw [List.map_map]
        rfl
      · have hp : ts.Pairwise (fun a b => a.id ≤ b.id) := by rw [h5'.2]; exact srtT_pair ts
        have hn2 : ((ts.map (shT y)).map (·.id)).Nodup := by
          rw [List.map_map]
          have : (ts.map ((fun t : TS => t.id) ∘ shT y)) = (ts.map (·.id)).map (· + y) := by rw [List.map_map]; rfl
          rw [this]
          exact List.pairwise_map.2 (hndt.imp fun h e => h (by omega))
        exact uniq TS.id _ _ (srtT_perm _).symm (List.pairwise_map.2 (hp.imp fun {a b} h => show a.id + y ≤ b.id + y by omega)) (srtT_pair _) fun _ ha _ hb e => idT_inj hn2 ha hb e
    · rw [← List.map_cons, htall]
      exact h6
theorem sh_sh {a b : Int} {gs : List GS} (ha : 0 ≤ a) (h : ∀ g ∈ gs, Sm g.par) : (gs.map (shG a)).map (shG b) = gs.map (shG (a + b)) := by
  rw [List.map_map]
  apply List.map_congr_left
  intro g hg
  have := (h g hg).1
  unfold shG
  simp only [Function.comp]
  refine GS.ext' ⟨by show g.id + a + b = g.id + (a + b); omega, ?_, rfl, rfl, rfl, rfl⟩
  show (if (if g.par = 0 then 0 else g.par + a) = 0 then 0 else (if g.par = 0 then 0 else g.par + a) + b) = if g.par = 0 then 0 else g.par + (a + b)
  by_cases e : g.par = 0
  · simp [e]
  · rw [if_neg e, if_neg (by omega), if_neg e]
    omega
theorem shT_shT {a b : Int} {ts : List TS} : (ts.map (shT a)).map (shT b) = ts.map (shT (a + b)) := by
  rw [List.map_map]
  apply List.map_congr_left
  intro t _
  unfold shT
  simp only [Function.comp]
  exact TS.ext' ⟨by show t.id + a + b = t.id + (a + b); omega, by show t.gr + a + b = t.gr + (a + b); omega, rfl, rfl, rfl, rfl, rfl, rfl⟩
theorem check_ne6 (gs : List GS) (ts : List TS) : checkS gs ts ≠ 6 := by
  cases gs with
  | nil => exact (by decide : (2 : Int) ≠ 6)
  | cons g0 gt =>
    rw [checkS_cons]
    repeat' split
    all_goals decide
/-- What is wrong with a number in its bounds. -/
theorem ren_in {a : Int} {gs : List GS} {ts : List TS} (h1 : 0 ≤ a) (h2 : a ≤ 1048576) : renE gs ts a = if checkS gs ts ≠ 0 then checkS gs ts else if 1048576 < Lib.maxOf (idsOf gs ts) + a then 6 else 0 := by
  unfold renE
  rw [if_neg (by omega)]
theorem ren_bad {a : Int} {gs : List GS} {ts : List TS} (h1 : 0 ≤ a) (h2 : a ≤ 1048576) (h : renE gs ts a ≠ 0) : (renE gs ts a = 6 ↔ checkS gs ts = 0) := by
  rw [ren_in h1 h2] at h ⊢
  by_cases hc : checkS gs ts = 0
  · rw [if_neg (by simpa using hc)] at h ⊢
    by_cases hm : 1048576 < Lib.maxOf (idsOf gs ts) + a
    · rw [if_pos hm]
      simp [hc]
    · rw [if_neg hm] at h
      exact absurd rfl h
  · rw [if_pos hc]
    exact ⟨fun e => absurd e (check_ne6 gs ts), fun e => absurd e hc⟩
theorem ren_good {a : Int} {gs : List GS} {ts : List TS} (h1 : 0 ≤ a) (h2 : a ≤ 1048576) (h : renE gs ts a = 0) : checkS gs ts = 0 ∧ ¬ 1048576 < Lib.maxOf (idsOf gs ts) + a := by
  rw [ren_in h1 h2] at h
  by_cases hc : checkS gs ts = 0
  · rw [if_neg (by simpa using hc)] at h
    by_cases hm : 1048576 < Lib.maxOf (idsOf gs ts) + a
    · rw [if_pos hm] at h
      exact absurd h (by decide)
    · exact ⟨hc, hm⟩
  · rw [if_pos hc] at h
    exact absurd h hc
theorem ren_two {a b : Int} {gs : List GS} {ts : List TS} (ha : 0 ≤ a) (ha2 : a ≤ 65535) (hb : 0 ≤ b) (hb2 : b ≤ 65535) (h : renE gs ts a = 0) : renE (gs.map (shG a)) (ts.map (shT a)) b = renE gs ts (a + b) := by
  obtain ⟨h1, h2⟩ := ren_good ha (by omega) h
  obtain ⟨h3, _⟩ := check_sh ha h1 h2
  have hne : idsOf gs ts ≠ [] := by
    obtain ⟨_, _, _, _, h5⟩ := ok_sm h1
    unfold idsOf
    intro e
    have := congrArg List.length e
    rw [List.length_append, List.length_map, List.length_nil] at this
    omega
  rw [ren_in hb (by omega), ren_in (by omega) (by omega), if_neg (c := checkS (gs.map (shG a)) (ts.map (shT a)) ≠ 0) (by simpa using h3), if_neg (c := checkS gs ts ≠ 0) (by simpa using h1), ids_sh, max_sh hne, Int.add_assoc]
end
end Go.Proofs.YtggmdgdgljlddaaGreat
