/-
  Plain facts on the document's side of scenes: where a group stands, how many steps it is from the top, who comes there.
-/
import Derived.Test.YtggmdgdgljlddaaGreatDoorZParts
namespace Go.Proofs.YtggmdgdgljlddaaGreatDoor

/-- Where a group stands; below 0: nowhere. -/
def grpI : List GS → Int → Int
  | [], _ => -1
  | g :: l, x => if g.id = x then 0 else if grpI l x < 0 then -1 else grpI l x + 1
theorem grp_no : ∀ (gs : List GS) (x : Int), (∀ y ∈ gs, y.id ≠ x) → grpI gs x = -1
  | [], _, _ => rfl
  | g :: l, x, h => by
    unfold grpI
    rw [if_neg (h g (by simp)), grp_no l x fun y hy => h y (List.mem_cons_of_mem _ hy), if_pos (by decide)]
theorem grp_at : ∀ (gs : List GS) (x : Int) (k : Nat), k < gs.length → (gs.getD k gs0).id = x → (∀ y ∈ gs.take k, y.id ≠ x) → grpI gs x = (k : Int)
  | [], _, _, h, _, _ => by simp at h
  | g :: l, x, 0, _, h, _ => by
    unfold grpI
    rw [if_pos (by simpa using h)]
    rfl
  | g :: l, x, k + 1, hk, h, hn => by
    unfold grpI
    rw [if_neg (hn g (by simp)), grp_at l x k (by simpa using hk) (by simpa using h) fun y hy => hn y (by rw [List.take_succ_cons]; exact List.mem_cons_of_mem _ hy), if_neg (by omega)]
    omega
theorem grp_or : ∀ (gs : List GS) (x : Int), (grpI gs x = -1 ∧ ∀ y ∈ gs, y.id ≠ x) ∨ ∃ j : Nat, grpI gs x = (j : Int) ∧ j < gs.length ∧ (gs.getD j gs0).id = x
  | [], _ => .inl ⟨rfl, by simp⟩
  | g :: l, x => by
    by_cases h : g.id = x
    · exact .inr ⟨0, by unfold grpI; rw [if_pos h]; rfl, by simp, by simpa using h⟩
    · rcases grp_or l x with ⟨h1, h2⟩ | ⟨j, h1, h2, h3⟩
      · refine .inl ⟨by unfold grpI; rw [if_neg h, h1, if_pos (by decide)], fun y hy => ?_⟩
        rcases List.mem_cons.1 hy with rfl | hy
        · exact h
        · exact h2 y hy
      · exact .inr ⟨j + 1, by unfold grpI; rw [if_neg h, h1, if_neg (by omega)]; omega, by simpa using h2, by simpa using h3⟩
theorem grp_lt {gs : List GS} {x : Int} : grpI gs x < 0 ↔ ∀ y ∈ gs, y.id ≠ x := by
  rcases grp_or gs x with ⟨h1, h2⟩ | ⟨j, h1, h2, h3⟩
  · exact ⟨fun _ => h2, fun _ => by omega⟩
  · refine ⟨fun h => by omega, fun h => absurd h3 (h _ (by simp [List.getD, h2]))⟩
theorem grp_lt_mem {gs : List GS} {x : Int} : grpI gs x < 0 ↔ x ∉ gs.map (·.id) := by
  rw [grp_lt]
  simp

/-- How many steps it is to the top, so many at most. -/
def stp (gs : List GS) : Nat → Nat → Nat → Int
  | 0, _, _ => -1
  | f + 1, i, n => if (gs.getD i gs0).par = 0 then (if i = 0 then (n : Int) else -1) else if grpI gs (gs.getD i gs0).par < 0 ∨ gs.length < n + 1 then -1 else stp gs f (grpI gs (gs.getD i gs0).par).toNat (n + 1)
def stepsI (gs : List GS) (i : Nat) : Int := stp gs (gs.length + 1) i 0
def WholeP (gs : List GS) : Prop := ∀ j, j < gs.length → 0 ≤ stepsI gs j
def tallI (gs : List GS) (k : Nat) : Int := (List.range k).foldl (fun m i => max m (stepsI gs i)) 0
theorem tallI_succ (gs : List GS) (k : Nat) : tallI gs (k + 1) = max (tallI gs k) (stepsI gs k) := by
  unfold tallI
  rw [List.range_succ, List.foldl_append]
  rfl
theorem stp_bd (gs : List GS) : ∀ f i n, -1 ≤ stp gs f i n ∧ stp gs f i n ≤ max (n : Int) gs.length
  | 0, _, n => by unfold stp; omega
  | f + 1, i, n => by
    unfold stp
    split
    · split <;> omega
    · split
      · omega
      · have := stp_bd gs f (grpI gs (gs.getD i gs0).par).toNat (n + 1)
        omega
theorem steps_bd (gs : List GS) (i : Nat) : -1 ≤ stepsI gs i ∧ stepsI gs i ≤ gs.length := by
  have := stp_bd gs (gs.length + 1) i 0
  unfold stepsI
  omega
theorem tallI_bd (gs : List GS) : ∀ k, 0 ≤ tallI gs k ∧ tallI gs k ≤ gs.length
  | 0 => by unfold tallI; simp
  | k + 1 => by
    have h1 := tallI_bd gs k
    have h2 := steps_bd gs k
    rw [tallI_succ]
    omega
section
variable {g0 : GS} {tl : List GS}
theorem getD_id_inj {gs : List GS} (h : (gs.map (·.id)).Nodup) {i j : Nat} (hi : i < gs.length) (hj : j < gs.length) (e : (gs.getD i gs0).id = (gs.getD j gs0).id) : i = j := by
  have h1 : (gs.map (·.id))[i]'(by simpa using hi) = (gs.map (·.id))[j]'(by simpa using hj) := by
    simp only [List.getElem_map]
    simpa [List.getD, hi, hj] using e
  exact (List.getElem_inj h).1 h1
theorem depth_le {K : Int → List GS} {o : List Pl} (h : Vis K [(g0, 0)] o) : ∀ (i : Nat) (p : Pl), o[i]? = some p → p.2 ≤ i := by
  intro i
  induction i using Nat.strongRecOn with
  | ind i ih =>
    intro p hp
    rcases h.up i p hp with h1 | ⟨j, q, h1, h2, _, h4⟩
    · rw [List.mem_singleton.1 h1]
      exact Nat.zero_le _
    · have := ih j h1 q h2
      omega
theorem stp_vis (hnd : ((g0 :: tl).map (·.id)).Nodup) (hpos : ∀ g ∈ g0 :: tl, g.id ≠ 0) (h0 : g0.par = 0) : ∀ (d : Nat) (g : GS), (g, d) ∈ visits (g0 :: tl) → ∀ i, i < (g0 :: tl).length → (g0 :: tl).getD i gs0 = g → ∀ f n, d < f → n + d ≤ (g0 :: tl).length → stp (g0 :: tl) f i n = ((n + d : Nat) : Int) := by
  obtain ⟨hv, _, hm, _⟩ := visits_is hnd
  intro d
  induction d with
  | zero =>
    intro g hg i hi hgi f n hf hn
    obtain ⟨k, hk, he⟩ := List.mem_iff_getElem.1 hg
    rcases hv.up k (g, 0) (by rw [List.getElem?_eq_getElem hk, he]) with h1 | ⟨j, q, _, _, _, h4⟩
    · have h1 := List.mem_singleton.1 h1
      injection h1 with h1 _
      subst h1
      have hi0 : i = 0 := getD_id_inj hnd hi (by simp) (by rw [hgi]; rfl)
      subst hi0
      obtain ⟨f, rfl⟩ : ∃ f', f = f' + 1 := ⟨f - 1, by omega⟩
      unfold stp
      rw [hgi, if_pos h0, if_pos rfl]
      rfl
    · simp at h4
  | succ d ih =>
    intro g hg i hi hgi f n hf hn
    obtain ⟨k, hk, he⟩ := List.mem_iff_getElem.1 hg
    rcases hv.up k (g, d + 1) (by rw [List.getElem?_eq_getElem hk, he]) with h1 | ⟨j, q, _, h2, h3, h4⟩
    · have h1 := List.mem_singleton.1 h1
      injection h1 with _ h1
      omega
    · obtain ⟨q, e⟩ := q
      simp only at h3 h4
      have he : d = e := by omega
      subst he
      have hq : (q, d) ∈ visits (g0 :: tl) := List.mem_of_getElem? h2
      have hqm : q ∈ g0 :: tl := hm q (List.mem_map.2 ⟨_, hq, rfl⟩)
      obtain ⟨_, hp⟩ := mem_kids.1 h3
      obtain ⟨f, rfl⟩ : ∃ f', f = f' + 1 := ⟨f - 1, by omega⟩
      unfold stp
      rw [hgi, hp, if_neg (hpos q hqm)]
      rcases grp_or (g0 :: tl) q.id with ⟨_, g2⟩ | ⟨m, g1, g2, g3⟩
      · exact absurd rfl (g2 q hqm)
      · rw [g1, if_neg (by omega)]
        have hqe : (g0 :: tl).getD m gs0 = q := id_inj hnd (by simp only [List.getD, List.getElem?_eq_getElem g2, Option.getD_some]; exact List.getElem_mem g2) hqm g3
        rw [show ((m : Nat) : Int).toNat = m from rfl, ih q hq m g2 hqe f (n + 1) (by omega) (by omega)]
        omega
theorem vis_steps (hnd : ((g0 :: tl).map (·.id)).Nodup) (hpos : ∀ g ∈ g0 :: tl, g.id ≠ 0) (h0 : g0.par = 0) {g : GS} {d i : Nat} (hg : (g, d) ∈ visits (g0 :: tl)) (hi : i < (g0 :: tl).length) (hgi : (g0 :: tl).getD i gs0 = g) : stepsI (g0 :: tl) i = (d : Int) := by
  obtain ⟨hv, _, _, hl⟩ := visits_is hnd
  obtain ⟨k, hk, he⟩ := List.mem_iff_getElem.1 hg
  have h1 := depth_le hv k (g, d) (by rw [List.getElem?_eq_getElem hk, he])
  simp only at h1
  unfold stepsI
  rw [stp_vis hnd hpos h0 d g hg i hi hgi _ 0 (by simp; omega) (by simp; omega)]
  omega
theorem steps_vis (hnd : ((g0 :: tl).map (·.id)).Nodup) (h0 : g0.par = 0) : ∀ (f i n : Nat), i < (g0 :: tl).length → 0 ≤ stp (g0 :: tl) f i n → (g0 :: tl).getD i gs0 ∈ orderG (g0 :: tl)
  | 0, _, _, _, h => by unfold stp at h; omega
  | f + 1, i, n, hi, h => by
    obtain ⟨hv, _, hm, _⟩ := visits_is hnd
    unfold stp at h
    by_cases h1 : ((g0 :: tl).getD i gs0).par = 0
    · rw [if_pos h1] at h
      by_cases h2 : i = 0
      · subst h2
        exact List.mem_map.2 ⟨(g0, 0), hv.mem _ (by simp), rfl⟩
      · rw [if_neg h2] at h
        omega
    · rw [if_neg h1] at h
      by_cases h2 : grpI (g0 :: tl) ((g0 :: tl).getD i gs0).par < 0 ∨ (g0 :: tl).length < n + 1
      · rw [if_pos h2] at h
        omega
      · rw [if_neg h2] at h
        rcases grp_or (g0 :: tl) ((g0 :: tl).getD i gs0).par with ⟨g1, _⟩ | ⟨m, g1, g2, g3⟩
        · exact absurd (.inl (by omega)) h2
        · rw [g1] at h
          have := steps_vis hnd h0 f m (n + 1) g2 h
          obtain ⟨p, hp, he⟩ := List.mem_map.1 this
          have hk : (g0 :: tl).getD i gs0 ∈ kidsA tl p.1.id := by
            refine mem_kids.2 ⟨?_, by rw [he, g3]⟩
            cases i with
            | zero => exact absurd h0 h1
            | succ i =>
              have hi : i < tl.length := by simpa using hi
              simp [List.getD, hi]
          exact List.mem_map.2 ⟨_, hv.kids p hp _ hk, rfl⟩
theorem whole_iff (hnd : ((g0 :: tl).map (·.id)).Nodup) (hpos : ∀ g ∈ g0 :: tl, g.id ≠ 0) (h0 : g0.par = 0) : WholeP (g0 :: tl) ↔ ∀ g ∈ g0 :: tl, g ∈ orderG (g0 :: tl) := by
  constructor
  · intro h g hg
    obtain ⟨i, hi, rfl⟩ := List.mem_iff_getElem.1 hg
    have := steps_vis hnd h0 _ i 0 hi (h i hi)
    rwa [List.getD, List.getElem?_eq_getElem hi, Option.getD_some] at this
  · intro h i hi
    have hg := h ((g0 :: tl).getD i gs0) (by simp only [List.getD, List.getElem?_eq_getElem hi, Option.getD_some]; exact List.getElem_mem hi)
    obtain ⟨⟨g, d⟩, hp, he⟩ := List.mem_map.1 hg
    rw [vis_steps hnd hpos h0 hp hi he.symm]
    omega
theorem ord_whole (hnd : ((g0 :: tl).map (·.id)).Nodup) (hpos : ∀ g ∈ g0 :: tl, g.id ≠ 0) (h0 : g0.par = 0) (h : g0 :: tl = orderG (g0 :: tl)) : WholeP (g0 :: tl) :=
  (whole_iff hnd hpos h0).2 fun g hg => by rw [← h]; exact hg
theorem foldmax_ge (l : List Pl) : ∀ (m : Nat), m ≤ l.foldl (fun m p => max m p.2) m ∧ ∀ p ∈ l, p.2 ≤ l.foldl (fun m p => max m p.2) m := by
  induction l with
  | nil => exact fun m => ⟨Nat.le_refl _, by simp⟩
  | cons x l ih =>
    intro m
    obtain ⟨h1, h2⟩ := ih (max m x.2)
    rw [List.foldl_cons]
    refine ⟨by omega, fun p hp => ?_⟩
    rcases List.mem_cons.1 hp with rfl | hp
    · omega
    · exact h2 p hp
theorem foldmax_in (l : List Pl) : ∀ (m : Nat), l.foldl (fun m p => max m p.2) m = m ∨ ∃ p ∈ l, l.foldl (fun m p => max m p.2) m = p.2 := by
  induction l with
  | nil => exact fun m => .inl rfl
  | cons x l ih =>
    intro m
    rw [List.foldl_cons]
    rcases ih (max m x.2) with h | ⟨p, hp, h⟩
    · by_cases e : m ≤ x.2
      · exact .inr ⟨x, by simp, by rw [h]; omega⟩
      · exact .inl (by rw [h]; omega)
    · exact .inr ⟨p, List.mem_cons_of_mem _ hp, h⟩
theorem tallI_ge (gs : List GS) : ∀ k j, j < k → stepsI gs j ≤ tallI gs k
  | 0, j, h => by omega
  | k + 1, j, h => by
    rw [tallI_succ]
    by_cases e : j = k
    · subst e
      omega
    · have := tallI_ge gs k j (by omega)
      omega
theorem tallI_in (gs : List GS) : ∀ k, tallI gs k = 0 ∨ ∃ j, j < k ∧ tallI gs k = stepsI gs j
  | 0 => .inl rfl
  | k + 1 => by
    rw [tallI_succ]
    by_cases e : tallI gs k ≤ stepsI gs k
    · exact .inr ⟨k, by omega, by omega⟩
    · rcases tallI_in gs k with h | ⟨j, h1, h2⟩
      · exact .inl (by omega)
      · exact .inr ⟨j, by omega, by omega⟩
theorem tall_eq (hnd : ((g0 :: tl).map (·.id)).Nodup) (hpos : ∀ g ∈ g0 :: tl, g.id ≠ 0) (h0 : g0.par = 0) (h : WholeP (g0 :: tl)) : tallI (g0 :: tl) (g0 :: tl).length = (tallG (g0 :: tl) : Int) := by
  have hw := (whole_iff hnd hpos h0).1 h
  obtain ⟨hv, _, hm, _⟩ := visits_is hnd
  refine Int.le_antisymm ?_ ?_
  · rcases tallI_in (g0 :: tl) (g0 :: tl).length with e | ⟨j, h1, h2⟩
    · rw [e]
      omega
    · have hg := hw ((g0 :: tl).getD j gs0) (by simp only [List.getD, List.getElem?_eq_getElem h1, Option.getD_some]; exact List.getElem_mem h1)
      obtain ⟨⟨g, d⟩, hp, he⟩ := List.mem_map.1 hg
      rw [h2, vis_steps hnd hpos h0 hp h1 he.symm]
      have := (foldmax_ge (visits (g0 :: tl)) 0).2 _ hp
      unfold tallG
      simp only at this
      omega
  · unfold tallG
    rcases foldmax_in (visits (g0 :: tl)) 0 with e | ⟨p, hp, e⟩
    · rw [e]
      have := tallI_bd (g0 :: tl) (g0 :: tl).length
      omega
    · rw [e]
      obtain ⟨g, d⟩ := p
      obtain ⟨i, hi, he⟩ := List.mem_iff_getElem.1 (hm g (List.mem_map.2 ⟨_, hp, rfl⟩))
      have := tallI_ge (g0 :: tl) _ i hi
      rw [vis_steps hnd hpos h0 hp hi (by simp only [List.getD, List.getElem?_eq_getElem hi, Option.getD_some]; exact he)] at this
      exact this
end
/-! ### The list of pairs, and who is below whom -/
section
variable {g0 : GS} {tl : List GS}
def prs (gs : List GS) : List (Int × Int) := gs.map fun g => (g.id, g.par)
theorem kids_iff (h0 : g0.par = 0) {x : Int} (hx : x ≠ 0) (y : Int) : (y, x) ∈ prs (g0 :: tl) ↔ y ∈ (kidsA tl x).map (·.id) := by
  unfold prs
  rw [List.mem_map, List.mem_map]
  constructor
  · rintro ⟨g, hg, e⟩
    injection e with e1 e2
    refine ⟨g, mem_kids.2 ⟨?_, e2⟩, e1⟩
    rcases List.mem_cons.1 hg with rfl | hg
    · rw [h0] at e2
      exact absurd e2.symm hx
    · exact hg
  · rintro ⟨g, hg, e⟩
    obtain ⟨h1, h2⟩ := mem_kids.1 hg
    exact ⟨g, List.mem_cons_of_mem _ h1, by rw [h2, e]⟩
theorem kids_rise (hnd : (tl.map (·.id)).Nodup) (x : Int) : ((kidsA tl x).map (·.id)).Pairwise (· < ·) := by
  have h1 : ((kidsA tl x).map (·.id)).Nodup := kids_nd hnd
  have h2 : (srtG tl).Pairwise fun a b => decide (a.id ≤ b.id) = true := List.pairwise_mergeSort (by intro a b c h1 h2; simp only [decide_eq_true_eq] at h1 h2 ⊢; omega) (by intro a b; simp only [Bool.or_eq_true, decide_eq_true_eq]; omega) _
  have h3 : (kidsA tl x).Pairwise fun a b => decide (a.id ≤ b.id) = true := h2.sublist List.filter_sublist
  rw [List.pairwise_map]
  have h4 : (kidsA tl x).Pairwise fun a b => a.id ≠ b.id := List.pairwise_map.1 h1
  exact (h3.and h4).imp fun h => by
    have := h.1
    simp only [decide_eq_true_eq] at this
    have := h.2
    omega
end
end Go.Proofs.YtggmdgdgljlddaaGreatDoor
