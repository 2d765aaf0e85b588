/-
  Plain facts on trees of groups: what adding, dropping and moving leave. Nothing of Go is named here.
-/
import Derived.Test.YtggmdgdgljlddaaNMath
namespace Go.Proofs.Ytggmdgdgljlddaa

/-- Where it goes in a list that rises. -/
def posI (x : Int) (l : List Int) : Nat := l.countP (fun y => decide (y < x))
def insI (x : Int) (l : List Int) : List Int := l.take (posI x l) ++ x :: l.drop (posI x l)
def delI (x : Int) (l : List Int) : List Int := l.take (posI x l) ++ l.drop (posI x l + 1)
theorem pos_le (x : Int) (l : List Int) : posI x l ≤ l.length := List.countP_le_length
theorem pos_split {x : Int} : ∀ {l : List Int}, l.Pairwise (· < ·) → (∀ y ∈ l.take (posI x l), y < x) ∧ ∀ y ∈ l.drop (posI x l), x ≤ y
  | [], _ => ⟨fun _ h => by simp at h, fun _ h => by simp at h⟩
  | z :: l, h => by
    rw [List.pairwise_cons] at h
    obtain ⟨h1, h2⟩ := pos_split (x := x) h.2
    by_cases hz : z < x
    · have e : posI x (z :: l) = posI x l + 1 := by simp [posI, hz]
      rw [e, List.take_succ_cons, List.drop_succ_cons]
      refine ⟨fun y hy => ?_, h2⟩
      rcases List.mem_cons.1 hy with rfl | hy
      · exact hz
      · exact h1 y hy
    · have e0 : posI x l = 0 := by
        unfold posI
        rw [List.countP_eq_zero]
        intro y hy
        have := h.1 y hy
        simp
        omega
      have e : posI x (z :: l) = 0 := by
        have : posI x (z :: l) = posI x l := by simp [posI, hz]
        omega
      rw [e]
      refine ⟨fun _ h => by simp at h, fun y hy => ?_⟩
      rw [List.drop_zero] at hy
      rcases List.mem_cons.1 hy with rfl | hy
      · omega
      · have := h.1 y hy
        omega
theorem ins_mem (x y : Int) (l : List Int) : y ∈ insI x l ↔ y = x ∨ y ∈ l := by
  unfold insI
  rw [List.mem_append, List.mem_cons]
  constructor
  · rintro (h | h | h)
    · exact .inr (List.mem_of_mem_take h)
    · exact .inl h
    · exact .inr (List.mem_of_mem_drop h)
  · rintro (h | h)
    · exact .inr (.inl h)
    · rw [← List.take_append_drop (posI x l) l, List.mem_append] at h
      exact h.imp id .inr
theorem ins_srt {x : Int} {l : List Int} (h : l.Pairwise (· < ·)) (hx : x ∉ l) : (insI x l).Pairwise (· < ·) := by
  obtain ⟨h1, h2⟩ := pos_split (x := x) h
  unfold insI
  rw [List.pairwise_append, List.pairwise_cons]
  have hd : ∀ y ∈ l.drop (posI x l), x < y := fun y hy => by
    have := h2 y hy
    have : y ≠ x := fun e => hx (e ▸ List.mem_of_mem_drop hy)
    omega
  refine ⟨h.sublist (List.take_sublist _ _), ⟨hd, h.sublist (List.drop_sublist _ _)⟩, fun a ha b hb => ?_⟩
  have := h1 a ha
  rcases List.mem_cons.1 hb with rfl | hb
  · exact this
  · have := hd b hb
    omega
theorem del_at {x : Int} {l : List Int} (h : l.Pairwise (· < ·)) (hx : x ∈ l) : posI x l < l.length ∧ l[posI x l]? = some x := by
  obtain ⟨h1, h2⟩ := pos_split (x := x) h
  have hxd : x ∈ l.drop (posI x l) := by
    rw [← List.take_append_drop (posI x l) l, List.mem_append] at hx
    rcases hx with hx | hx
    · have := h1 x hx
      omega
    · exact hx
  have hl : posI x l < l.length := by
    have := List.length_pos_of_mem hxd
    rw [List.length_drop] at this
    omega
  refine ⟨hl, ?_⟩
  have hs : (l.drop (posI x l)).Pairwise (· < ·) := h.sublist (List.drop_sublist _ _)
  rw [List.drop_eq_getElem_cons hl] at hxd hs h2
  rw [List.pairwise_cons] at hs
  have hz := h2 _ List.mem_cons_self
  rcases List.mem_cons.1 hxd with e | e
  · rw [List.getElem?_eq_getElem hl, ← e]
  · have := hs.1 x e
    omega
theorem del_mem {x y : Int} {l : List Int} (h : l.Pairwise (· < ·)) (hx : x ∈ l) : y ∈ delI x l ↔ y ∈ l ∧ y ≠ x := by
  obtain ⟨h1, h2⟩ := pos_split (x := x) h
  obtain ⟨hl, he⟩ := del_at h hx
  have hg : l[posI x l] = x := by
    rw [List.getElem?_eq_getElem hl] at he
    exact Option.some.inj he
  have hs : (l.drop (posI x l)).Pairwise (· < ·) := h.sublist (List.drop_sublist _ _)
  rw [List.drop_eq_getElem_cons hl, hg, List.pairwise_cons] at hs
  unfold delI
  rw [List.mem_append]
  constructor
  · rintro (hy | hy)
    · have := h1 y hy
      exact ⟨List.mem_of_mem_take hy, by omega⟩
    · have := hs.1 y hy
      exact ⟨List.mem_of_mem_drop hy, by omega⟩
  · rintro ⟨hy, hn⟩
    rw [← List.take_append_drop (posI x l) l, List.mem_append] at hy
    refine hy.imp id fun hy => ?_
    rw [List.drop_eq_getElem_cons hl, hg] at hy
    exact (List.mem_cons.1 hy).resolve_left hn
theorem del_srt {x : Int} {l : List Int} (h : l.Pairwise (· < ·)) : (delI x l).Pairwise (· < ·) := by
  unfold delI
  have h' := h
  rw [← List.take_append_drop (posI x l) l, List.pairwise_append] at h'
  rw [List.pairwise_append]
  refine ⟨h'.1, h'.2.1.sublist ?_, fun a ha b hb => h'.2.2 a ha b ?_⟩
  · rw [show l.drop (posI x l + 1) = (l.drop (posI x l)).drop 1 by rw [List.drop_drop]]
    exact List.drop_sublist _ _
  · rw [show l.drop (posI x l + 1) = (l.drop (posI x l)).drop 1 by rw [List.drop_drop]] at hb
    exact List.mem_of_mem_drop hb
theorem del_len {x : Int} {l : List Int} (h : l.Pairwise (· < ·)) (hx : x ∈ l) : (delI x l).length + 1 = l.length := by
  obtain ⟨hl, _⟩ := del_at h hx
  unfold delI
  rw [List.length_append, List.length_take, List.length_drop]
  omega
theorem ins_len (x : Int) (l : List Int) : (insI x l).length = l.length + 1 := by
  have := pos_le x l
  unfold insI
  rw [List.length_append, List.length_cons, List.length_take, List.length_drop]
  omega
theorem srt_ext : ∀ {a b : List Int}, a.Pairwise (· < ·) → b.Pairwise (· < ·) → (∀ x, x ∈ a ↔ x ∈ b) → a = b
  | [], [], _, _, _ => rfl
  | [], y :: b, _, _, h => by have := (h y).2 List.mem_cons_self; cases this
  | x :: a, [], _, _, h => by have := (h x).1 List.mem_cons_self; cases this
  | x :: a, y :: b, ha, hb, h => by
    rw [List.pairwise_cons] at ha hb
    have exy : x = y := by
      rcases List.mem_cons.1 ((h x).1 List.mem_cons_self) with e | e
      · exact e
      · rcases List.mem_cons.1 ((h y).2 List.mem_cons_self) with e' | e'
        · exact e'.symm
        · have h1 := hb.1 x e
          have h2 := ha.1 y e'
          omega
    subst exy
    congr 1
    refine srt_ext ha.2 hb.2 fun z => ?_
    have hz := h z
    rw [List.mem_cons, List.mem_cons] at hz
    constructor
    · intro hm
      have := ha.1 z hm
      exact (hz.1 (.inr hm)).resolve_left (by omega)
    · intro hm
      have := hb.1 z hm
      exact (hz.2 (.inr hm)).resolve_left (by omega)
theorem ins_del {x : Int} {l : List Int} (h : l.Pairwise (· < ·)) (hx : x ∈ l) : insI x (delI x l) = l := by
  refine srt_ext (ins_srt (del_srt h) fun hm => ((del_mem h hx).1 hm).2 rfl) h fun y => ?_
  rw [ins_mem, del_mem h hx]
  constructor
  · rintro (rfl | ⟨h, _⟩)
    · exact hx
    · exact h
  · intro hy
    by_cases e : y = x
    · exact .inl e
    · exact .inr ⟨hy, e⟩
theorem del_ins {x : Int} {l : List Int} (h : l.Pairwise (· < ·)) (hx : x ∉ l) : delI x (insI x l) = l := by
  have hs := ins_srt h hx
  refine srt_ext (del_srt hs) h fun y => ?_
  rw [del_mem hs ((ins_mem x x l).2 (.inl rfl)), ins_mem]
  constructor
  · rintro ⟨h | h, hn⟩
    · exact absurd h hn
    · exact h
  · intro hy
    exact ⟨.inr hy, fun e => hx (e ▸ hy)⟩

/-- What hang and cut leave. -/
def setT (T : Tre) (x : Int) (v : Option (Int × List Int)) : Tre := fun y => if y = x then v else T y
def hangT (T : Tre) (id p : Int) (ks : List Int) : Tre := setT (setT T id (some (p, ks))) p (some (par T p, insI id (kidsT T p)))
def cutT (T : Tre) (id : Int) : Tre := setT (setT T id none) (par T id) (some (par T (par T id), delI id (kidsT T (par T id))))
def movT (T : Tre) (id p : Int) : Tre := hangT (cutT T id) id p (kidsT T id)

/-- A tree of the group 0 alone. -/
def newT : Tre := fun x => if x = 0 then some (-1, []) else none
theorem WT.new : WT newT (fun _ => 0) := by
  have h : ∀ x q, newT x = some q → x = 0 ∧ q = (-1, []) := fun x q h => by
    unfold newT at h
    split at h
    · rename_i e; exact ⟨e, (Option.some.inj h).symm⟩
    · cases h
  refine ⟨⟨[], rfl⟩, fun x q hq hx => absurd (h x q hq).1 hx, fun x q hq y => ?_, fun x q hq => ?_, fun x q hq hx => absurd (h x q hq).1 hx, rfl, fun x q hq hx => absurd (h x q hq).1 hx⟩
  · obtain ⟨rfl, rfl⟩ := h x q hq
    refine ⟨(fun hm => by cases hm), fun ⟨ks, hk⟩ => ?_⟩
    have := (h y _ hk).2
    simp at this
  · obtain ⟨rfl, rfl⟩ := h x q hq
    exact List.Pairwise.nil

section
variable {T : Tre} {D : Int → Nat} {id p : Int}
theorem hang_at {ks : List Int} {q : Int × List Int} (hp : T p = some q) (x : Int) : hangT T id p ks x = if x = p then some (q.1, insI id q.2) else if x = id then some (p, ks) else T x := by
  unfold hangT setT
  rw [par_some hp, kids_some hp]
theorem add_first {q : Int × List Int} (hp : T p = some q) (hn : T id = none) (x y : Int) (hy : y ≠ id) : (∃ ks, hangT T id p [] y = some (x, ks)) ↔ ∃ ks, T y = some (x, ks) := by
  have hne : id ≠ p := fun e => by rw [e, hp] at hn; cases hn
  rw [hang_at hp]
  by_cases hyp : y = p
  · subst hyp
    rw [if_pos rfl, hp]
    simp only [Option.some.injEq, Prod.mk.injEq]
    exact ⟨fun ⟨ks, h, _⟩ => ⟨q.2, by rw [← h]⟩, fun ⟨ks, h⟩ => ⟨_, by rw [h], rfl⟩⟩
  · rw [if_neg hyp, if_neg hy]
theorem WT.add (W : WT T D) {q : Int × List Int} (hp : T p = some q) (hn : T id = none) (hr : 1 ≤ id ∧ id ≤ 1048576) (hd : D p + 1 ≤ 16) : WT (hangT T id p []) (fun x => if x = id then D p + 1 else D x) := by
  have hne : id ≠ p := fun e => by rw [e, hp] at hn; cases hn
  have hnk : id ∉ q.2 := fun hm => by
    obtain ⟨ks, hk, _⟩ := W.kid_up hp hm
    rw [hn] at hk
    cases hk
  have hz : (0 : Int) ≠ id := by omega
  have hid : hangT T id p [] id = some (p, []) := by rw [hang_at hp, if_neg hne, if_pos rfl]
  have cases' : ∀ x q', hangT T id p [] x = some q' → (x = p ∧ q' = (q.1, insI id q.2)) ∨ (x = id ∧ q' = (p, [])) ∨ (x ≠ p ∧ x ≠ id ∧ T x = some q') := fun x q' h => by
    rw [hang_at hp] at h
    split at h
    · rename_i e; exact .inl ⟨e, (Option.some.inj h).symm⟩
    · rename_i e
      split at h
      · rename_i e'; exact .inr (.inl ⟨e', (Option.some.inj h).symm⟩)
      · rename_i e'; exact .inr (.inr ⟨e, e', h⟩)
  have some' : ∀ x q', T x = some q' → ∃ q'', hangT T id p [] x = some q'' := fun x q' h => by
    rw [hang_at hp]
    split
    · exact ⟨_, rfl⟩
    · split
      · exact ⟨_, rfl⟩
      · exact ⟨_, h⟩
  refine ⟨?_, ?_, ?_, ?_, ?_, ?_, ?_⟩
  · obtain ⟨ks, h0⟩ := W.top
    obtain ⟨k', h'⟩ := (add_first hp hn (-1) 0 hz).2 ⟨ks, h0⟩
    exact ⟨k', h'⟩
  · intro x q' h hx
    rcases cases' x q' h with ⟨rfl, _⟩ | ⟨rfl, _⟩ | ⟨_, _, h⟩
    · exact W.rg _ _ hp hx
    · exact hr
    · exact W.rg _ _ h hx
  · intro x q' h y
    by_cases hy : y = id
    · subst hy
      rw [hid]
      rcases cases' x q' h with ⟨rfl, rfl⟩ | ⟨rfl, rfl⟩ | ⟨h1, h2, h⟩
      · simp only [ins_mem, true_or, true_iff]
        exact ⟨[], rfl⟩
      · refine ⟨(fun hm => by cases hm), fun ⟨ks, e⟩ => ?_⟩
        simp at e
        exact absurd e.1.symm hne
      · refine ⟨fun hm => ?_, fun ⟨ks, e⟩ => ?_⟩
        · obtain ⟨ks, hk, _⟩ := W.kid_up h hm
          rw [hn] at hk
          cases hk
        · simp at e
          exact absurd e.1.symm h1
    · rw [add_first hp hn x y hy]
      rcases cases' x q' h with ⟨rfl, rfl⟩ | ⟨rfl, rfl⟩ | ⟨h1, h2, h⟩
      · rw [← W.kid _ _ hp y]
        simp only [ins_mem]
        exact ⟨fun e => e.resolve_left hy, .inr⟩
      · refine ⟨(fun hm => by cases hm), fun ⟨ks, e⟩ => ?_⟩
        by_cases hy0 : y = 0
        · subst hy0
          obtain ⟨k0, e0⟩ := W.top
          rw [e] at e0
          simp at e0
          omega
        · obtain ⟨q2, h2⟩ := W.up y _ e hy0
          simp only at h2
          rw [hn] at h2
          cases h2
      · exact W.kid _ _ h y
  · intro x q' h
    rcases cases' x q' h with ⟨rfl, rfl⟩ | ⟨rfl, rfl⟩ | ⟨_, _, h⟩
    · exact ins_srt (W.srt _ _ hp) hnk
    · exact List.Pairwise.nil
    · exact W.srt _ _ h
  · intro x q' h hx
    rcases cases' x q' h with ⟨rfl, rfl⟩ | ⟨rfl, rfl⟩ | ⟨_, _, h⟩
    · obtain ⟨q2, h2⟩ := W.up _ _ hp hx
      exact some' _ _ h2
    · exact some' _ _ hp
    · obtain ⟨q2, h2⟩ := W.up _ _ h hx
      exact some' _ _ h2
  · show (if (0 : Int) = id then D p + 1 else D 0) = 0
    rw [if_neg hz, W.d0]
  · intro x q' h hx
    show (if x = id then D p + 1 else D x) = (if q'.1 = id then D p + 1 else D q'.1) + 1 ∧ (if x = id then D p + 1 else D x) ≤ 16
    have hup : ∀ x q', T x = some q' → x ≠ 0 → q'.1 ≠ id := fun x q' h hx e => by
      obtain ⟨q2, h2⟩ := W.up x q' h hx
      rw [e, hn] at h2
      cases h2
    rcases cases' x q' h with ⟨rfl, rfl⟩ | ⟨rfl, rfl⟩ | ⟨_, h2, h⟩
    · rw [if_neg (Ne.symm hne), if_neg (hup _ _ hp hx)]
      exact W.dp _ q hp hx
    · rw [if_pos rfl, if_neg (Ne.symm hne)]
      exact ⟨rfl, hd⟩
    · rw [if_neg h2, if_neg (hup _ _ h hx)]
      exact W.dp _ _ h hx

theorem cut_at (W : WT T D) {q : Int × List Int} (h : T id = some q) (hx : id ≠ 0) : ∃ r, T q.1 = some r ∧ id ∈ r.2 ∧ q.1 ≠ id ∧ ∀ x, cutT T id x = if x = q.1 then some (r.1, delI id r.2) else if x = id then none else T x := by
  obtain ⟨r, hr⟩ := W.up id q h hx
  have hd := (W.dp id q h hx).1
  refine ⟨r, hr, (W.kid _ _ hr id).2 ⟨q.2, h⟩, fun e => by rw [e] at hd; omega, fun x => ?_⟩
  unfold cutT setT
  rw [par_some h, par_some hr, kids_some hr]
theorem WT.drop (W : WT T D) {q : Int × List Int} (h : T id = some q) (hx : id ≠ 0) (hk : q.2 = []) : WT (cutT T id) D := by
  obtain ⟨r, hr, hmem, hne, hc⟩ := cut_at W h hx
  have cases' : ∀ x q', cutT T id x = some q' → x ≠ id ∧ ((x = q.1 ∧ q' = (r.1, delI id r.2)) ∨ (x ≠ q.1 ∧ T x = some q')) := fun x q' e => by
    rw [hc] at e
    split at e
    · rename_i e1; exact ⟨by rw [e1]; exact hne, .inl ⟨e1, (Option.some.inj e).symm⟩⟩
    · rename_i e1
      split at e
      · cases e
      · rename_i e2; exact ⟨e2, .inr ⟨e1, e⟩⟩
  have first : ∀ x y, y ≠ id → ((∃ ks, cutT T id y = some (x, ks)) ↔ ∃ ks, T y = some (x, ks)) := fun x y hy => by
    rw [hc]
    by_cases e : y = q.1
    · subst e
      rw [if_pos rfl, hr]
      simp only [Option.some.injEq, Prod.mk.injEq]
      exact ⟨fun ⟨ks, h, _⟩ => ⟨r.2, by rw [← h]⟩, fun ⟨ks, h⟩ => ⟨_, by rw [h], rfl⟩⟩
    · rw [if_neg e, if_neg hy]
  have gone : cutT T id id = none := by rw [hc, if_neg (Ne.symm hne), if_pos rfl]
  have noup : ∀ x q', T x = some q' → x ≠ 0 → q'.1 ≠ id := fun x q' e hx0 e1 => by
    have := (W.kid id q h x).2 ⟨q'.2, by rw [e, ← e1]⟩
    rw [hk] at this
    cases this
  have some' : ∀ x q', T x = some q' → x ≠ id → ∃ q'', cutT T id x = some q'' := fun x q' e hx0 => by
    rw [hc, if_neg hx0]
    split
    · exact ⟨_, rfl⟩
    · exact ⟨_, e⟩
  refine ⟨?_, ?_, ?_, ?_, ?_, W.d0, ?_⟩
  · obtain ⟨ks, h0⟩ := W.top
    exact (first (-1) 0 (Ne.symm hx)).2 ⟨ks, h0⟩
  · intro x q' e hx0
    rcases (cases' x q' e).2 with ⟨rfl, _⟩ | ⟨_, e⟩
    · exact W.rg _ _ hr hx0
    · exact W.rg _ _ e hx0
  · intro x q' e y
    obtain ⟨hxi, hc'⟩ := cases' x q' e
    by_cases hy : y = id
    · subst hy
      rw [gone]
      refine ⟨fun hm => ?_, fun ⟨ks, e⟩ => by cases e⟩
      rcases hc' with ⟨rfl, rfl⟩ | ⟨h1, e⟩
      · exact absurd rfl ((del_mem (W.srt _ _ hr) hmem).1 hm).2
      · obtain ⟨ks, hk2, _⟩ := W.kid_up e hm
        rw [h] at hk2
        exact absurd (congrArg (·.1) (Option.some.inj hk2)).symm h1
    · rw [first x y hy]
      rcases hc' with ⟨rfl, rfl⟩ | ⟨h1, e⟩
      · rw [← W.kid _ _ hr y]
        simp only [del_mem (W.srt _ _ hr) hmem]
        exact ⟨fun e => e.1, fun e => ⟨e, hy⟩⟩
      · exact W.kid _ _ e y
  · intro x q' e
    rcases (cases' x q' e).2 with ⟨rfl, rfl⟩ | ⟨_, e⟩
    · exact del_srt (W.srt _ _ hr)
    · exact W.srt _ _ e
  · intro x q' e hx0
    rcases (cases' x q' e).2 with ⟨rfl, rfl⟩ | ⟨_, e⟩
    · obtain ⟨q2, h2⟩ := W.up _ _ hr hx0
      exact some' _ _ h2 (noup _ r hr hx0)
    · obtain ⟨q2, h2⟩ := W.up _ _ e hx0
      exact some' _ _ h2 (noup _ _ e hx0)
  · intro x q' e hx0
    rcases (cases' x q' e).2 with ⟨rfl, rfl⟩ | ⟨_, e⟩
    · exact W.dp _ r hr hx0
    · exact W.dp _ _ e hx0

/-- Whose kids change when one is moved. -/
def movK (po p id x : Int) (k : List Int) : List Int := if x = p then insI id (if x = po then delI id k else k) else if x = po then delI id k else k
theorem mov_at (W : WT T D) {q q2 : Int × List Int} (h : T id = some q) (hx : id ≠ 0) (hp : T p = some q2) (hl : id ∉ path T p) (x : Int) : movT T id p x = (T x).map fun a => (if x = id then p else a.1, movK q.1 p id x a.2) := by
  obtain ⟨r, hr, hmem, hne, hc⟩ := cut_at W h hx
  have hpi : p ≠ id := by
    rintro rfl
    exact hl (path_self W h hx)
  obtain ⟨q3, hp'⟩ : ∃ q3, cutT T id p = some q3 := by
    rw [hc, if_neg hpi]
    split
    · exact ⟨_, rfl⟩
    · exact ⟨_, hp⟩
  unfold movT
  rw [hang_at hp', kids_some h]
  unfold movK
  by_cases e : x = p
  · subst e
    rw [if_pos rfl, hp, Option.map_some]
    simp only [if_true, hpi, if_false]
    rw [hc] at hp'
    by_cases e2 : x = q.1
    · rw [if_pos e2] at hp'
      rw [← e2] at hr
      rw [hp] at hr
      cases hr
      rw [if_pos e2, ← Option.some.inj hp']
    · rw [if_neg e2, if_neg hpi, hp] at hp'
      rw [if_neg e2, ← Option.some.inj hp']
  · rw [if_neg e]
    by_cases e1 : x = id
    · subst e1
      rw [if_pos rfl, h, Option.map_some]
      simp only [if_true, e, if_false, Ne.symm hne]
    · rw [if_neg e1, hc, if_neg e1]
      by_cases e2 : x = q.1
      · subst e2
        rw [if_pos rfl, hr, Option.map_some]
        simp only [if_true, e, e1, if_false]
      · rw [if_neg e2]
        cases hx' : T x with
        | none => rfl
        | some a =>
          rw [Option.map_some]
          simp only [e, e1, e2, if_false]
end
end Go.Proofs.Ytggmdgdgljlddaa
