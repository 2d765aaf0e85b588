/-
  Plain facts on trees of groups: what moving leaves; what each operation tells. Nothing of Go is named here.
-/
import Derived.Test.YtggmdgdgljlddaaNOps
namespace Go.Proofs.Ytggmdgdgljlddaa

section
variable {T : Tre} {D : Int → Nat} {id p : Int}
theorem mem_movK {po p id x y : Int} {k : List Int} (hs : k.Pairwise (· < ·)) (hk : id ∈ k ↔ x = po) : y ∈ movK po p id x k ↔ (y = id ∧ x = p) ∨ (y ≠ id ∧ y ∈ k) := by
  have h1 : ∀ y, y ∈ (if x = po then delI id k else k) ↔ y ≠ id ∧ y ∈ k := fun y => by
    by_cases e : x = po
    · rw [if_pos e, del_mem hs (hk.2 e)]
      exact And.comm
    · rw [if_neg e]
      exact ⟨fun h => ⟨fun e2 => e (hk.1 (e2 ▸ h)), h⟩, fun h => h.2⟩
  unfold movK
  by_cases e : x = p
  · rw [if_pos e, ins_mem, h1]
    exact ⟨fun h => h.imp (fun h => ⟨h, e⟩) fun h => h, fun h => h.imp (fun h => h.1) fun h => h⟩
  · rw [if_neg e, h1]
    exact ⟨fun h => .inr h, fun h => h.resolve_left fun h => e h.2⟩
theorem srt_movK {po p id x : Int} {k : List Int} (hs : k.Pairwise (· < ·)) (hk : id ∈ k ↔ x = po) : (movK po p id x k).Pairwise (· < ·) := by
  have h1 : (if x = po then delI id k else k).Pairwise (· < ·) := by
    split
    · exact del_srt hs
    · exact hs
  have h2 : id ∉ (if x = po then delI id k else k) := by
    by_cases e : x = po
    · rw [if_pos e, del_mem hs (hk.2 e)]
      exact fun h => h.2 rfl
    · rw [if_neg e]
      exact fun h => e (hk.1 h)
  unfold movK
  split
  · exact ins_srt h1 h2
  · exact h1
theorem kid_iff (W : WT T D) {q : Int × List Int} (h : T id = some q) {x : Int} {a : Int × List Int} (hx : T x = some a) : id ∈ a.2 ↔ x = q.1 := by
  rw [W.kid x a hx]
  rw [h]
  constructor
  · rintro ⟨ks, e⟩
    cases e
    rfl
  · rintro rfl
    exact ⟨q.2, rfl⟩
theorem WT.move (W : WT T D) {q q2 : Int × List Int} (h : T id = some q) (hx : id ≠ 0) (hp : T p = some q2) (hl : id ∉ path T p) (ht : ∀ x a, T x = some a → id ∈ path T x → D p + 1 + (D x - D id) ≤ 16) :
    WT (movT T id p) (fun x => if id ∈ path T x then D p + 1 + (D x - D id) else D x) := by
  have hm := mov_at W h hx hp hl
  have inv : ∀ x q', movT T id p x = some q' → ∃ a, T x = some a ∧ q' = (if x = id then p else a.1, movK q.1 p id x a.2) := fun x q' e => by
    rw [hm] at e
    obtain ⟨a, h1, h2⟩ := Option.map_eq_some_iff.1 e
    exact ⟨a, h1, h2.symm⟩
  have fwd : ∀ x a, T x = some a → movT T id p x = some (if x = id then p else a.1, movK q.1 p id x a.2) := fun x a e => by rw [hm, e]; rfl
  refine ⟨?_, fun x q' e hx0 => ?_, fun x q' e y => ?_, fun x q' e => ?_, fun x q' e hx0 => ?_, ?_, fun x q' e hx0 => ?_⟩
  · obtain ⟨ks, h0⟩ := W.top
    exact ⟨_, by rw [fwd _ _ h0, if_neg (Ne.symm hx)]⟩
  · obtain ⟨a, ha, _⟩ := inv x q' e
    exact W.rg x a ha hx0
  · obtain ⟨a, ha, rfl⟩ := inv x q' e
    simp only
    rw [mem_movK (W.srt x a ha) (kid_iff W h ha)]
    constructor
    · rintro (⟨rfl, rfl⟩ | ⟨hy, hm2⟩)
      · exact ⟨_, by rw [fwd _ _ h, if_pos rfl]⟩
      · obtain ⟨ks, hk⟩ := (W.kid x a ha y).1 hm2
        exact ⟨_, by rw [fwd _ _ hk, if_neg hy]⟩
    · rintro ⟨ks, hk⟩
      obtain ⟨b, hb, e2⟩ := inv y _ hk
      have e3 := congrArg Prod.fst e2
      simp only at e3
      by_cases hy : y = id
      · rw [if_pos hy] at e3
        exact .inl ⟨hy, e3⟩
      · rw [if_neg hy] at e3
        exact .inr ⟨hy, (W.kid x a ha y).2 ⟨b.2, by rw [hb, e3]⟩⟩
  · obtain ⟨a, ha, rfl⟩ := inv x q' e
    exact srt_movK (W.srt x a ha) (kid_iff W h ha)
  · obtain ⟨a, ha, rfl⟩ := inv x q' e
    simp only
    split
    · exact ⟨_, fwd _ _ hp⟩
    · obtain ⟨q'', h2⟩ := W.up x a ha hx0
      exact ⟨_, fwd _ _ h2⟩
  · rw [path_nil W (.inr rfl), if_neg (by simp), W.d0]
  · obtain ⟨a, ha, rfl⟩ := inv x q' e
    simp only
    by_cases e1 : x = id
    · subst e1
      rw [if_pos rfl, if_pos (path_self W h hx), if_neg hl]
      have := ht x _ h (path_self W h hx)
      omega
    · rw [if_neg e1]
      have hd := W.dp x a ha hx0
      obtain ⟨q'', h2⟩ := W.up x a ha hx0
      have hpu := path_up W ha hx0 (Ne.symm e1)
      by_cases e2 : id ∈ path T x
      · have e3 := hpu.1 e2
        rw [if_pos e2, if_pos e3]
        have := ht x a ha e2
        have := (path_mem W h2 e3).2.2
        omega
      · rw [if_neg e2, if_neg fun h => e2 (hpu.2 h)]
        exact hd
theorem tall_le (W : WT T D) {q : Int × List Int} (h : T id = some q) {x : Int} {a : Int × List Int} (hx : T x = some a) (hm : id ∈ path T x) : ((D x - D id : Nat) : Int) ≤ tall T id := by
  have h1 : x ∈ under T id := (mem_under W h).2 ⟨⟨a, hx⟩, .inr hm⟩
  unfold under at h1
  obtain ⟨⟨y, e⟩, hm2, he⟩ := List.mem_map.1 h1
  simp only at he
  subst he
  have h2 := (fold_max (places T id) (-1)).2.1 _ hm2
  have hm3 := hm2
  unfold places at hm3
  rw [h] at hm3
  obtain ⟨_, _, h4, _⟩ := und_down W 17 id 0 ⟨q, h⟩ _ _ hm3
  unfold tall
  simp only at h2
  omega

/-- What each operation tells. -/
def addE (T : Tre) (id p : Int) : Int := if id < 1 ∨ id > 1048576 then 1 else if (T id).isSome then 9 else if (T p).isSome then (if (path T p).length + 1 > 16 then 10 else 0) else 8
def dropE (T : Tre) (id : Int) : Int := if par T id = -1 then 8 else if (kidsT T id).length > 0 then 12 else 0
def movE (T : Tre) (id p : Int) : Int := if par T id = -1 ∨ (T p).isSome = false then 8 else if id ∈ path T p then 11 else if ((path T p).length : Int) + 1 + tall T id > 16 then 10 else 0
def doE (T : Tre) (o : Int × Int × Int) : Int := if o.1 = 1 then addE T o.2.1 o.2.2 else if o.1 = 2 then dropE T o.2.1 else if o.1 = 3 then movE T o.2.1 o.2.2 else 0
def doT (T : Tre) (o : Int × Int × Int) : Tre := if doE T o = 0 then (if o.1 = 1 then hangT T o.2.1 o.2.2 [] else if o.1 = 2 then cutT T o.2.1 else if o.1 = 3 then movT T o.2.1 o.2.2 else T) else T
theorem add_ok (W : WT T D) (h : addE T id p = 0) : ∃ q, T p = some q ∧ T id = none ∧ (1 ≤ id ∧ id ≤ 1048576) ∧ D p + 1 ≤ 16 := by
  unfold addE at h
  split at h
  · cases h
  · split at h
    · cases h
    · split at h
      · split at h
        · cases h
        · rename_i h1 h2 h3 h4
          obtain ⟨q, hq⟩ := Option.isSome_iff_exists.1 h3
          refine ⟨q, hq, by simpa using h2, by omega, ?_⟩
          have := path_len W hq
          omega
      · cases h
theorem drop_ok (W : WT T D) (h : dropE T id = 0) : ∃ q, T id = some q ∧ id ≠ 0 ∧ q.2 = [] := by
  unfold dropE at h
  split at h
  · cases h
  · split at h
    · cases h
    · rename_i h1 h2
      rw [W.par_iff] at h1
      cases e : T id with
      | none => exact absurd (.inl e) h1
      | some q =>
        rw [kids_some e] at h2
        exact ⟨q, rfl, fun e => h1 (.inr e), List.eq_nil_of_length_eq_zero (by omega)⟩
theorem mov_ok (W : WT T D) (h : movE T id p = 0) : ∃ q q2, T id = some q ∧ id ≠ 0 ∧ T p = some q2 ∧ id ∉ path T p ∧ ∀ x a, T x = some a → id ∈ path T x → D p + 1 + (D x - D id) ≤ 16 := by
  unfold movE at h
  split at h
  · cases h
  · split at h
    · cases h
    · split at h
      · cases h
      · rename_i h1 h2 h3
        rw [W.par_iff] at h1
        cases e : T id with
        | none => exact absurd (.inl (.inl e)) h1
        | some q =>
          cases e2 : T p with
          | none => exact absurd (.inr (by rw [e2]; rfl)) h1
          | some q2 =>
            refine ⟨q, q2, rfl, fun e => h1 (.inl (.inr e)), rfl, h2, fun x a hx hm => ?_⟩
            have := tall_le W e hx hm
            have := path_len W e2
            omega
theorem WT.do (W : WT T D) (o : Int × Int × Int) : ∃ D', WT (doT T o) D' := by
  obtain ⟨c, id, p⟩ := o
  unfold doT
  split
  · rename_i h
    unfold doE at h
    simp only at h ⊢
    split
    · rename_i h1
      rw [if_pos h1] at h
      obtain ⟨q, hp, hn, hr, hd⟩ := add_ok W h
      exact ⟨_, W.add hp hn hr hd⟩
    · rename_i h1
      rw [if_neg h1] at h
      split
      · rename_i h2
        rw [if_pos h2] at h
        obtain ⟨q, hq, h0, hk⟩ := drop_ok W h
        exact ⟨_, W.drop hq h0 hk⟩
      · rename_i h2
        rw [if_neg h2] at h
        split
        · rename_i h3
          rw [if_pos h3] at h
          obtain ⟨q, q2, hq, h0, hp, hl, ht⟩ := mov_ok W h
          exact ⟨_, W.move hq h0 hp hl ht⟩
        · exact ⟨D, W⟩
  · exact ⟨D, W⟩
end
end Go.Proofs.Ytggmdgdgljlddaa
