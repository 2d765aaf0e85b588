/-
  Plain facts on scenes: groups and tasks, the order of groups below their top. Nothing of Go is named here.
-/
import Derived.Test.YtggmdgdgljlddaaGreatWords
namespace Go.Proofs.YtggmdgdgljlddaaGreat

/-- A group, and a task, as a scene has them. -/
structure GS where
  id : Int
  par : Int
  wt : Int
  pd : Int
  qt : Int
  us : Int
structure TS where
  id : Int
  gr : Int
  wt : Int
  co : Int
  sl : Bool
  ra : Int
  lv : Int
  lr : Int
def gs0 : GS := ⟨0, 0, 0, 0, 0, 0⟩
def ts0 : TS := ⟨0, 0, 0, 0, false, 0, 0, 0⟩
instance : Inhabited GS := ⟨gs0⟩
instance : Inhabited TS := ⟨ts0⟩
theorem GS.ext' {a b : GS} (h : a.id = b.id ∧ a.par = b.par ∧ a.wt = b.wt ∧ a.pd = b.pd ∧ a.qt = b.qt ∧ a.us = b.us) : a = b := by
  obtain ⟨h1, h2, h3, h4, h5, h6⟩ := h
  cases a
  cases b
  simp only at h1 h2 h3 h4 h5 h6
  subst h1 h2 h3 h4 h5 h6
  rfl
theorem TS.ext' {a b : TS} (h : a.id = b.id ∧ a.gr = b.gr ∧ a.wt = b.wt ∧ a.co = b.co ∧ a.sl = b.sl ∧ a.ra = b.ra ∧ a.lv = b.lv ∧ a.lr = b.lr) : a = b := by
  obtain ⟨h1, h2, h3, h4, h5, h6, h7, h8⟩ := h
  cases a
  cases b
  simp only at h1 h2 h3 h4 h5 h6 h7 h8
  subst h1 h2 h3 h4 h5 h6 h7 h8
  rfl
instance : DecidableEq GS := fun a b =>
  if h : a.id = b.id ∧ a.par = b.par ∧ a.wt = b.wt ∧ a.pd = b.pd ∧ a.qt = b.qt ∧ a.us = b.us then isTrue (GS.ext' h) else isFalse fun e => h (by subst e; exact ⟨rfl, rfl, rfl, rfl, rfl, rfl⟩)
instance : DecidableEq TS := fun a b =>
  if h : a.id = b.id ∧ a.gr = b.gr ∧ a.wt = b.wt ∧ a.co = b.co ∧ a.sl = b.sl ∧ a.ra = b.ra ∧ a.lv = b.lv ∧ a.lr = b.lr then isTrue (TS.ext' h) else isFalse fun e => h (by subst e; exact ⟨rfl, rfl, rfl, rfl, rfl, rfl, rfl, rfl⟩)

theorem nodup_le : ∀ (a l : List Int), a.Nodup → (∀ x ∈ a, x ∈ l) → a.length ≤ l.length
  | [], l, _, _ => Nat.zero_le _
  | x :: a, l, hn, hs => by
    have hx : x ∈ l := hs x (by simp)
    obtain ⟨h1, h2⟩ := List.nodup_cons.1 hn
    have := nodup_le a (l.erase x) h2 fun y hy => (List.mem_erase_of_ne (fun e => h1 (by rw [← e]; exact hy))).2 (hs y (List.mem_cons_of_mem _ hy))
    rw [List.length_erase_of_mem hx] at this
    have := List.length_pos_of_mem hx
    simp only [List.length_cons]
    omega

/-! ### What is below a group, one after the other: a stack, its top first -/
abbrev Pl := GS × Nat
def lay (d : Nat) (l : List GS) : List Pl := l.map fun k => (k, d)
inductive Vis (K : Int → List GS) : List Pl → List Pl → Prop
  | nil : Vis K [] []
  | pop {g : GS} {d : Nat} {st out : List Pl} : Vis K (lay (d + 1) (K g.id) ++ st) out → Vis K ((g, d) :: st) ((g, d) :: out)
section
variable {K : Int → List GS} {st st' o o' a b : List Pl} {g : GS} {d : Nat}
theorem Vis.det (h : Vis K st o) : ∀ {o'}, Vis K st o' → o = o' := by
  induction h with
  | nil => intro o' h'; cases h'; rfl
  | pop h ih => intro o' h'; cases h' with | pop h' => rw [ih h']
theorem Vis.app (h : Vis K a o) : ∀ {b o'}, Vis K b o' → Vis K (a ++ b) (o ++ o') := by
  induction h with
  | nil => intro b o' h'; exact h'
  | pop h ih =>
    intro b o' h'
    refine Vis.pop ?_
    have := ih h'
    rwa [List.append_assoc] at this
theorem Vis.split' (h : Vis K st o) : ∀ a b, st = a ++ b → ∃ o1 o2, o = o1 ++ o2 ∧ Vis K a o1 ∧ Vis K b o2 := by
  induction h with
  | nil =>
    intro a b e
    obtain ⟨rfl, rfl⟩ := List.append_eq_nil_iff.1 e.symm
    exact ⟨[], [], rfl, .nil, .nil⟩
  | @pop g d st out h ih =>
    intro a b e
    cases a with
    | nil =>
      simp only [List.nil_append] at e
      subst e
      exact ⟨[], _, rfl, .nil, .pop h⟩
    | cons x a =>
      simp only [List.cons_append, List.cons.injEq] at e
      obtain ⟨rfl, rfl⟩ := e
      obtain ⟨o1, o2, rfl, h1, h2⟩ := ih (lay (d + 1) (K g.id) ++ a) b (by rw [List.append_assoc])
      exact ⟨_ :: o1, o2, rfl, .pop h1, h2⟩
theorem Vis.split (h : Vis K (a ++ b) o) : ∃ o1 o2, o = o1 ++ o2 ∧ Vis K a o1 ∧ Vis K b o2 := h.split' a b rfl
theorem Vis.len (h : Vis K st o) : st.length ≤ o.length := by
  induction h with
  | nil => exact Nat.le_refl _
  | pop h ih =>
    simp only [List.length_append, List.length_cons] at ih ⊢
    omega
theorem Vis.nil_iff (h : Vis K [] o) : o = [] := by cases h; rfl
theorem Vis.cons_inv (h : Vis K ((g, d) :: st) o) : ∃ out, o = (g, d) :: out ∧ Vis K (lay (d + 1) (K g.id) ++ st) out := by
  cases h with
  | pop h => exact ⟨_, rfl, h⟩
theorem Vis.mem (h : Vis K st o) : ∀ p ∈ st, p ∈ o := by
  induction h with
  | nil => intro p hp; exact hp
  | pop h ih =>
    intro p hp
    rcases List.mem_cons.1 hp with rfl | hp
    · exact List.mem_cons_self
    · exact List.mem_cons_of_mem _ (ih p (List.mem_append.2 (.inr hp)))
/-- What a place has below itself is told, a step further down. -/
theorem Vis.kids (h : Vis K st o) : ∀ p ∈ o, ∀ k ∈ K p.1.id, (k, p.2 + 1) ∈ o := by
  induction h with
  | nil => intro p hp; cases hp
  | @pop g d st out h ih =>
    intro p hp k hk
    rcases List.mem_cons.1 hp with rfl | hp
    · exact List.mem_cons_of_mem _ (h.mem _ (List.mem_append.2 (.inl (List.mem_map.2 ⟨k, hk, rfl⟩))))
    · exact List.mem_cons_of_mem _ (ih p hp k hk)
/-- Each place that is told stood on the stack, or is below one that is told ahead of it. -/
theorem Vis.up (h : Vis K st o) : ∀ (i : Nat) (p : Pl), o[i]? = some p → p ∈ st ∨ ∃ (j : Nat) (q : Pl), j < i ∧ o[j]? = some q ∧ p.1 ∈ K q.1.id ∧ p.2 = q.2 + 1 := by
  induction h with
  | nil => intro i p hp; simp at hp
  | @pop g d st out h ih =>
    intro i p hp
    cases i with
    | zero =>
      simp only [List.getElem?_cons_zero, Option.some.injEq] at hp
      exact .inl (by rw [← hp]; exact List.mem_cons_self)
    | succ i =>
      rw [List.getElem?_cons_succ] at hp
      rcases ih i p hp with h1 | ⟨j, q, h1, h2, h3, h4⟩
      · rcases List.mem_append.1 h1 with h1 | h1
        · obtain ⟨k, hk, rfl⟩ := List.mem_map.1 h1
          exact .inr ⟨0, (g, d), by omega, rfl, hk, rfl⟩
        · exact .inl (List.mem_cons_of_mem _ h1)
      · exact .inr ⟨j + 1, q, by omega, by rw [List.getElem?_cons_succ]; exact h2, h3, h4⟩
end
/-- The same, as a list that is reckoned, so many steps at most. -/
def run (K : Int → List GS) : Nat → List Pl → List Pl
  | 0, _ => []
  | _ + 1, [] => []
  | n + 1, (g, d) :: st => (g, d) :: run K n (lay (d + 1) (K g.id) ++ st)
theorem Vis.run_eq {K : Int → List GS} {st o : List Pl} (h : Vis K st o) : ∀ n, o.length ≤ n → run K n st = o := by
  induction h with
  | nil => intro n _; cases n <;> rfl
  | pop h ih =>
    intro n hn
    cases n with
    | zero => simp at hn
    | succ n =>
      show _ :: run K n _ = _
      rw [ih n (by simp at hn; omega)]

/-! ### The groups of a scene -/
/-- Rising by number. -/
def srtG (l : List GS) : List GS := l.mergeSort fun a b => decide (a.id ≤ b.id)
def srtT (l : List TS) : List TS := l.mergeSort fun a b => decide (a.id ≤ b.id)
def kidsA (tl : List GS) (x : Int) : List GS := (srtG tl).filter fun g => decide (g.par = x)
def visits : List GS → List Pl
  | [] => []
  | g :: tl => run (kidsA tl) (tl.length + 1) [(g, 0)]
def orderG (gs : List GS) : List GS := (visits gs).map (·.1)
def tallG (gs : List GS) : Nat := (visits gs).foldl (fun m p => max m p.2) 0
section
variable {tl : List GS} {g0 : GS} {x : Int} {k : GS}
theorem srtG_perm (l : List GS) : (srtG l).Perm l := List.mergeSort_perm _ _
theorem srtT_perm (l : List TS) : (srtT l).Perm l := List.mergeSort_perm _ _
theorem mem_kids : k ∈ kidsA tl x ↔ k ∈ tl ∧ k.par = x := by
  unfold kidsA
  rw [List.mem_filter, (srtG_perm tl).mem_iff]
  simp
theorem kids_nd (h : (tl.map (·.id)).Nodup) : ((kidsA tl x).map (·.id)).Nodup := by
  unfold kidsA
  have h1 : ((srtG tl).map (·.id)).Nodup := ((srtG_perm tl).map (·.id)).nodup_iff.2 h
  exact List.Sublist.nodup (List.filter_sublist.map _) h1
theorem id_inj {l : List GS} (h : (l.map (·.id)).Nodup) {a b : GS} (ha : a ∈ l) (hb : b ∈ l) (e : a.id = b.id) : a = b := by
  induction l with
  | nil => cases ha
  | cons y l ih =>
    rw [List.map_cons, List.nodup_cons] at h
    rcases List.mem_cons.1 ha with e1 | h1
    · rcases List.mem_cons.1 hb with e2 | h2
      · rw [e1, e2]
      · exact absurd (List.mem_map.2 ⟨b, h2, by rw [← e, e1]⟩) h.1
    · rcases List.mem_cons.1 hb with e2 | h2
      · exact absurd (List.mem_map.2 ⟨a, h1, by rw [e, e2]⟩) h.1
      · exact ih h.2 h1 h2
theorem vis_go (hnd : ((g0 :: tl).map (·.id)).Nodup) : ∀ (n : Nat) (seen : List GS) (st : List Pl), ((seen ++ st.map (·.1)).map (·.id)).Nodup → (∀ y ∈ seen ++ st.map (·.1), y ∈ g0 :: tl) → (∀ y ∈ seen ++ st.map (·.1), y = g0 ∨ y.par ∈ seen.map (·.id)) → tl.length + 1 ≤ seen.length + n →
    ∃ out, Vis (kidsA tl) st out ∧ ((seen ++ out.map (·.1)).map (·.id)).Nodup ∧ ∀ y ∈ seen ++ out.map (·.1), y ∈ g0 :: tl
  | n, seen, [], h1, h2, _, _ => ⟨[], .nil, h1, h2⟩
  | n, seen, (g, d) :: st, h1, h2, h3, h4 => by
    have hlen : (seen ++ ((g, d) :: st).map (·.1)).length ≤ tl.length + 1 := by
      have := nodup_le _ ((g0 :: tl).map (·.id)) h1 fun x hx => by
        obtain ⟨y, hy, rfl⟩ := List.mem_map.1 hx
        exact List.mem_map.2 ⟨y, h2 y hy, rfl⟩
      simpa using this
    simp only [List.map_cons, List.length_append, List.length_cons] at hlen
    cases n with
    | zero => omega
    | succ n =>
      have hg : g ∈ g0 :: tl := h2 g (by simp)
      have hsub : ∀ y ∈ seen ++ ((g, d) :: st).map (·.1), y ∈ g0 :: tl := h2
      have hkid : ∀ k ∈ kidsA tl g.id, k.id ∉ (seen ++ ((g, d) :: st).map (·.1)).map (·.id) := fun k hk hm => by
        obtain ⟨y, hy, e⟩ := List.mem_map.1 hm
        obtain ⟨hkt, hkp⟩ := mem_kids.1 hk
        have e2 := id_inj hnd (hsub y hy) (List.mem_cons_of_mem _ hkt) e
        subst e2
        rcases h3 y hy with e3 | e3
        · rw [e3] at hkt
          rw [List.map_cons, List.nodup_cons] at hnd
          exact hnd.1 (List.mem_map.2 ⟨g0, hkt, rfl⟩)
        · rw [hkp] at e3
          rw [List.map_append, List.map_cons, List.map_cons, List.nodup_append] at h1
          exact h1.2.2 _ e3 _ List.mem_cons_self rfl
      have e : (seen ++ [g]) ++ (lay (d + 1) (kidsA tl g.id) ++ st).map (·.1) = seen ++ (g :: (kidsA tl g.id ++ st.map (·.1))) := by
        simp [lay, Function.comp_def]
      have hp : (seen ++ (g :: (kidsA tl g.id ++ st.map (·.1)))).Perm (kidsA tl g.id ++ (seen ++ ((g, d) :: st).map (·.1))) := by
        simp only [List.map_cons]
        have a1 : (g :: (kidsA tl g.id ++ st.map (·.1))).Perm (kidsA tl g.id ++ (g :: st.map (·.1))) := List.perm_middle.symm
        have a2 := List.Perm.append_left seen a1
        refine a2.trans ?_
        rw [← List.append_assoc, ← List.append_assoc]
        exact List.Perm.append_right _ List.perm_append_comm
      obtain ⟨out, g1, g2, g3⟩ := vis_go hnd n (seen ++ [g]) (lay (d + 1) (kidsA tl g.id) ++ st) (by
          rw [e]
          refine ((hp.map (·.id)).nodup_iff).2 ?_
          rw [List.map_append, List.nodup_append]
          rw [List.map_cons, List.nodup_cons] at hnd
          refine ⟨kids_nd hnd.2, h1, fun a ha b hb e => ?_⟩
          obtain ⟨k, hk, rfl⟩ := List.mem_map.1 ha
          exact hkid k hk (e ▸ hb)) (by
          rw [e]
          intro y hy
          rcases List.mem_append.1 (hp.mem_iff.1 hy) with hy | hy
          · exact List.mem_cons_of_mem _ (mem_kids.1 hy).1
          · exact h2 y hy) (by
          rw [e]
          intro y hy
          rw [List.map_append, List.mem_append]
          rcases List.mem_append.1 (hp.mem_iff.1 hy) with hy | hy
          · exact .inr (.inr (by rw [(mem_kids.1 hy).2]; simp))
          · rcases h3 y hy with h | h
            · exact .inl h
            · exact .inr (.inl h)) (by
          rw [List.length_append, List.length_singleton]
          omega)
      refine ⟨(g, d) :: out, .pop g1, ?_, ?_⟩
      · simpa using g2
      · simpa using g3
/-- Of a scene whose numbers are unlike: what is below its first group is told, each group once. -/
theorem visits_is (hnd : ((g0 :: tl).map (·.id)).Nodup) : Vis (kidsA tl) [(g0, 0)] (visits (g0 :: tl)) ∧ ((orderG (g0 :: tl)).map (·.id)).Nodup ∧ (∀ y ∈ orderG (g0 :: tl), y ∈ g0 :: tl) ∧ (visits (g0 :: tl)).length ≤ tl.length + 1 := by
  obtain ⟨out, h1, h2, h3⟩ := vis_go hnd (tl.length + 1) [] [(g0, 0)] (by simp) (by simp) (by simp) (by simp)
  have hl : out.length ≤ tl.length + 1 := by
    have := nodup_le _ ((g0 :: tl).map (·.id)) h2 fun x hx => by
      obtain ⟨y, hy, rfl⟩ := List.mem_map.1 hx
      exact List.mem_map.2 ⟨y, h3 y hy, rfl⟩
    simpa using this
  have he : visits (g0 :: tl) = out := h1.run_eq _ hl
  unfold orderG
  rw [he]
  exact ⟨h1, by simpa using h2, by simpa using h3, hl⟩
theorem visits_perm {tl' : List GS} (h : srtG tl = srtG tl') (hl : tl.length = tl'.length) : visits (g0 :: tl) = visits (g0 :: tl') := by
  have e : kidsA tl = kidsA tl' := by
    funext x
    unfold kidsA
    rw [h]
  show run (kidsA tl) (tl.length + 1) _ = run (kidsA tl') (tl'.length + 1) _
  rw [e, hl]
end
end Go.Proofs.YtggmdgdgljlddaaGreat
