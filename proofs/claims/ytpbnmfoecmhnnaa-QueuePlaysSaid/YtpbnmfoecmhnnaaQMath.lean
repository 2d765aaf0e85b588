/-
  A queue's state as plain things: its members in order, its base; what joins, leaves, runs and weighs make of it. Nothing of a program is named here.
-/
import Derived.Test.YtpbnmfoecmhnnaaQMap
import Derived.Test.YtpbnmfoecmhnnaaSS
namespace Go.Proofs.Ytpbnmfoecmhnnaa
open Go.RowKit

def itM (m : Mb) : It := ⟨m.v, m.id⟩
structure Qs where
  base : Int
  l : List Mb
def q0 : Qs := ⟨0, []⟩
def Ids (l : List Mb) : Prop := l.Pairwise fun a b => a.id ≠ b.id
/-- A member, as it is. -/
structure Ok (b : Int) (m : Mb) : Prop where
  i1 : 1 ≤ m.id
  i2 : m.id ≤ 1048576
  w1 : 1 ≤ m.w
  w2 : m.w ≤ 1048576
  v1 : b ≤ m.v
  v2 : m.v ≤ 2305843009213693952
  r1 : 0 ≤ m.r
  r2 : m.r < m.w
structure QOk (s : Qs) : Prop where
  b1 : 0 ≤ s.base
  b2 : s.base ≤ 2305843009213693952
  ok : ∀ m ∈ s.l, Ok s.base m
  ids : Ids s.l
  srt : Sorted (s.l.map itM)
  len : s.l.length ≤ 4096
theorem Ok.id64 {b : Int} {m : Mb} (h : Ok b m) : I64 m.id := by have := h.i1; have := h.i2; unfold I64; omega

theorem itM_mem {l : List Mb} {x : It} (h : ∀ m ∈ l, m.id ≠ x.id) : x ∉ l.map itM := fun hx => by
  obtain ⟨m, hm, rfl⟩ := List.mem_map.1 hx
  exact h m hm rfl

/-- A member put where it belongs; all but one. -/
def insM (l : List Mb) (m : Mb) : List Mb := (l.filter fun y => ltB (itM y) (itM m)) ++ m :: l.filter fun y => ltB (itM m) (itM y)
def remM (l : List Mb) (k : Int) : List Mb := l.filter fun y => decide (y.id ≠ k)

section
variable {l : List Mb} {m : Mb} {k : Int}
theorem insM_map (h : ∀ y ∈ l, y.id ≠ m.id) : putL (l.map itM) (itM m) = (insM l m).map itM := by
  unfold putL
  rw [if_neg (itM_mem h)]
  simp [insM, List.filter_map, Function.comp_def]
theorem remM_map (hi : Ids l) (hm : m ∈ l) : dropL (l.map itM) (itM m) = (remM l m.id).map itM := by
  unfold dropL remM
  rw [List.filter_map]
  congr 1
  refine List.filter_congr fun y hy => ?_
  simp only [Function.comp_apply, decide_eq_decide]
  constructor
  · intro h e
    have := finM_of hi hy
    rw [e, finM_of hi hm] at this
    cases this
    exact h rfl
  · intro h e
    exact h (congrArg It.id e)
theorem insM_perm (h : ∀ y ∈ l, y.id ≠ m.id) : (insM l m).Perm (m :: l) := by
  unfold insM
  refine List.perm_middle.trans (List.Perm.cons m ?_)
  have e : (l.filter fun y => ltB (itM m) (itM y)) = l.filter fun y => !ltB (itM y) (itM m) := List.filter_congr fun y hy => by
    rcases ltB_tri (itM y) (itM m) with h1 | h1 | h1
    · rw [h1, ltB_asymm h1]; rfl
    · exact absurd (congrArg It.id h1) (h y hy)
    · rw [h1, ltB_asymm h1]; rfl
  rw [e]
  exact List.filter_append_perm _ l
theorem insM_mem (h : ∀ y ∈ l, y.id ≠ m.id) {x : Mb} : x ∈ insM l m ↔ x = m ∨ x ∈ l := by
  rw [(insM_perm h).mem_iff, List.mem_cons]
theorem insM_len (h : ∀ y ∈ l, y.id ≠ m.id) : (insM l m).length = l.length + 1 := by rw [(insM_perm h).length_eq, List.length_cons]
theorem insM_ids (h : ∀ y ∈ l, y.id ≠ m.id) (hi : Ids l) : Ids (insM l m) := by
  unfold Ids
  rw [(insM_perm h).pairwise_iff (fun {a b} (h : a.id ≠ b.id) => h.symm), List.pairwise_cons]
  exact ⟨fun y hy e => h y hy e.symm, hi⟩
theorem fin_ext {a b : List Mb} (hb : Ids b) (h : ∀ x, x ∈ a ↔ x ∈ b) (k : Int) : finM a k = finM b k := by
  cases h1 : finM a k with
  | some x =>
    have := finM_of hb ((h x).1 (finM_mem h1))
    rw [finM_id h1] at this
    exact this.symm
  | none =>
    symm
    exact finM_not fun x hx => finM_none h1 x ((h x).2 hx)
theorem insM_fin (h : ∀ y ∈ l, y.id ≠ m.id) (hi : Ids l) (k : Int) : finM (insM l m) k = if k = m.id then some m else finM l k := by
  have h1 : finM (insM l m) k = finM (m :: l) k := fin_ext (List.pairwise_cons.2 ⟨fun y hy e => h y hy e.symm, hi⟩) (fun x => (insM_perm h).mem_iff) k
  rw [h1]
  unfold finM
  rw [List.find?_cons]
  by_cases e : k = m.id
  · simp [e]
  · rw [if_neg e]
    have : decide (m.id = k) = false := decide_eq_false fun h => e h.symm
    rw [this]
theorem remM_mem {x : Mb} : x ∈ remM l k ↔ x ∈ l ∧ x.id ≠ k := by simp [remM]
theorem remM_ids (hi : Ids l) : Ids (remM l k) := hi.filter _
theorem remM_fin (hi : Ids l) (j : Int) : finM (remM l k) j = if j = k then none else finM l j := by
  by_cases e : j = k
  · rw [if_pos e]
    exact finM_not fun x hx => by rw [e]; exact (remM_mem.1 hx).2
  · rw [if_neg e]
    cases h : finM l j with
    | some x =>
      have := finM_of (remM_ids (k := k) hi) (remM_mem.2 ⟨finM_mem h, by rw [finM_id h]; exact e⟩)
      rw [finM_id h] at this
      exact this
    | none => exact finM_not fun x hx => finM_none h x (remM_mem.1 hx).1
theorem remM_len (hi : Ids l) : (remM l k).length + (if (finM l k).isSome then 1 else 0) = l.length := by
  induction l with
  | nil => rfl
  | cons x l ih =>
    unfold Ids at hi
    rw [List.pairwise_cons] at hi
    have hh := ih hi.2
    unfold finM at hh ⊢
    rw [List.find?_cons]
    by_cases e : x.id = k
    · have : finM l k = none := finM_not fun y hy => by rw [← e]; exact fun h => hi.1 y hy h.symm
      unfold finM at this
      rw [this] at hh
      have h2 : remM (x :: l) k = remM l k := by simp [remM, e]
      rw [h2]
      simp [e] at hh ⊢
      exact hh
    · have h2 : remM (x :: l) k = x :: remM l k := by simp [remM, e]
      rw [h2]
      simp only [e, decide_false, List.length_cons]
      omega
theorem sorted_map_sub {a b : List Mb} (h : a.Sublist b) (hs : Sorted (b.map itM)) : Sorted (a.map itM) := List.Pairwise.sublist (h.map itM) hs
theorem remM_srt (hs : Sorted (l.map itM)) : Sorted ((remM l k).map itM) := sorted_map_sub List.filter_sublist hs
theorem insM_srt (hs : Sorted (l.map itM)) : Sorted ((insM l m).map itM) := by
  unfold Sorted insM
  rw [List.map_append, List.map_cons, List.pairwise_append, List.pairwise_cons]
  refine ⟨sorted_map_sub List.filter_sublist hs, ⟨fun y hy => ?_, sorted_map_sub List.filter_sublist hs⟩, fun x hx y hy => ?_⟩
  · obtain ⟨z, hz, rfl⟩ := List.mem_map.1 hy
    exact (List.mem_filter.1 hz).2
  · obtain ⟨z, hz, rfl⟩ := List.mem_map.1 hx
    have hz := (List.mem_filter.1 hz).2
    rcases List.mem_cons.1 hy with rfl | hy
    · exact hz
    · obtain ⟨u, hu, rfl⟩ := List.mem_map.1 hy
      exact ltB_trans hz (List.mem_filter.1 hu).2
theorem memb_ext {a b : List Mb} (ha : Sorted (a.map itM)) (hb : Sorted (b.map itM)) (h : ∀ x, x ∈ a ↔ x ∈ b) : a = b := by
  induction a generalizing b with
  | nil =>
    cases b with
    | nil => rfl
    | cons y b => exact absurd ((h y).2 (by simp)) (by simp)
  | cons x a ih =>
    cases b with
    | nil => exact absurd ((h x).1 (by simp)) (by simp)
    | cons y b =>
      unfold Sorted at ha hb
      rw [List.map_cons, List.pairwise_cons] at ha hb
      have lt_a : ∀ z ∈ a, ltB (itM x) (itM z) = true := fun z hz => ha.1 _ (List.mem_map.2 ⟨z, hz, rfl⟩)
      have lt_b : ∀ z ∈ b, ltB (itM y) (itM z) = true := fun z hz => hb.1 _ (List.mem_map.2 ⟨z, hz, rfl⟩)
      have hxy : x = y := by
        rcases List.mem_cons.1 ((h x).1 (by simp)) with e | e
        · exact e
        · rcases List.mem_cons.1 ((h y).2 (by simp)) with e' | e'
          · exact e'.symm
          · have h1 := lt_b x e
            have h2 := lt_a y e'
            rw [ltB_asymm h1] at h2
            cases h2
      subst hxy
      congr 1
      refine ih ha.2 hb.2 fun z => ⟨fun hz => ?_, fun hz => ?_⟩
      · rcases List.mem_cons.1 ((h z).1 (List.mem_cons_of_mem _ hz)) with e | e
        · have := lt_a z hz
          rw [e, ltB_irr] at this
          cases this
        · exact e
      · rcases List.mem_cons.1 ((h z).2 (List.mem_cons_of_mem _ hz)) with e | e
        · have := lt_b z hz
          rw [e, ltB_irr] at this
          cases this
        · exact e
end

/-- A member as it is told. -/
def tl (b : Int) (m : Mb) : Mb := { m with v := m.v - b }
/-- What may join. -/
def isM (m : Mb) : Bool := decide (1 ≤ m.id) && decide (m.id ≤ 1048576) && decide (1 ≤ m.w) && decide (m.w ≤ 1048576) && decide (0 ≤ m.v) && decide (m.v ≤ 2305843009213693952) && decide (0 ≤ m.r) && decide (m.r < m.w)
theorem isM_iff {m : Mb} : isM m = true ↔ (1 ≤ m.id ∧ m.id ≤ 1048576) ∧ (1 ≤ m.w ∧ m.w ≤ 1048576) ∧ (0 ≤ m.v ∧ m.v ≤ 2305843009213693952) ∧ 0 ≤ m.r ∧ m.r < m.w := by
  simp [isM, and_assoc]
def far (b : Int) (m : Mb) : Mb := { m with v := b + m.v }

/-- Join, Leave, Run, Weigh: what is answered, and the state behind it. -/
def joinE (s : Qs) (m : Mb) : Int :=
  if isM m = false then 1 else if (finM s.l m.id).isSome then 9 else if 4096 ≤ s.l.length then 7 else if 2305843009213693952 < s.base + m.v then 6 else 0
def joinS (s : Qs) (m : Mb) : Qs := if joinE s m = 0 then ⟨s.base, insM s.l (far s.base m)⟩ else s
def leaveE (s : Qs) (k : Int) : Int := if (finM s.l k).isSome then 0 else 8
def leaveM (s : Qs) (k : Int) : Mb := match finM s.l k with | some m => tl s.base m | none => mb0
def leaveS (s : Qs) (k : Int) : Qs := ⟨s.base, remM s.l k⟩
/-- A member behind some ticks. -/
def ranM (m : Mb) (n : Int) : Mb := { m with v := m.v + (1048576 * n + m.r) / m.w, r := (1048576 * n + m.r) % m.w }
def runE (s : Qs) (k n : Int) : Int := match finM s.l k with
  | none => 8
  | some m => if n < 0 ∨ 1099511627776 < n then 1 else if 2305843009213693952 < (ranM m n).v then 6 else 0
def head (d : Int) (l : List Mb) : Int := match l with | [] => d | m :: _ => m.v
def runS (s : Qs) (k n : Int) : Qs := match finM s.l k with
  | none => s
  | some m => if runE s k n = 0 then (let l := insM (remM s.l k) (ranM m n); ⟨max s.base (head s.base l), l⟩) else s
def weighE (s : Qs) (k n : Int) : Int := match finM s.l k with
  | none => 8
  | some _ => if n < 1 ∨ 1048576 < n then 1 else 0
def weiM (m : Mb) (n : Int) : Mb := { m with w := n, r := m.r * n / m.w }
def weighS (s : Qs) (k n : Int) : Qs := if weighE s k n = 0 then ⟨s.base, s.l.map fun m => if m.id = k then weiM m n else m⟩ else s
end Go.Proofs.Ytpbnmfoecmhnnaa
