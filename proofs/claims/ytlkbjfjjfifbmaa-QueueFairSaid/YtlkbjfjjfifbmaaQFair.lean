/-
  Who is first goes, and nobody gets far ahead: as plain things; a queue beside blocks of the call's own that are written.
-/
import Derived.Test.YtlkbjfjjfifbmaaQHalf
namespace Go.Proofs.Ytlkbjfjjfifbmaa
open Go.RowKit

/-- One queue; N: blocks that it does not have. -/
structure QN (a w : World) (N : Nat → Prop) (g mb sg : Nat) (s : Qs) : Prop where
  kept : Kp No a w
  ex : ∃ T, Qu w g mb sg T s ∧ (∀ i, QB g mb T i → a.heap.size ≤ i ∧ ¬ N i) ∧ (∀ i, N i → i < w.heap.size ∧ a.heap.size ≤ i)
section
variable {a w w' w1 w2 : World} {N : Nat → Prop} {g mb sg : Nat} {s s1 : Qs}
theorem QI.beside (h : QI a w g mb sg s) (k : Kp No w w') : QN a w' (fun i => w.heap.size ≤ i ∧ i < w'.heap.size) g mb sg s := by
  obtain ⟨T, h1, h2⟩ := h.ex
  have hs := h.kept.size
  exact ⟨h.kept.trans k, _, h1.trim.kp0 k, fun i hi => ⟨h2 i (hi.imp id fun e => e.imp id fun e => e.1), fun e => h1.new e.1 hi⟩, fun i hi => ⟨hi.2, by omega⟩⟩
theorem QN.qi (h : QN a w N g mb sg s) : QI a w g mb sg s := by
  obtain ⟨k, T, h1, h2, _⟩ := h
  exact ⟨k, T, h1, fun i hi => (h2 i hi).1⟩
theorem QN.kp0 (h : QN a w N g mb sg s) (k : Kp No w w') : QN a w' N g mb sg s := by
  obtain ⟨k', T, h1, h2, h3⟩ := h
  exact ⟨k'.trans k, T, h1.kp0 k, h2, fun i hi => ⟨Nat.lt_of_lt_of_le (h3 i hi).1 k.size, (h3 i hi).2⟩⟩
theorem QN.put (h : QN a w N g mb sg s) {p i : Nat} (hp : N p) (u : Value) : QN a (w.setCell ⟨p, i, none⟩ u) N g mb sg s := by
  obtain ⟨k', T, h1, h2, h3⟩ := h
  have k := Kp.set1 p i w u
  have hsz := k.size
  exact ⟨k'.step k fun j hj e => absurd hj (by have : j = p := e; have := (h3 p hp).2; omega), T, h1.only k fun e => (h2 p e).2 hp, h2, fun j hj => ⟨Nat.lt_of_lt_of_le (h3 j hj).1 hsz, (h3 j hj).2⟩⟩
theorem QN.step (h : QN a w N g mb sg s) {R : Ending → World → Prop} {f : FuncId} {args : Array Value} {v : Value}
    (hc : ∀ T, Qu w g mb sg T s → Calls Try.prog f args w fun e w' => e = .returned v ∧ OpR w w' g mb sg T s1)
    (hR : ∀ w', QN a w' N g mb sg s1 → Kp (fun i => ¬ N i) w w' → R (.returned v) w') : Calls Try.prog f args w R := by
  obtain ⟨k, T, h1, h2, h3⟩ := h
  refine (hc T h1).mono fun e w' ⟨he, r1, r2⟩ => ?_
  subst he
  have hk := k.size
  have hr := r1.size
  refine hR w' ⟨k.step r1 fun i hi e => absurd (h2 i e).1 (by omega), _, r2, fun i hi => ?_, fun i hi => ⟨Nat.lt_of_lt_of_le (h3 i hi).1 hr, (h3 i hi).2⟩⟩ (r1.mono fun i _ e => (h2 i e).2)
  rcases hi with e | e | e
  · exact h2 i (.inl e)
  · exact h2 i (.inr (.inl e))
  · rcases e.1 with e | e
    · exact h2 i (.inr (.inr e))
    · exact ⟨by omega, fun hn => by have := (h3 i hn).1; omega⟩
end

/-- So many have joined. -/
structure JI (ws : List Int) (k : Nat) (s : Qs) : Prop where
  base : s.base = 0
  len : s.l.length = k
  who : ∀ m ∈ s.l, ∃ i : Nat, i < k ∧ m = ⟨(i : Int) + 1, ws.getD i 0, 0, 0⟩
  at_ : ∀ i : Nat, i < k → (⟨(i : Int) + 1, ws.getD i 0, 0, 0⟩ : Mb) ∈ s.l
theorem JI.start (ws : List Int) : JI ws 0 q0 := ⟨rfl, rfl, fun m hm => (by cases hm), fun i hi => (by omega)⟩
theorem JI.step {ws : List Int} {k : Nat} {s : Qs} (h : JI ws k s) (hk : k ≤ 100) (h1 : 1 ≤ ws.getD k 0) (h2 : ws.getD k 0 ≤ 1048576) :
    joinE s ⟨(k : Int) + 1, ws.getD k 0, 0, 0⟩ = 0 ∧ JI ws (k + 1) (joinS s ⟨(k : Int) + 1, ws.getD k 0, 0, 0⟩) := by
  have fn : finM s.l ((k : Int) + 1) = none := finM_not fun m hm e => by
    obtain ⟨i, hi, rfl⟩ := h.who m hm
    simp only at e
    omega
  have f1 := finM_none fn
  have hi : isM ⟨(k : Int) + 1, ws.getD k 0, 0, 0⟩ = true := by
    rw [isM_iff]
    simp only
    omega
  have he : joinE s ⟨(k : Int) + 1, ws.getD k 0, 0, 0⟩ = 0 := by
    unfold joinE
    rw [hi]
    simp only
    rw [fn, h.base, h.len, if_neg (show ¬ 4096 ≤ k by omega)]
    simp
  refine ⟨he, ?_⟩
  rw [joinS_l he]
  have hfar : far s.base ⟨(k : Int) + 1, ws.getD k 0, 0, 0⟩ = ⟨(k : Int) + 1, ws.getD k 0, 0, 0⟩ := by rw [h.base]; simp [far]
  rw [hfar]
  refine ⟨h.base, by simp only; rw [insM_len f1, h.len], fun m hm => ?_, fun i hi => ?_⟩
  · rcases (insM_mem f1).1 hm with rfl | hm
    · exact ⟨k, by omega, rfl⟩
    · obtain ⟨i, hi, e⟩ := h.who m hm
      exact ⟨i, by omega, e⟩
  · rcases (show i = k ∨ i < k by omega) with rfl | hi
    · exact (insM_mem f1).2 (.inl rfl)
    · exact (insM_mem f1).2 (.inr (h.at_ i hi))

/-- Between two ticks. -/
structure FairI (ws rs : List Int) (s : Qs) (t : Nat) : Prop where
  len : s.l.length = ws.length
  rlen : rs.length = ws.length
  rb : ∀ i : Nat, i < ws.length → 0 ≤ rs.getD i 0 ∧ rs.getD i 0 ≤ (t : Int)
  who : ∀ m ∈ s.l, ∃ i : Nat, i < ws.length ∧ m.id = (i : Int) + 1
  at_ : ∀ i : Nat, i < ws.length → ∃ m, finM s.l ((i : Int) + 1) = some m ∧ m.w = ws.getD i 0 ∧ m.w * m.v + m.r = 1048576 * rs.getD i 0
  near : ∀ m ∈ s.l, ∀ z ∈ s.l, m.v ≤ z.v + 1048576 / m.w + 1
theorem JI.fair {ws : List Int} {s : Qs} (h : JI ws ws.length s) (hq : QOk s) (hw : ∀ i : Nat, i < ws.length → 1 ≤ ws.getD i 0) : FairI ws (List.replicate ws.length 0) s 0 := by
  refine ⟨h.len, by simp, fun i hi => by simp [List.getD, hi], fun m hm => ?_, fun i hi => ?_, fun m hm z hz => ?_⟩
  · obtain ⟨i, hi, rfl⟩ := h.who m hm
    exact ⟨i, hi, rfl⟩
  · refine ⟨_, finM_of hq.ids (h.at_ i hi), rfl, ?_⟩
    simp [List.getD, hi]
  · obtain ⟨i, hi, rfl⟩ := h.who m hm
    obtain ⟨j, hj, rfl⟩ := h.who z hz
    have h1 := hw i hi
    have : 0 ≤ 1048576 / ws.getD i 0 := Int.ediv_nonneg (by omega) (by omega)
    simp only
    omega
theorem set_getD (rs : List Int) {i j : Nat} (hi : i < rs.length) (u : Int) : (rs.set i u).getD j 0 = if j = i then u else rs.getD j 0 := by
  simp only [List.getD, List.getElem?_set]
  by_cases e : i = j
  · subst e
    simp [hi]
  · rw [if_neg e, if_neg (fun h => e h.symm)]
theorem fair_step {ws rs : List Int} {s : Qs} {t : Nat} (h : QOk s) (f : FairI ws rs s t) (ht : t < 255) {y : Mb} {l : List Mb} (hl : s.l = y :: l) :
    ∃ i : Nat, i < ws.length ∧ y.id = (i : Int) + 1 ∧ runE s y.id 1 = 0 ∧ FairI ws (rs.set i (rs.getD i 0 + 1)) (runS s y.id 1) (t + 1) := by
  have hy : y ∈ s.l := by rw [hl]; simp
  obtain ⟨i, hi, hid⟩ := f.who y hy
  have hf := finM_of h.ids hy
  have o := h.ok y hy
  have w1 := o.w1
  have w2 := o.w2
  have r1 := o.r1
  have r2 := o.r2
  have v1 := o.v1
  have b1 := h.b1
  have hw0 : y.w ≠ 0 := by omega
  obtain ⟨m, hm, hmw, hmv⟩ := f.at_ i hi
  rw [← hid, hf] at hm
  cases hm
  have hrb := f.rb i hi
  have hvw : y.v ≤ y.w * y.v := by
    have := Int.mul_le_mul_of_nonneg_right w1 (show 0 ≤ y.v by omega)
    omega
  have hq0 : 0 ≤ (1048576 * 1 + y.r) / y.w := Int.ediv_nonneg (by omega) (by omega)
  have hq1 : (1048576 * 1 + y.r) / y.w ≤ 1048576 * 1 + y.r := Int.ediv_le_self _ (by omega)
  have hq2 : (1048576 * 1 + y.r) / y.w ≤ 1048576 / y.w + 1 := by
    have e := Int.add_mul_ediv_right 1048576 1 hw0
    have : (1048576 * 1 + y.r) / y.w ≤ (1048576 + 1 * y.w) / y.w := Int.ediv_le_ediv (by omega) (by omega)
    omega
  have hem := Int.mul_ediv_add_emod (1048576 * 1 + y.r) y.w
  have he : runE s y.id 1 = 0 := (runE_v hf).2 ⟨by omega, by simp only [ranM]; omega⟩
  refine ⟨i, hi, hid, he, ?_⟩
  have f1 : ∀ z ∈ remM s.l y.id, z.id ≠ (ranM y 1).id := fun z hz => (remM_mem.1 hz).2
  have hl2 : (runS s y.id 1).l = insM (remM s.l y.id) (ranM y 1) := by rw [runS_is hf he]; rfl
  have hir : i < rs.length := by rw [f.rlen]; exact hi
  refine ⟨?_, by rw [List.length_set]; exact f.rlen, fun j hj => ?_, fun m hm => ?_, fun j hj => ?_, ?_⟩
  · rw [hl2, insM_len f1]
    have := remM_len (k := y.id) h.ids
    rw [hf] at this
    simp at this
    rw [this]
    exact f.len
  · rw [set_getD rs hir]
    have := f.rb j hj
    split <;> omega
  · rw [hl2, insM_mem f1] at hm
    rcases hm with rfl | hm
    · exact ⟨i, hi, hid⟩
    · exact f.who m (remM_mem.1 hm).1
  · have hfin := insM_fin f1 (remM_ids h.ids) ((j : Int) + 1)
    rw [hl2, hfin, set_getD rs hir]
    by_cases e : j = i
    · subst e
      rw [if_pos (show (j : Int) + 1 = (ranM y 1).id from hid.symm), if_pos rfl]
      refine ⟨_, rfl, hmw, ?_⟩
      simp only [ranM]
      rw [Int.mul_add]
      omega
    · rw [if_neg (show ¬ (j : Int) + 1 = (ranM y 1).id from fun x => e (by have := x.trans hid; omega)), if_neg e, remM_fin h.ids, if_neg (fun x => e (by have := x.trans hid; omega))]
      exact f.at_ j hj
  · intro m hm z hz
    rw [hl2, insM_mem f1] at hm hz
    have hle : ∀ x ∈ s.l, y.v ≤ x.v := fun x hx => by
      have := head_le h.srt s.base hx
      rwa [hl] at this
    rcases hm with rfl | hm <;> rcases hz with rfl | hz
    · have : 0 ≤ 1048576 / (ranM y 1).w := Int.ediv_nonneg (by omega) (by simp only [ranM]; omega)
      omega
    · have := hle z (remM_mem.1 hz).1
      simp only [ranM]
      omega
    · have := f.near m (remM_mem.1 hm).1 y hy
      simp only [ranM]
      omega
    · exact f.near m (remM_mem.1 hm).1 z (remM_mem.1 hz).1
theorem FairI.wide {ws rs : List Int} {s : Qs} {t : Nat} (f : FairI ws rs s t) (hq : QOk s) {i : Nat} (hi : i < ws.length) (ht : t ≤ 255) : ∃ m, finM s.l ((i : Int) + 1) = some m ∧ m.w * m.v + m.r = 1048576 * rs.getD i 0 ∧ 0 ≤ m.w * m.v ∧ m.w * m.v ≤ 267386880 ∧ 1 ≤ m.w ∧ 0 ≤ m.v ∧ m.v ≤ 267386880 ∧ s.base ≤ m.v ∧ 0 ≤ m.r ∧ m.r ≤ 1048576 := by
  obtain ⟨m, h1, h2, h3⟩ := f.at_ i hi
  have o := hq.ok m (finM_mem h1)
  have b1 := hq.b1
  have hrb := f.rb i hi
  have v1 := o.v1
  have w1 := o.w1
  have r1 := o.r1
  have r2 := o.r2
  have w2 := o.w2
  have hvw : m.v ≤ m.w * m.v := by
    have := Int.mul_le_mul_of_nonneg_right w1 (show 0 ≤ m.v by omega)
    omega
  exact ⟨m, h1, h3, by omega, by omega, w1, by omega, by omega, v1, r1, by omega⟩
end Go.Proofs.Ytlkbjfjjfifbmaa
