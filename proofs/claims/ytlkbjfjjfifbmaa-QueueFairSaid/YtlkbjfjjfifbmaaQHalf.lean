/-
  Ticks in parts; another weight: as plain things.
-/
import Derived.Test.YtlkbjfjjfifbmaaQKeep
namespace Go.Proofs.Ytlkbjfjjfifbmaa
open Go.RowKit

theorem ran_two {y : Mb} {m n : Int} (hw : 1 ≤ y.w) : ranM (ranM y m) n = ranM y (m + n) := by
  have hw' : y.w ≠ 0 := by omega
  have h1 := Int.mul_ediv_add_emod (1048576 * m + y.r) y.w
  have e : 1048576 * (m + n) + y.r = (1048576 * n + (1048576 * m + y.r) % y.w) + (1048576 * m + y.r) / y.w * y.w := by
    rw [Int.mul_comm ((1048576 * m + y.r) / y.w) y.w]
    omega
  refine Mb.ext' rfl rfl ?_ ?_
  · simp only [ranM]
    rw [e, Int.add_mul_ediv_right _ _ hw']
    omega
  · simp only [ranM]
    rw [e, Int.add_mul_emod_self_right]
theorem ran_le {y : Mb} {n : Int} (hw : 1 ≤ y.w) (hr : 0 ≤ y.r) (h0 : 0 ≤ n) : y.v ≤ (ranM y n).v := by
  have : 0 ≤ (1048576 * n + y.r) / y.w := Int.ediv_nonneg (by omega) (by omega)
  simp only [ranM]
  omega

section
variable {s : Qs}
theorem runS_is {k n : Int} {m : Mb} (hf : finM s.l k = some m) (he : runE s k n = 0) : runS s k n = riseS ⟨s.base, insM (remM s.l k) (ranM m n)⟩ := by
  unfold runS
  rw [hf]
  simp only
  rw [if_pos he]
  rfl
theorem runE_v {k n : Int} {m : Mb} (hf : finM s.l k = some m) : runE s k n = 0 ↔ (0 ≤ n ∧ n ≤ 1099511627776) ∧ (ranM m n).v ≤ 2305843009213693952 := by
  unfold runE
  rw [hf]
  simp only
  split
  · omega
  · split <;> omega
theorem rem_ins {l : List Mb} {k : Int} {m : Mb} (hm : m.id = k) (hs : Sorted (l.map itM)) : remM (insM (remM l k) m) k = remM l k := by
  have f1 : ∀ z ∈ remM l k, z.id ≠ m.id := fun z hz => by rw [hm]; exact (remM_mem.1 hz).2
  refine memb_ext (remM_srt (insM_srt (remM_srt hs))) (remM_srt hs) fun z => ?_
  rw [remM_mem, insM_mem f1]
  constructor
  · rintro ⟨rfl | h, h2⟩
    · exact absurd hm h2
    · exact h
  · intro h
    exact ⟨.inr h, (remM_mem.1 h).2⟩
theorem head_mem {l : List Mb} (d : Int) (h : l ≠ []) : ∃ z ∈ l, head d l = z.v := by
  cases l with
  | nil => exact absurd rfl h
  | cons z l => exact ⟨z, by simp, rfl⟩
/-- TICKS IN PARTS ARE TICKS AT ONCE. -/
theorem run_two (h : QOk s) {y : Mb} (hy : y ∈ s.l) {m n : Int} (hm : 0 ≤ m) (hn : 0 ≤ n) (hmn : m + n ≤ 1099511627776) (h1 : runE s y.id m = 0) (h2 : runE (runS s y.id m) y.id n = 0) :
    runE s y.id (m + n) = 0 ∧ runS (runS s y.id m) y.id n = runS s y.id (m + n) := by
  have hf := finM_of h.ids hy
  have o := h.ok y hy
  have f1 : ∀ k, ∀ z ∈ remM s.l y.id, z.id ≠ (ranM y k).id := fun k z hz => (remM_mem.1 hz).2
  have hf1 : finM (runS s y.id m).l y.id = some (ranM y m) := by
    rw [runS_is hf h1]
    have := insM_fin (f1 m) (remM_ids h.ids) y.id
    rw [if_pos (show y.id = (ranM y m).id from rfl)] at this
    exact this
  have hr := ran_two (y := y) (m := m) (n := n) o.w1
  have e2 := (runE_v hf1).1 h2
  rw [hr] at e2
  have e3 : runE s y.id (m + n) = 0 := (runE_v hf).2 ⟨⟨by omega, hmn⟩, e2.2⟩
  refine ⟨e3, ?_⟩
  have hrem : remM (runS s y.id m).l y.id = remM s.l y.id := by
    rw [runS_is hf h1]
    exact rem_ins rfl h.srt
  rw [runS_is hf1 h2, runS_is hf e3, hr, hrem]
  have hb : (runS s y.id m).base = max s.base (head s.base (insM (remM s.l y.id) (ranM y m))) := by rw [runS_is hf h1]; rfl
  unfold riseS
  simp only
  rw [hb]
  have ne : ∀ k, insM (remM s.l y.id) (ranM y k) ≠ [] := fun k e => by
    have := insM_len (f1 k)
    rw [e] at this
    simp at this
  obtain ⟨z, hz, hz1⟩ := head_mem s.base (ne (m + n))
  have hhead : ∀ d, head d (insM (remM s.l y.id) (ranM y (m + n))) = z.v := fun d => by
    rw [← hz1]
    cases hl : insM (remM s.l y.id) (ranM y (m + n)) with
    | nil => exact absurd hl (ne _)
    | cons x l => rfl
  have hle : head s.base (insM (remM s.l y.id) (ranM y m)) ≤ z.v := by
    rcases (insM_mem (f1 (m + n))).1 hz with rfl | hz
    · have a1 := head_le (insM_srt (m := ranM y m) (remM_srt (k := y.id) h.srt)) s.base ((insM_mem (f1 m)).2 (.inl rfl))
      have a2 := ran_le (y := ranM y m) (n := n) o.w1 (Int.emod_nonneg _ (by have := o.w1; omega)) hn
      rw [hr] at a2
      omega
    · exact head_le (insM_srt (m := ranM y m) (remM_srt (k := y.id) h.srt)) s.base ((insM_mem (f1 m)).2 (.inr hz))
  rw [hhead, hhead]
  congr 1
  omega
theorem weigh_ok {k n : Int} {m : Mb} (hf : finM s.l k = some m) (h1 : 1 ≤ n) (h2 : n ≤ 1048576) : weighE s k n = 0 ∧ weighS s k n = ⟨s.base, updM s.l k n⟩ := by
  have e : weighE s k n = 0 := by
    unfold weighE
    rw [hf]
    exact if_neg (by omega)
  exact ⟨e, by unfold weighS; rw [if_pos e]; rfl⟩
/-- What is told behind another weight. -/
theorem upd_told (k n : Int) {i : Nat} (hi : i < (toldQ s).length) : (toldQ ⟨s.base, updM s.l k n⟩).getD i mb0 = (if ((toldQ s).getD i mb0).id = k then weiM ((toldQ s).getD i mb0) n else (toldQ s).getD i mb0) := by
  rw [toldQ_len] at hi
  simp only [toldQ, updM, List.getD, List.getElem?_map, List.getElem?_eq_getElem hi, Option.map_some, Option.getD_some]
  by_cases e : s.l[i].id = k
  · rw [if_pos e, if_pos (show (tl s.base s.l[i]).id = k from e)]
    rfl
  · rw [if_neg e, if_neg (show ¬ (tl s.base s.l[i]).id = k from e)]
/-- The one that is run is there still. -/
theorem run_there (h : QOk s) {y : Mb} (hy : y ∈ s.l) (n : Int) : ∃ z, finM (runS s y.id n).l y.id = some z := by
  have hf := finM_of h.ids hy
  by_cases he : runE s y.id n = 0
  · refine ⟨ranM y n, ?_⟩
    rw [runS_is hf he]
    have := insM_fin (m := ranM y n) (fun z hz => (remM_mem (k := y.id).1 hz).2) (remM_ids h.ids) y.id
    rw [if_pos (show y.id = (ranM y n).id from rfl)] at this
    exact this
  · rw [runS_err he]
    exact ⟨y, hf⟩
end
theorem wrapU32 {x : Int} (h0 : 0 ≤ x) (h1 : x < 4294967296) : IntKind.u32.wrap x = x := by
  simp only [IntKind.wrap, IntKind.bits, IntKind.signed]
  simp
  omega
end Go.Proofs.Ytlkbjfjjfifbmaa
