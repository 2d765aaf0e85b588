/-
  What follows of a queue's states: the base never falls, what fails changes nothing, what is told is in order.
-/
import Derived.Test.YtpbnmfoecmhnnaaQH
namespace Go.Proofs.Ytpbnmfoecmhnnaa
open Go.RowKit

section
variable {a w w' w3 : World} {g mb sg : Nat} {s s' : Qs}
/-- A call upon a queue that leaves alone what was made since. -/
theorem QI.stepk (h : QI a w g mb sg s) (k : Kp No w w3) {R : Ending → World → Prop} {f : FuncId} {args : Array Value} {v : Value}
    (hc : ∀ T, Qu w3 g mb sg T s → Calls Try.prog f args w3 fun e w' => e = .returned v ∧ OpR w3 w' g mb sg T s') (hR : ∀ w' (S : Nat → Prop), QI a w' g mb sg s' → Kp S w3 w' → (∀ i, S i → i < w.heap.size) → R (.returned v) w') : Calls Try.prog f args w3 R := by
  obtain ⟨T, h1, h2⟩ := h.ex
  have hgl := h1.hd.lt
  have hml := h1.mp.lt
  refine (hc _ (h1.trim.kp0 k)).mono fun e w' ⟨he, r1, r2⟩ => ?_
  subst he
  have hs := h.kept.size
  have hk := k.size
  refine hR w' _ ⟨(h.kept.trans k).step r1 fun i hi e => absurd (h2 i (e.imp id fun e => e.imp id fun e => e.1)) (by omega), _, r2, fun i hi => ?_⟩ r1 fun i hi => ?_
  · rcases hi with e | e | e
    · exact h2 i (.inl e)
    · exact h2 i (.inr (.inl e))
    · rcases e.1 with e | e
      · exact h2 i (.inr (.inr e.1))
      · omega
  · rcases hi with e | e | e
    · omega
    · omega
    · exact e.2
end
section
variable {s : Qs}
theorem runS_base (k n : Int) : s.base ≤ (runS s k n).base := by
  unfold runS
  split
  · exact Int.le_refl _
  · split
    · simp only
      omega
    · exact Int.le_refl _
theorem doS_base (s : Qs) (o : Qo) : s.base ≤ (doS s o).base := by
  unfold doS
  split
  · unfold joinS
    split <;> exact Int.le_refl _
  · split
    · exact Int.le_refl _
    · split
      · exact runS_base _ _
      · split
        · unfold weighS
          split <;> exact Int.le_refl _
        · split
          · split
            · exact Int.le_refl _
            · exact runS_base _ _
          · exact Int.le_refl _
theorem runS_err {k n : Int} (h : runE s k n ≠ 0) : runS s k n = s := by
  unfold runS
  split
  · rfl
  · rw [if_neg h]
theorem doS_err {o : Qo} (h : doE s o ≠ 0) : doS s o = s := by
  unfold doE at h
  unfold doS
  by_cases h1 : o.d = 1
  · rw [if_pos h1] at h ⊢
    unfold joinS
    rw [if_neg h]
  · rw [if_neg h1] at h ⊢
    by_cases h2 : o.d = 2
    · rw [if_pos h2] at h ⊢
      unfold leaveE at h
      unfold leaveS
      cases hf : finM s.l o.m.id with
      | some m => rw [hf] at h; simp at h
      | none => rw [remM_none hf]
    · rw [if_neg h2] at h ⊢
      by_cases h3 : o.d = 3
      · rw [if_pos h3] at h ⊢
        exact runS_err h
      · rw [if_neg h3] at h ⊢
        by_cases h4 : o.d = 4
        · rw [if_pos h4] at h ⊢
          unfold weighS
          rw [if_neg h]
        · rw [if_neg h4] at h ⊢
          by_cases h5 : o.d = 5
          · rw [if_pos h5] at h ⊢
            cases hl : s.l with
            | nil => rfl
            | cons y l =>
              rw [hl] at h
              exact runS_err h
          · rw [if_neg h5]

/-- What All tells. -/
def toldQ (s : Qs) : List Mb := s.l.map (tl s.base)
theorem toldQ_len (s : Qs) : (toldQ s).length = s.l.length := List.length_map _
theorem toldQ_ok (h : QOk s) : ∀ m ∈ toldQ s, 0 ≤ m.v ∧ 0 ≤ m.r ∧ m.r < m.w := fun m hm => by
  obtain ⟨y, hy, rfl⟩ := List.mem_map.1 hm
  have o := h.ok y hy
  have := o.v1
  exact ⟨by simp only [tl]; omega, o.r1, o.r2⟩
theorem toldQ_at (h : QOk s) {i j : Nat} (hij : i < j) (hj : j < (toldQ s).length) : ((toldQ s).getD i mb0).v < ((toldQ s).getD j mb0).v ∨ (((toldQ s).getD i mb0).v = ((toldQ s).getD j mb0).v ∧ ((toldQ s).getD i mb0).id < ((toldQ s).getD j mb0).id) := by
  rw [toldQ_len] at hj
  have hs := h.srt
  unfold Sorted at hs
  have := List.pairwise_iff_getElem.1 hs i j (by rw [List.length_map]; omega) (by rw [List.length_map]; omega) hij
  rw [ltB_iff] at this
  have hi : i < s.l.length := by omega
  have e : ∀ n, (hn : n < s.l.length) → (toldQ s).getD n mb0 = tl s.base s.l[n] := fun n hn => by simp [toldQ, List.getD, hn]
  rw [e i hi, e j hj]
  simp only [List.getElem_map, itM] at this
  simp only [tl]
  omega
theorem getD_mem {l : List Mb} {k : Nat} (h : k < l.length) : l.getD k mb0 ∈ l := by
  simp [List.getD, h]
end
end Go.Proofs.Ytpbnmfoecmhnnaa
