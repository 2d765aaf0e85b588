/-
  Two queues of the call's own, apart from each other; how many members there may be; who joins first makes no odds.
-/
import Derived.Test.YtlkbjfjjfifbmaaQMath2
import Derived.Test.YtlkbjfjjfifbmaaSU
namespace Go.Proofs.Ytlkbjfjjfifbmaa
open Go.RowKit

/-- Two queues; N: blocks that neither of them has. -/
structure QP (a w : World) (N : Nat → Prop) (g mb sg : Nat) (s : Qs) (g' mb' sg' : Nat) (s' : Qs) : Prop where
  kept : Kp No a w
  ex : ∃ T T', Qu w g mb sg T s ∧ Qu w g' mb' sg' T' s' ∧ (∀ i, QB g mb T i → ¬ QB g' mb' T' i ∧ a.heap.size ≤ i ∧ ¬ N i) ∧ (∀ i, QB g' mb' T' i → a.heap.size ≤ i ∧ ¬ N i) ∧ (∀ i, N i → i < w.heap.size)

section
variable {a w w' w1 w2 : World} {N : Nat → Prop} {g mb sg g' mb' sg' : Nat} {S T : Nat → Prop} {s s' s1 : Qs}
theorem QP.swap (h : QP a w N g mb sg s g' mb' sg' s') : QP a w N g' mb' sg' s' g mb sg s := by
  obtain ⟨k, T, T', h1, h2, h3, h4, h5⟩ := h
  exact ⟨k, T', T, h2, h1, fun i hi => ⟨fun e => (h3 i e).1 hi, h4 i hi⟩, fun i hi => (h3 i hi).2, h5⟩
theorem QP.fst (h : QP a w N g mb sg s g' mb' sg' s') : QI a w g mb sg s := by
  obtain ⟨k, T, T', h1, h2, h3, h4, h5⟩ := h
  exact ⟨k, T, h1, fun i hi => (h3 i hi).2.1⟩
theorem QP.snd (h : QP a w N g mb sg s g' mb' sg' s') : QI a w g' mb' sg' s' := h.swap.fst
theorem QP.kp0 (h : QP a w N g mb sg s g' mb' sg' s') (k : Kp No w w') : QP a w' N g mb sg s g' mb' sg' s' := by
  obtain ⟨k', T, T', h1, h2, h3, h4, h5⟩ := h
  exact ⟨k'.trans k, T, T', h1.kp0 k, h2.kp0 k, h3, h4, fun i hi => Nat.lt_of_lt_of_le (h5 i hi) k.size⟩
theorem QI.pair (h : QI a w g mb sg s) (h' : QI w w' g' mb' sg' s') : QP a w' No g mb sg s g' mb' sg' s' := by
  obtain ⟨T, h1, h2⟩ := h.ex
  obtain ⟨T', h3, h4⟩ := h'.ex
  have hs := h.kept.size
  refine ⟨h.kept.trans h'.kept, _, T', h1.trim.kp0 h'.kept, h3, fun i hi => ⟨fun e => h1.new (h4 i e) hi, h2 i (hi.imp id fun e => e.imp id fun e => e.1), fun h => h⟩, fun i hi => ⟨by have := h4 i hi; omega, fun h => h⟩, fun i hi => hi.elim⟩
/-- What was made since then is none of the queues'. -/
theorem QP.since {N' : Nat → Prop} (h : QP a w N' g mb sg s g' mb' sg' s') (k : Kp No w w') : QP a w' (fun i => w.heap.size ≤ i ∧ i < w'.heap.size) g mb sg s g' mb' sg' s' := by
  obtain ⟨k', T, T', h1, h2, h3, h4, _⟩ := h
  exact ⟨k'.trans k, _, _, h1.trim.kp0 k, h2.trim.kp0 k, fun i hi =>
    ⟨fun e => (h3 i (hi.imp id fun e => e.imp id fun e => e.1)).1 (e.imp id fun e => e.imp id fun e => e.1), (h3 i (hi.imp id fun e => e.imp id fun e => e.1)).2.1, fun e => h1.new e.1 hi⟩,
    fun i hi => ⟨(h4 i (hi.imp id fun e => e.imp id fun e => e.1)).1, fun e => h2.new e.1 hi⟩, fun i hi => hi.2⟩
theorem QP.step (h : QP a w N g mb sg s g' mb' sg' s') {R : Ending → World → Prop} {f : FuncId} {args : Array Value} {v : Value}
    (hc : ∀ T, Qu w g mb sg T s → Calls Try.prog f args w fun e w' => e = .returned v ∧ OpR w w' g mb sg T s1)
    (hR : ∀ w', QP a w' N g mb sg s1 g' mb' sg' s' → Kp (fun i => ¬ N i) w w' → R (.returned v) w') : Calls Try.prog f args w R := by
  obtain ⟨k, T, T', h1, h2, h3, h4, h5⟩ := h
  refine (hc T h1).mono fun e w' ⟨he, r1, r2⟩ => ?_
  subst he
  have hk := k.size
  have hg := h1.hd.lt
  have hm := h1.mp.lt
  have hg' := h2.hd.lt
  have hm' := h2.mp.lt
  have hr := r1.size
  have q2 := h2.kp r1 (fun e => (h3 _ e).1 (.inl rfl)) (fun e => (h3 _ e).1 (.inr (.inl rfl))) (fun i _ ht e => (h3 _ e).1 (.inr (.inr ht)))
  have new : ∀ i, w.heap.size ≤ i → ¬ QB g' mb' (fun i => T' i ∧ i < w.heap.size) i := fun i hi e => by
    rcases e with e | e | e <;> omega
  refine hR w' ⟨k.step r1 fun i hi e => absurd (h3 i e).2.1 (by omega), _, _, r2, q2, fun i hi => ?_, fun i hi => h4 i (hi.imp id fun e => e.imp id fun e => e.1), fun i hi => Nat.lt_of_lt_of_le (h5 i hi) hr⟩ (r1.mono fun i _ e => (h3 i e).2.2)
  rcases hi with e | e | e
  · have := h3 i (.inl e)
    exact ⟨fun e => this.1 (e.imp id fun e => e.imp id fun e => e.1), this.2⟩
  · have := h3 i (.inr (.inl e))
    exact ⟨fun e => this.1 (e.imp id fun e => e.imp id fun e => e.1), this.2⟩
  · rcases e.1 with e | e
    · have := h3 i (.inr (.inr e))
      exact ⟨fun e => this.1 (e.imp id fun e => e.imp id fun e => e.1), this.2⟩
    · exact ⟨new i e, by omega, fun hn => by have := h5 i hn; omega⟩

theorem insM_len_le (l : List Mb) (m : Mb) : (insM l m).length ≤ l.length + 1 := by
  unfold insM
  simp only [List.length_append, List.length_cons]
  have : (l.filter fun y => ltB (itM y) (itM m)).length + (l.filter fun y => ltB (itM m) (itM y)).length ≤ l.length := by
    induction l with
    | nil => simp
    | cons x l ih =>
      simp only [List.filter_cons, List.length_cons]
      cases h1 : ltB (itM x) (itM m) with
      | true =>
        rw [ltB_asymm h1]
        simp
        omega
      | false => cases ltB (itM m) (itM x) <;> simp <;> omega
  omega
theorem remM_lt {l : List Mb} {k : Int} {m : Mb} (h : finM l k = some m) : (remM l k).length < l.length := by
  have hm := finM_mem h
  have hid := finM_id h
  unfold remM
  induction l with
  | nil => cases hm
  | cons x l ih =>
    have hle := List.length_filter_le (fun y : Mb => decide (y.id ≠ k)) l
    by_cases hx : x.id = k
    · simp only [List.filter_cons, hx, ne_eq, not_true_eq_false, decide_false, List.length_cons]
      simp at hle ⊢
      omega
    · simp only [List.filter_cons, hx, ne_eq, not_false_eq_true, decide_true, List.length_cons, if_true]
      have h2 : finM l k = some m := by
        unfold finM at h ⊢
        rw [List.find?_cons] at h
        simpa [hx] using h
      have := ih h2 (finM_mem h2)
      simp at this ⊢
      exact this
theorem runS_len (s : Qs) (k n : Int) : (runS s k n).l.length ≤ s.l.length := by
  unfold runS
  cases hf : finM s.l k with
  | none => exact Nat.le_refl _
  | some m =>
    simp only
    split
    · have h1 := insM_len_le (remM s.l k) (ranM m n)
      have h2 := remM_lt hf
      simp only
      omega
    · exact Nat.le_refl _
theorem doS_len (s : Qs) (o : Qo) : (doS s o).l.length ≤ s.l.length + 1 := by
  unfold doS
  split
  · unfold joinS
    split
    · exact insM_len_le _ _
    · omega
  · split
    · exact Nat.le_trans (List.length_filter_le _ _) (Nat.le_succ _)
    · split
      · exact Nat.le_trans (runS_len _ _ _) (Nat.le_succ _)
      · split
        · unfold weighS
          split
          · simp
          · omega
        · split
          · split
            · omega
            · exact Nat.le_trans (runS_len _ _ _) (Nat.le_succ _)
          · omega
theorem playQ_len (ops : List Qo) : (playQ ops).l.length ≤ ops.length := by
  suffices H : ∀ s : Qs, (ops.foldl doS s).l.length ≤ s.l.length + ops.length by simpa [playQ, q0] using H q0
  induction ops with
  | nil => simp
  | cons o ops ih =>
    intro s
    have h1 := ih (doS s o)
    have h2 := doS_len s o
    simp only [List.foldl_cons, List.length_cons]
    omega

theorem joinS_l {m : Mb} (h : joinE s m = 0) : joinS s m = ⟨s.base, insM s.l (far s.base m)⟩ := by unfold joinS; rw [if_pos h]
theorem joinE_fin {m : Mb} (h : joinE s m = 0) : finM s.l m.id = none := by
  unfold joinE at h
  split at h
  · omega
  · split at h
    · omega
    · rename_i h2
      simpa using h2
theorem joinS_base (m : Mb) : (joinS s m).base = s.base := by unfold joinS; split <;> rfl
theorem joinS_fin {m : Mb} (hi : Ids s.l) {k : Int} (hk : k ≠ m.id) : finM (joinS s m).l k = finM s.l k := by
  unfold joinS
  split
  · rename_i h
    have f1 := finM_none (joinE_fin h)
    have := insM_fin (m := far s.base m) f1 hi k
    rw [if_neg (show ¬ k = (far s.base m).id from hk)] at this
    exact this
  · rfl
theorem joinS_len (s : Qs) (m : Mb) : (joinS s m).l.length ≤ s.l.length + 1 := by
  unfold joinS
  split
  · exact insM_len_le _ _
  · omega
theorem joinE_after {m n : Mb} (hi : Ids s.l) (hl : s.l.length ≤ 1000) (hne : m.id ≠ n.id) : joinE (joinS s n) m = joinE s m := by
  have h1 := joinS_len s n
  unfold joinE
  rw [joinS_base, joinS_fin hi hne, if_neg (show ¬ 4096 ≤ (joinS s n).l.length by omega), if_neg (show ¬ 4096 ≤ s.l.length by omega)]
theorem joinS_comm {m n : Mb} (hi : Ids s.l) (hs : Sorted (s.l.map itM)) (hl : s.l.length ≤ 1000) (hne : m.id ≠ n.id) : joinS (joinS s m) n = joinS (joinS s n) m := by
  have e1 := joinE_after (s := s) hi hl hne
  have e2 := joinE_after (s := s) hi hl hne.symm
  by_cases h1 : joinE s m = 0
  · by_cases h2 : joinE s n = 0
    · have f1 : ∀ y ∈ s.l, y.id ≠ m.id := finM_none (joinE_fin h1)
      have f2 : ∀ y ∈ s.l, y.id ≠ n.id := finM_none (joinE_fin h2)
      rw [joinS_l (e2.trans h2), joinS_l (e1.trans h1), joinS_l h1, joinS_l h2]
      congr 1
      have g1 : ∀ y ∈ insM s.l (far s.base m), y.id ≠ (far s.base n).id := fun y hy => by
        rcases (insM_mem (m := far s.base m) f1).1 hy with rfl | hy
        · exact hne
        · exact f2 y hy
      have g2 : ∀ y ∈ insM s.l (far s.base n), y.id ≠ (far s.base m).id := fun y hy => by
        rcases (insM_mem (m := far s.base n) f2).1 hy with rfl | hy
        · exact hne.symm
        · exact f1 y hy
      refine memb_ext (insM_srt (insM_srt hs)) (insM_srt (insM_srt hs)) fun x => ?_
      rw [insM_mem g1, insM_mem (m := far s.base m) f1, insM_mem g2, insM_mem (m := far s.base n) f2]
      constructor <;> rintro (h | h | h) <;> simp [h]
    · have h3 : joinS s n = s := by unfold joinS; rw [if_neg h2]
      have h4 : joinS (joinS s m) n = joinS s m := by
        have : ¬ joinE (joinS s m) n = 0 := by rw [e2]; exact h2
        generalize joinS s m = t at this ⊢
        unfold joinS
        rw [if_neg this]
      rw [h3, h4]
  · have h3 : joinS s m = s := by unfold joinS; rw [if_neg h1]
    have h4 : joinS (joinS s n) m = joinS s n := by
      have : ¬ joinE (joinS s n) m = 0 := by rw [e1]; exact h1
      generalize joinS s n = t at this ⊢
      unfold joinS
      rw [if_neg this]
    rw [h3, h4]
end
end Go.Proofs.Ytlkbjfjjfifbmaa
