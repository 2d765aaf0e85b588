/-
  Two queues apart; what is kept beside them; ticks in parts; the document's list and the sorted one.
-/
import Derived.Test.YtpbnmfoecmhnnaaQMath2
import Derived.Test.YtpbnmfoecmhnnaaSU
import Derived.Test.YtpbnmfoecmhnnaaQDocA

/-
  Two queues of the call's own, apart from each other; how many members there may be; who joins first makes no odds.
-/
namespace Go.Proofs.Ytpbnmfoecmhnnaa
open Go.RowKit

/-- Two queues; N: blocks that neither of them has. -/
structure QP (a w : World) (N : Nat → Prop) (g mb sg : Nat) (s : Qs) (g' mb' sg' : Nat) (s' : Qs) : Prop where
  kept : Kp No a w
  ex : ∃ T T', Qu w g mb sg T s ∧ Qu w g' mb' sg' T' s' ∧ (∀ i, QB g mb T i → ¬ QB g' mb' T' i ∧ a.heap.size ≤ i ∧ ¬ N i) ∧ (∀ i, QB g' mb' T' i → a.heap.size ≤ i ∧ ¬ N i) ∧ (∀ i, N i → i < w.heap.size)

section
variable {a w w' w1 w2 : World} {N : Nat → Prop} {g mb sg g' mb' sg' : Nat} {S T : Nat → Prop} {s s' s1 : Qs}
theorem QP.swap (h : QP a w N g mb sg s g' mb' sg' s') : QP a w N g' mb' sg' s' g mb sg s := by
  obtain ⟨k, T, T', h1, h2, h3, h4, h5⟩ := h
  exact ⟨k, T', T, h2, h1, fun i hi => ⟨fun e => (h3 i e).1 hi, h4 i hi⟩, fun i hi => (h3 i hi).2, h5⟩
theorem QP.fst (h : QP a w N g mb sg s g' mb' sg' s') : QI a w g mb sg s := by
  obtain ⟨k, T, T', h1, h2, h3, h4, h5⟩ := h
  exact ⟨k, T, h1, fun i hi => (h3 i hi).2.1⟩
theorem QP.snd (h : QP a w N g mb sg s g' mb' sg' s') : QI a w g' mb' sg' s' := h.swap.fst
theorem QP.kp0 (h : QP a w N g mb sg s g' mb' sg' s') (k : Kp No w w') : QP a w' N g mb sg s g' mb' sg' s' := by
  obtain ⟨k', T, T', h1, h2, h3, h4, h5⟩ := h
  exact ⟨k'.trans k, T, T', h1.kp0 k, h2.kp0 k, h3, h4, fun i hi => Nat.lt_of_lt_of_le (h5 i hi) k.size⟩
theorem QI.pair (h : QI a w g mb sg s) (h' : QI w w' g' mb' sg' s') : QP a w' No g mb sg s g' mb' sg' s' := by
  obtain ⟨T, h1, h2⟩ := h.ex
  obtain ⟨T', h3, h4⟩ := h'.ex
  have hs := h.kept.size
  refine ⟨h.kept.trans h'.kept, _, T', h1.trim.kp0 h'.kept, h3, fun i hi => ⟨fun e => h1.new (h4 i e) hi, h2 i (hi.imp id fun e => e.imp id fun e => e.1), fun h => h⟩, fun i hi => ⟨by have := h4 i hi; omega, fun h => h⟩, fun i hi => hi.elim⟩
/-- What was made since then is none of the queues'. -/
theorem QP.since {N' : Nat → Prop} (h : QP a w N' g mb sg s g' mb' sg' s') (k : Kp No w w') : QP a w' (fun i => w.heap.size ≤ i ∧ i < w'.heap.size) g mb sg s g' mb' sg' s' := by
  obtain ⟨k', T, T', h1, h2, h3, h4, _⟩ := h
  exact ⟨k'.trans k, _, _, h1.trim.kp0 k, h2.trim.kp0 k, fun i hi =>
    ⟨fun e => (h3 i (hi.imp id fun e => e.imp id fun e => e.1)).1 (e.imp id fun e => e.imp id fun e => e.1), (h3 i (hi.imp id fun e => e.imp id fun e => e.1)).2.1, fun e => h1.new e.1 hi⟩,
    fun i hi => ⟨(h4 i (hi.imp id fun e => e.imp id fun e => e.1)).1, fun e => h2.new e.1 hi⟩, fun i hi => hi.2⟩
theorem QP.step (h : QP a w N g mb sg s g' mb' sg' s') {R : Ending → World → Prop} {f : FuncId} {args : Array Value} {v : Value}
    (hc : ∀ T, Qu w g mb sg T s → Calls Try.prog f args w fun e w' => e = .returned v ∧ OpR w w' g mb sg T s1)
    (hR : ∀ w', QP a w' N g mb sg s1 g' mb' sg' s' → Kp (fun i => ¬ N i) w w' → R (.returned v) w') : Calls Try.prog f args w R := by
  obtain ⟨k, T, T', h1, h2, h3, h4, h5⟩ := h
  refine (hc T h1).mono fun e w' ⟨he, r1, r2⟩ => ?_
  subst he
  have hk := k.size
  have hg := h1.hd.lt
  have hm := h1.mp.lt
  have hg' := h2.hd.lt
  have hm' := h2.mp.lt
  have hr := r1.size
  have q2 := h2.kp r1 (fun e => (h3 _ e).1 (.inl rfl)) (fun e => (h3 _ e).1 (.inr (.inl rfl))) (fun i _ ht e => (h3 _ e).1 (.inr (.inr ht)))
  have new : ∀ i, w.heap.size ≤ i → ¬ QB g' mb' (fun i => T' i ∧ i < w.heap.size) i := fun i hi e => by
    rcases e with e | e | e <;> omega
  refine hR w' ⟨k.step r1 fun i hi e => absurd (h3 i e).2.1 (by omega), _, _, r2, q2, fun i hi => ?_, fun i hi => h4 i (hi.imp id fun e => e.imp id fun e => e.1), fun i hi => Nat.lt_of_lt_of_le (h5 i hi) hr⟩ (r1.mono fun i _ e => (h3 i e).2.2)
  rcases hi with e | e | e
  · have := h3 i (.inl e)
    exact ⟨fun e => this.1 (e.imp id fun e => e.imp id fun e => e.1), this.2⟩
  · have := h3 i (.inr (.inl e))
    exact ⟨fun e => this.1 (e.imp id fun e => e.imp id fun e => e.1), this.2⟩
  · rcases e.1 with e | e
    · have := h3 i (.inr (.inr e))
      exact ⟨fun e => this.1 (e.imp id fun e => e.imp id fun e => e.1), this.2⟩
    · exact ⟨new i e, by omega, fun hn => by have := h5 i hn; omega⟩

theorem insM_len_le (l : List Mb) (m : Mb) : (insM l m).length ≤ l.length + 1 := by
  unfold insM
  simp only [List.length_append, List.length_cons]
  have : (l.filter fun y => ltB (itM y) (itM m)).length + (l.filter fun y => ltB (itM m) (itM y)).length ≤ l.length := by
    induction l with
    | nil => simp
    | cons x l ih =>
      simp only [List.filter_cons, List.length_cons]
      cases h1 : ltB (itM x) (itM m) with
      | true =>
        rw [ltB_asymm h1]
        simp
        omega
      | false => cases ltB (itM m) (itM x) <;> simp <;> omega
  omega
theorem remM_lt {l : List Mb} {k : Int} {m : Mb} (h : finM l k = some m) : (remM l k).length < l.length := by
  have hm := finM_mem h
  have hid := finM_id h
  unfold remM
  induction l with
  | nil => cases hm
  | cons x l ih =>
    have hle := List.length_filter_le (fun y : Mb => decide (y.id ≠ k)) l
    by_cases hx : x.id = k
    · simp only [List.filter_cons, hx, ne_eq, not_true_eq_false, decide_false, List.length_cons]
      simp at hle ⊢
      omega
    · simp only [List.filter_cons, hx, ne_eq, not_false_eq_true, decide_true, List.length_cons, if_true]
      have h2 : finM l k = some m := by
        unfold finM at h ⊢
        rw [List.find?_cons] at h
        simpa [hx] using h
      have := ih h2 (finM_mem h2)
      simp at this ⊢
      exact this
theorem runS_len (s : Qs) (k n : Int) : (runS s k n).l.length ≤ s.l.length := by
  unfold runS
  cases hf : finM s.l k with
  | none => exact Nat.le_refl _
  | some m =>
    simp only
    split
    · have h1 := insM_len_le (remM s.l k) (ranM m n)
      have h2 := remM_lt hf
      simp only
      omega
    · exact Nat.le_refl _
theorem doS_len (s : Qs) (o : Qo) : (doS s o).l.length ≤ s.l.length + 1 := by
  unfold doS
  split
  · unfold joinS
    split
    · exact insM_len_le _ _
    · omega
  · split
    · exact Nat.le_trans (List.length_filter_le _ _) (Nat.le_succ _)
    · split
      · exact Nat.le_trans (runS_len _ _ _) (Nat.le_succ _)
      · split
        · unfold weighS
          split
          · simp
          · omega
        · split
          · split
            · omega
            · exact Nat.le_trans (runS_len _ _ _) (Nat.le_succ _)
          · omega
theorem playQ_len (ops : List Qo) : (playQ ops).l.length ≤ ops.length := by
  suffices H : ∀ s : Qs, (ops.foldl doS s).l.length ≤ s.l.length + ops.length by simpa [playQ, q0] using H q0
  induction ops with
  | nil => simp
  | cons o ops ih =>
    intro s
    have h1 := ih (doS s o)
    have h2 := doS_len s o
    simp only [List.foldl_cons, List.length_cons]
    omega

theorem joinS_l {m : Mb} (h : joinE s m = 0) : joinS s m = ⟨s.base, insM s.l (far s.base m)⟩ := by unfold joinS; rw [if_pos h]
theorem joinE_fin {m : Mb} (h : joinE s m = 0) : finM s.l m.id = none := by
  unfold joinE at h
  split at h
  · omega
  · split at h
    · omega
    · rename_i h2
      simpa using h2
theorem joinS_base (m : Mb) : (joinS s m).base = s.base := by unfold joinS; split <;> rfl
theorem joinS_fin {m : Mb} (hi : Ids s.l) {k : Int} (hk : k ≠ m.id) : finM (joinS s m).l k = finM s.l k := by
  unfold joinS
  split
  · rename_i h
    have f1 := finM_none (joinE_fin h)
    have := insM_fin (m := far s.base m) f1 hi k
    rw [if_neg (show ¬ k = (far s.base m).id from hk)] at this
    exact this
  · rfl
theorem joinS_len (s : Qs) (m : Mb) : (joinS s m).l.length ≤ s.l.length + 1 := by
  unfold joinS
  split
  · exact insM_len_le _ _
  · omega
theorem joinE_after {m n : Mb} (hi : Ids s.l) (hl : s.l.length ≤ 1000) (hne : m.id ≠ n.id) : joinE (joinS s n) m = joinE s m := by
  have h1 := joinS_len s n
  unfold joinE
  rw [joinS_base, joinS_fin hi hne, if_neg (show ¬ 4096 ≤ (joinS s n).l.length by omega), if_neg (show ¬ 4096 ≤ s.l.length by omega)]
theorem joinS_comm {m n : Mb} (hi : Ids s.l) (hs : Sorted (s.l.map itM)) (hl : s.l.length ≤ 1000) (hne : m.id ≠ n.id) : joinS (joinS s m) n = joinS (joinS s n) m := by
  have e1 := joinE_after (s := s) hi hl hne
  have e2 := joinE_after (s := s) hi hl hne.symm
  by_cases h1 : joinE s m = 0
  · by_cases h2 : joinE s n = 0
    · have f1 : ∀ y ∈ s.l, y.id ≠ m.id := finM_none (joinE_fin h1)
      have f2 : ∀ y ∈ s.l, y.id ≠ n.id := finM_none (joinE_fin h2)
      rw [joinS_l (e2.trans h2), joinS_l (e1.trans h1), joinS_l h1, joinS_l h2]
      congr 1
      have g1 : ∀ y ∈ insM s.l (far s.base m), y.id ≠ (far s.base n).id := fun y hy => by
        rcases (insM_mem (m := far s.base m) f1).1 hy with rfl | hy
        · exact hne
        · exact f2 y hy
      have g2 : ∀ y ∈ insM s.l (far s.base n), y.id ≠ (far s.base m).id := fun y hy => by
        rcases (insM_mem (m := far s.base n) f2).1 hy with rfl | hy
        · exact hne.symm
        · exact f1 y hy
      refine memb_ext (insM_srt (insM_srt hs)) (insM_srt (insM_srt hs)) fun x => ?_
      rw [insM_mem g1, insM_mem (m := far s.base m) f1, insM_mem g2, insM_mem (m := far s.base n) f2]
      constructor <;> rintro (h | h | h) <;> simp [h]
    · have h3 : joinS s n = s := by unfold joinS; rw [if_neg h2]
      have h4 : joinS (joinS s m) n = joinS s m := by
        have : ¬ joinE (joinS s m) n = 0 := by rw [e2]; exact h2
        generalize joinS s m = t at this ⊢
        unfold joinS
        rw [if_neg this]
      rw [h3, h4]
  · have h3 : joinS s m = s := by unfold joinS; rw [if_neg h1]
    have h4 : joinS (joinS s n) m = joinS s n := by
      have : ¬ joinE (joinS s n) m = 0 := by rw [e1]; exact h1
      generalize joinS s n = t at this ⊢
      unfold joinS
      rw [if_neg this]
    rw [h3, h4]
end
end Go.Proofs.Ytpbnmfoecmhnnaa

/-
  What a call has made, kept while two queues of its own are walked; leaving and joining, as plain things.
-/
namespace Go.Proofs.Ytpbnmfoecmhnnaa
open Go.RowKit

section
variable {a w w' : World} {N N' : Nat → Prop} {g mb sg g' mb' sg' : Nat} {s s' s1 : Qs}
theorem QP.more (h : QP a w N g mb sg s g' mb' sg' s') (k : Kp No w w') : QP a w' (fun i => N i ∨ (w.heap.size ≤ i ∧ i < w'.heap.size)) g mb sg s g' mb' sg' s' := by
  obtain ⟨k', T, T', h1, h2, h3, h4, h5⟩ := h
  have hk := k.size
  exact ⟨k'.trans k, _, _, h1.trim.kp0 k, h2.trim.kp0 k, fun i hi =>
    have e := h3 i (hi.imp id fun e => e.imp id fun e => e.1)
    ⟨fun x => e.1 (x.imp id fun e => e.imp id fun e => e.1), e.2.1, fun x => x.elim e.2.2 fun x => h1.new x.1 hi⟩,
    fun i hi =>
    have e := h4 i (hi.imp id fun e => e.imp id fun e => e.1)
    ⟨e.1, fun x => x.elim e.2 fun x => h2.new x.1 hi⟩, fun i hi => hi.elim (fun x => by have := h5 i x; omega) fun x => x.2⟩

/-- A row of members, and members in blocks, all of them in N. -/
structure KeepQ (w : World) (N : Nat → Prop) (v : Value) (L : List Mb) (bs : List (Nat × Mb)) : Prop where
  row : Rw 4 mc mb0 w N v L
  blk : ∀ p ∈ bs, Blk w p.1 67 #[.int .i64 p.2.id, .int .i64 p.2.w, .int .i64 p.2.v, .int .i64 p.2.r] ∧ N p.1
variable {v : Value} {L : List Mb} {bs : List (Nat × Mb)}
theorem KeepQ.step (h : KeepQ w N v L bs) (k : Kp (fun i => ¬ N i) w w') : KeepQ w' N v L bs :=
  ⟨h.row.kp k fun _ _ h1 h2 => h2 h1, fun p hp => ⟨(h.blk p hp).1.kp k fun e => e (h.blk p hp).2, (h.blk p hp).2⟩⟩
theorem KeepQ.kp0 (h : KeepQ w N v L bs) (k : Kp No w w') : KeepQ w' N v L bs := h.step k.all
theorem KeepQ.wide (h : KeepQ w N v L bs) (hN : ∀ i, N i → N' i) : KeepQ w N' v L bs := ⟨h.row.mono fun i _ hi => hN i hi, fun p hp => ⟨(h.blk p hp).1, hN _ (h.blk p hp).2⟩⟩
theorem KeepQ.add (h : KeepQ w N v L bs) {q : Nat} {m : Mb} (hb : Blk w q 67 #[.int .i64 m.id, .int .i64 m.w, .int .i64 m.v, .int .i64 m.r]) (hN : N q) : KeepQ w N v L ((q, m) :: bs) :=
  ⟨h.row, fun p hp => (List.mem_cons.1 hp).elim (fun e => by subst e; exact ⟨hb, hN⟩) (h.blk p)⟩
theorem KeepQ.cells (h : KeepQ w N v L bs) {q : Nat} {m : Mb} (hp : (q, m) ∈ bs) : w.cell? ⟨q, 0, none⟩ = some (.int .i64 m.id) ∧ w.cell? ⟨q, 1, none⟩ = some (.int .i64 m.w) ∧ w.cell? ⟨q, 2, none⟩ = some (.int .i64 m.v) ∧ w.cell? ⟨q, 3, none⟩ = some (.int .i64 m.r) := by
  have b := (h.blk _ hp).1
  have c0 := b.cell 0
  have c1 := b.cell 1
  have c2 := b.cell 2
  have c3 := b.cell 3
  exact ⟨by simpa using c0, by simpa using c1, by simpa using c2, by simpa using c3⟩

/-! ### leaving and joining -/
theorem tl_isM (h : QOk s) {y : Mb} (hy : y ∈ s.l) : isM (tl s.base y) = true := by
  have o := h.ok y hy
  have := o.i1
  have := o.i2
  have := o.w1
  have := o.w2
  have := o.v1
  have := o.v2
  have := o.r1
  have := o.r2
  have := h.b1
  rw [isM_iff]
  simp only [tl]
  omega
theorem far_tl (b : Int) (y : Mb) : far b (tl b y) = y := by
  cases y
  simp only [far, tl, Mb.mk.injEq, true_and, and_true]
  omega
theorem tl_far (b : Int) (x : Mb) : tl b (far b x) = x := by
  cases x
  simp only [far, tl, Mb.mk.injEq, true_and, and_true]
  omega
theorem leave_is (h : QOk s) {y : Mb} (hy : y ∈ s.l) : leaveE s y.id = 0 ∧ leaveM s y.id = tl s.base y := by
  have hf := finM_of h.ids hy
  unfold leaveE leaveM
  rw [hf]
  exact ⟨rfl, rfl⟩
theorem leave_get (h : QOk s) (k : Int) : getB (leaveS s k) k = false ∧ getM (leaveS s k) k = mb0 := by
  have hf : finM (leaveS s k).l k = none := by
    have := remM_fin (k := k) h.ids k
    rw [if_pos rfl] at this
    exact this
  unfold getB getM
  rw [hf]
  exact ⟨rfl, rfl⟩
theorem join_there {x : Mb} (hx : isM x = true) (hb : getB s x.id = true) : joinE s x = 9 := by
  unfold getB at hb
  unfold joinE
  rw [hx, hb]
  simp
theorem join_not {x : Mb} (hx : isM x = true) (hl : s.l.length ≤ 1000) (hb : getB s x.id = false) : joinE s x = 0 ∨ joinE s x = 6 := by
  unfold getB at hb
  unfold joinE
  rw [hx, hb, if_neg (show ¬ 4096 ≤ s.l.length by omega)]
  simp
  omega
theorem join_get (h : QOk s) {x : Mb} (he : joinE s x = 0) : getB (joinS s x) x.id = true ∧ getM (joinS s x) x.id = x := by
  have f1 := finM_none (joinE_fin he)
  have hf := insM_fin (m := far s.base x) f1 h.ids x.id
  rw [if_pos (show x.id = (far s.base x).id from rfl)] at hf
  unfold getB getM
  rw [joinS_l he]
  simp only
  rw [hf]
  exact ⟨rfl, tl_far _ _⟩
theorem join_back (h : QOk s) (hl : s.l.length ≤ 1000) {y : Mb} (hy : y ∈ s.l) : joinE (leaveS s y.id) (tl s.base y) = 0 ∧ joinS (leaveS s y.id) (tl s.base y) = s := by
  have hi := tl_isM h hy
  have hb := (leave_get h y.id).1
  have o := h.ok y hy
  have hlen : (leaveS s y.id).l.length ≤ s.l.length := List.length_filter_le _ _
  have he : joinE (leaveS s y.id) (tl s.base y) = 0 := by
    unfold getB at hb
    unfold joinE
    rw [hi, show (tl s.base y).id = y.id from rfl, hb, if_neg (show ¬ 4096 ≤ (leaveS s y.id).l.length by omega)]
    have : ¬ 2305843009213693952 < (leaveS s y.id).base + (tl s.base y).v := by
      have := o.v2
      simp only [leaveS, tl]
      omega
    rw [if_neg this]
    simp
  refine ⟨he, ?_⟩
  rw [joinS_l he]
  have f1 : ∀ z ∈ remM s.l y.id, z.id ≠ y.id := fun z hz => (remM_mem.1 hz).2
  have e : insM (remM s.l y.id) y = s.l := by
    refine memb_ext (insM_srt (remM_srt h.srt)) h.srt fun z => ?_
    rw [insM_mem f1, remM_mem]
    constructor
    · rintro (rfl | ⟨h1, _⟩)
      · exact hy
      · exact h1
    · intro hz
      by_cases hzi : z.id = y.id
      · left
        have q1 := finM_of h.ids hz
        rw [hzi, finM_of h.ids hy] at q1
        exact (Option.some.inj q1).symm
      · exact .inr ⟨hz, hzi⟩
  show (⟨s.base, insM (remM s.l y.id) (far s.base (tl s.base y))⟩ : Qs) = s
  rw [far_tl, e]
end
end Go.Proofs.Ytpbnmfoecmhnnaa

/-
  Ticks in parts; another weight: as plain things.
-/
namespace Go.Proofs.Ytpbnmfoecmhnnaa
open Go.RowKit

theorem ran_two {y : Mb} {m n : Int} (hw : 1 ≤ y.w) : ranM (ranM y m) n = ranM y (m + n) := by
  have hw' : y.w ≠ 0 := by omega
  have h1 := Int.mul_ediv_add_emod (1048576 * m + y.r) y.w
  have e : 1048576 * (m + n) + y.r = (1048576 * n + (1048576 * m + y.r) % y.w) + (1048576 * m + y.r) / y.w * y.w := by
    rw [Int.mul_comm ((1048576 * m + y.r) / y.w) y.w]
    omega
  refine Mb.ext' rfl rfl ?_ ?_
  · simp only [ranM]
    rw [e, Int.add_mul_ediv_right _ _ hw']
    omega
  · simp only [ranM]
    rw [e, Int.add_mul_emod_self_right]
theorem ran_le {y : Mb} {n : Int} (hw : 1 ≤ y.w) (hr : 0 ≤ y.r) (h0 : 0 ≤ n) : y.v ≤ (ranM y n).v := by
  have : 0 ≤ (1048576 * n + y.r) / y.w := Int.ediv_nonneg (by omega) (by omega)
  simp only [ranM]
  omega

section
variable {s : Qs}
theorem runS_is {k n : Int} {m : Mb} (hf : finM s.l k = some m) (he : runE s k n = 0) : runS s k n = riseS ⟨s.base, insM (remM s.l k) (ranM m n)⟩ := by
  unfold runS
  rw [hf]
  simp only
  rw [if_pos he]
  rfl
theorem runE_v {k n : Int} {m : Mb} (hf : finM s.l k = some m) : runE s k n = 0 ↔ (0 ≤ n ∧ n ≤ 1099511627776) ∧ (ranM m n).v ≤ 2305843009213693952 := by
  unfold runE
  rw [hf]
  simp only
  split
  · omega
  · split <;> omega
theorem rem_ins {l : List Mb} {k : Int} {m : Mb} (hm : m.id = k) (hs : Sorted (l.map itM)) : remM (insM (remM l k) m) k = remM l k := by
  have f1 : ∀ z ∈ remM l k, z.id ≠ m.id := fun z hz => by rw [hm]; exact (remM_mem.1 hz).2
  refine memb_ext (remM_srt (insM_srt (remM_srt hs))) (remM_srt hs) fun z => ?_
  rw [remM_mem, insM_mem f1]
  constructor
  · rintro ⟨rfl | h, h2⟩
    · exact absurd hm h2
    · exact h
  · intro h
    exact ⟨.inr h, (remM_mem.1 h).2⟩
theorem head_mem {l : List Mb} (d : Int) (h : l ≠ []) : ∃ z ∈ l, head d l = z.v := by
  cases l with
  | nil => exact absurd rfl h
  | cons z l => exact ⟨z, by simp, rfl⟩
/-- TICKS IN PARTS ARE TICKS AT ONCE. -/
theorem run_two (h : QOk s) {y : Mb} (hy : y ∈ s.l) {m n : Int} (hm : 0 ≤ m) (hn : 0 ≤ n) (hmn : m + n ≤ 1099511627776) (h1 : runE s y.id m = 0) (h2 : runE (runS s y.id m) y.id n = 0) :
    runE s y.id (m + n) = 0 ∧ runS (runS s y.id m) y.id n = runS s y.id (m + n) := by
  have hf := finM_of h.ids hy
  have o := h.ok y hy
  have f1 : ∀ k, ∀ z ∈ remM s.l y.id, z.id ≠ (ranM y k).id := fun k z hz => (remM_mem.1 hz).2
  have hf1 : finM (runS s y.id m).l y.id = some (ranM y m) := by
    rw [runS_is hf h1]
    have := insM_fin (f1 m) (remM_ids h.ids) y.id
    rw [if_pos (show y.id = (ranM y m).id from rfl)] at this
    exact this
  have hr := ran_two (y := y) (m := m) (n := n) o.w1
  have e2 := (runE_v hf1).1 h2
  rw [hr] at e2
  have e3 : runE s y.id (m + n) = 0 := (runE_v hf).2 ⟨⟨by omega, hmn⟩, e2.2⟩
  refine ⟨e3, ?_⟩
  have hrem : remM (runS s y.id m).l y.id = remM s.l y.id := by
    rw [runS_is hf h1]
    exact rem_ins rfl h.srt
  rw [runS_is hf1 h2, runS_is hf e3, hr, hrem]
  have hb : (runS s y.id m).base = max s.base (head s.base (insM (remM s.l y.id) (ranM y m))) := by rw [runS_is hf h1]; rfl
  unfold riseS
  simp only
  rw [hb]
  have ne : ∀ k, insM (remM s.l y.id) (ranM y k) ≠ [] := fun k e => by
    have := insM_len (f1 k)
    rw [e] at this
    simp at this
  obtain ⟨z, hz, hz1⟩ := head_mem s.base (ne (m + n))
  have hhead : ∀ d, head d (insM (remM s.l y.id) (ranM y (m + n))) = z.v := fun d => by
    rw [← hz1]
    cases hl : insM (remM s.l y.id) (ranM y (m + n)) with
    | nil => exact absurd hl (ne _)
    | cons x l => rfl
  have hle : head s.base (insM (remM s.l y.id) (ranM y m)) ≤ z.v := by
    rcases (insM_mem (f1 (m + n))).1 hz with rfl | hz
    · have a1 := head_le (insM_srt (m := ranM y m) (remM_srt (k := y.id) h.srt)) s.base ((insM_mem (f1 m)).2 (.inl rfl))
      have a2 := ran_le (y := ranM y m) (n := n) o.w1 (Int.emod_nonneg _ (by have := o.w1; omega)) hn
      rw [hr] at a2
      omega
    · exact head_le (insM_srt (m := ranM y m) (remM_srt (k := y.id) h.srt)) s.base ((insM_mem (f1 m)).2 (.inr hz))
  rw [hhead, hhead]
  congr 1
  omega
theorem weigh_ok {k n : Int} {m : Mb} (hf : finM s.l k = some m) (h1 : 1 ≤ n) (h2 : n ≤ 1048576) : weighE s k n = 0 ∧ weighS s k n = ⟨s.base, updM s.l k n⟩ := by
  have e : weighE s k n = 0 := by
    unfold weighE
    rw [hf]
    exact if_neg (by omega)
  exact ⟨e, by unfold weighS; rw [if_pos e]; rfl⟩
/-- What is told behind another weight. -/
theorem upd_told (k n : Int) {i : Nat} (hi : i < (toldQ s).length) : (toldQ ⟨s.base, updM s.l k n⟩).getD i mb0 = (if ((toldQ s).getD i mb0).id = k then weiM ((toldQ s).getD i mb0) n else (toldQ s).getD i mb0) := by
  rw [toldQ_len] at hi
  simp only [toldQ, updM, List.getD, List.getElem?_map, List.getElem?_eq_getElem hi, Option.map_some, Option.getD_some]
  by_cases e : s.l[i].id = k
  · rw [if_pos e, if_pos (show (tl s.base s.l[i]).id = k from e)]
    rfl
  · rw [if_neg e, if_neg (show ¬ (tl s.base s.l[i]).id = k from e)]
/-- The one that is run is there still. -/
theorem run_there (h : QOk s) {y : Mb} (hy : y ∈ s.l) (n : Int) : ∃ z, finM (runS s y.id n).l y.id = some z := by
  have hf := finM_of h.ids hy
  by_cases he : runE s y.id n = 0
  · refine ⟨ranM y n, ?_⟩
    rw [runS_is hf he]
    have := insM_fin (m := ranM y n) (fun z hz => (remM_mem (k := y.id).1 hz).2) (remM_ids h.ids) y.id
    rw [if_pos (show y.id = (ranM y n).id from rfl)] at this
    exact this
  · rw [runS_err he]
    exact ⟨y, hf⟩
end
theorem wrapU32 {x : Int} (h0 : 0 ≤ x) (h1 : x < 4294967296) : IntKind.u32.wrap x = x := by
  simp only [IntKind.wrap, IntKind.bits, IntKind.signed]
  simp
  omega
end Go.Proofs.Ytpbnmfoecmhnnaa

/-
  The document's list of members and the sorted one: one is the other in another order.
-/
namespace Go.Proofs.Ytpbnmfoecmhnnaa

theorem Wq_perm {l l' : List Mb} (h : l.Perm l') : Wq l = Wq l' := by
  induction h with
  | nil => rfl
  | cons x _ ih => simp only [Wq, ih]
  | swap x y l => simp only [Wq]; omega
  | trans _ _ h1 h2 => rw [h1, h2]
theorem Pq_perm {b : Int} {l l' : List Mb} (h : l.Perm l') : Pq b l = Pq b l' := by
  induction h with
  | nil => rfl
  | cons x _ ih => simp only [Pq, ih]
  | swap x y l => simp only [Pq]; omega
  | trans _ _ h1 h2 => rw [h1, h2]
theorem Ids_perm {l l' : List Mb} (h : l.Perm l') (hi : Ids l) : Ids l' := by
  unfold Ids at hi ⊢
  exact (h.pairwise_iff (fun {a b} (e : a.id ≠ b.id) => e.symm)).1 hi
theorem finM_perm {l l' : List Mb} (h : l.Perm l') (hi : Ids l) (k : Int) : finM l k = finM l' k := by
  cases hf : finM l k with
  | none => exact (finM_not fun m hm => finM_none hf m (h.mem_iff.2 hm)).symm
  | some m =>
    have := finM_of (Ids_perm h hi) (h.mem_iff.1 (finM_mem hf))
    rw [finM_id hf] at this
    exact this.symm
theorem take_drop_perm {xs : List Mb} {n : Nat} (hn : n < xs.length) : xs.Perm (xs.getD n mb0 :: (xs.take n ++ xs.drop (n + 1))) := by
  have e : xs = xs.take n ++ xs.getD n mb0 :: xs.drop (n + 1) := by
    have h1 : xs.getD n mb0 = xs[n] := by simp [List.getD, hn]
    rw [h1, List.getElem_cons_drop]
    exact (List.take_append_drop n xs).symm
  conv => lhs; rw [e]
  exact List.perm_middle
theorem set_perm {xs : List Mb} {n : Nat} (hn : n < xs.length) (m : Mb) : (xs.set n m).Perm (m :: (xs.take n ++ xs.drop (n + 1))) := by
  rw [List.set_eq_take_append_cons_drop, if_pos hn]
  exact List.perm_middle
theorem remM_perm {l : List Mb} (hi : Ids l) {m : Mb} (hm : m ∈ l) : l.Perm (m :: remM l m.id) := by
  induction l with
  | nil => cases hm
  | cons x l ih =>
    unfold Ids at hi
    rw [List.pairwise_cons] at hi
    rcases List.mem_cons.1 hm with rfl | h
    · have : remM (m :: l) m.id = l := by
        unfold remM
        rw [List.filter_cons]
        simp
        intro a ha e
        exact hi.1 a ha e.symm
      rw [this]
    · have hx : x.id ≠ m.id := hi.1 m h
      have : remM (x :: l) m.id = x :: remM l m.id := by
        unfold remM
        rw [List.filter_cons]
        simp [hx]
      rw [this]
      exact ((ih hi.2 h).cons x).trans (List.Perm.swap m x _)
theorem rest_perm {xs l : List Mb} (h : xs.Perm l) (hi : Ids l) {n : Nat} (hn : n < xs.length) : (xs.take n ++ xs.drop (n + 1)).Perm (remM l (xs.getD n mb0).id) := by
  have h1 := take_drop_perm hn
  have h2 := remM_perm hi (h.mem_iff.1 (getD_mem hn))
  exact ((h1.symm.trans h).trans h2).cons_inv

/-- The document's queue is the sorted one. -/
structure Rel (s : Qs) (b : Int) (xs : List Mb) : Prop where
  base : s.base = b
  perm : xs.Perm s.l
section
variable {s : Qs} {b : Int} {xs : List Mb}
theorem Rel.start : Rel q0 0 [] := ⟨rfl, List.Perm.nil⟩
theorem Rel.len (h : Rel s b xs) : xs.length = s.l.length := h.perm.length_eq
theorem Rel.ids (h : Rel s b xs) (q : QOk s) : Ids xs := Ids_perm h.perm.symm q.ids
theorem Rel.fin (h : Rel s b xs) (q : QOk s) (k : Int) : finM xs k = finM s.l k := finM_perm h.perm (h.ids q) k
theorem Rel.ok (h : Rel s b xs) (q : QOk s) {m : Mb} (hm : m ∈ xs) : Ok b m := h.base ▸ q.ok m (h.perm.mem_iff.1 hm)
theorem Rel.leave (h : Rel s b xs) (q : QOk s) {n : Nat} (hn : n < xs.length) {k : Int} (hk : (xs.getD n mb0).id = k) : Rel (leaveS s k) b (xs.take n ++ xs.drop (n + 1)) := by
  subst hk
  exact ⟨h.base, rest_perm h.perm q.ids hn⟩
theorem Rel.join (h : Rel s b xs) {m : Mb} (he : joinE s m = 0) : Rel (joinS s m) b (xs ++ [far b m]) := by
  rw [joinS_l he]
  refine ⟨h.base, ?_⟩
  rw [h.base]
  have hne : ∀ y ∈ s.l, y.id ≠ (far b m).id := fun y hy => finM_none (joinE_fin he) y hy
  exact (List.perm_append_comm.trans (h.perm.cons _)).trans (insM_perm hne).symm
theorem least_head {l : List Mb} (hs : Sorted (l.map itM)) {L : Int} (h1 : ∀ x ∈ l, L ≤ x.v) (h2 : ∃ x ∈ l, x.v = L) (d : Int) : head d l = L := by
  obtain ⟨x, hx, rfl⟩ := h2
  have := head_le hs d hx
  cases l with
  | nil => cases hx
  | cons a l =>
    have := h1 a (by simp)
    simp only [head] at *
    omega
theorem Rel.run (h : Rel s b xs) (q : QOk s) {k n : Int} {i : Nat} {m : Mb} (hi : i < xs.length) (hm : xs.getD i mb0 = m) (hf : finM s.l k = some m) (he : runE s k n = 0) {L : Int} (h1 : ∀ x ∈ xs.set i (ranM m n), L ≤ x.v) (h2 : ∃ x ∈ xs.set i (ranM m n), x.v = L) :
    Rel (runS s k n) (max b L) (xs.set i (ranM m n)) := by
  rw [runS_is hf he]
  have hk := finM_id hf
  have hne : ∀ y ∈ remM s.l k, y.id ≠ (ranM m n).id := fun y hy e => (remM_mem.1 hy).2 (e.trans hk)
  have hp : (xs.set i (ranM m n)).Perm (insM (remM s.l k) (ranM m n)) := by
    have hr := rest_perm h.perm q.ids hi
    rw [hm, hk] at hr
    exact ((set_perm hi (ranM m n)).trans (hr.cons _)).trans (insM_perm hne).symm
  have hs : Sorted ((insM (remM s.l k) (ranM m n)).map itM) := insM_srt (remM_srt q.srt)
  refine ⟨?_, hp⟩
  simp only [riseS]
  rw [least_head hs (fun x hx => h1 x (hp.mem_iff.2 hx)) (by obtain ⟨x, hx, e⟩ := h2; exact ⟨x, hp.mem_iff.1 hx, e⟩), h.base]
theorem Rel.weigh (h : Rel s b xs) (q : QOk s) {k n : Int} {i : Nat} {m : Mb} (hi : i < xs.length) (hm : xs.getD i mb0 = m) (hf : finM s.l k = some m) (he : weighE s k n = 0) : Rel (weighS s k n) b (xs.set i (weiM m n)) := by
  have hk := finM_id hf
  unfold weighS
  rw [if_pos he]
  refine ⟨h.base, ?_⟩
  have hr := rest_perm h.perm q.ids hi
  rw [hm, hk] at hr
  have h1 := (remM_perm q.ids (finM_mem hf)).map fun m => if m.id = k then weiM m n else m
  rw [hk, List.map_cons, if_pos hk] at h1
  have h2 : (remM s.l k).map (fun m => if m.id = k then weiM m n else m) = remM s.l k := by
    conv => rhs; rw [← List.map_id (remM s.l k)]
    exact List.map_congr_left fun y hy => by rw [if_neg (remM_mem.1 hy).2]; rfl
  rw [h2] at h1
  exact ((set_perm hi _).trans (hr.cons _)).trans h1.symm
end
end Go.Proofs.Ytpbnmfoecmhnnaa
