/-
  What a call has made, kept while two queues of its own are walked; leaving and joining, as plain things.
-/
import Derived.Test.YtlkbjfjjfifbmaaQTwo
namespace Go.Proofs.Ytlkbjfjjfifbmaa
open Go.RowKit

section
variable {a w w' : World} {N N' : Nat → Prop} {g mb sg g' mb' sg' : Nat} {s s' s1 : Qs}
theorem QP.more (h : QP a w N g mb sg s g' mb' sg' s') (k : Kp No w w') : QP a w' (fun i => N i ∨ (w.heap.size ≤ i ∧ i < w'.heap.size)) g mb sg s g' mb' sg' s' := by
  obtain ⟨k', T, T', h1, h2, h3, h4, h5⟩ := h
  have hk := k.size
  exact ⟨k'.trans k, _, _, h1.trim.kp0 k, h2.trim.kp0 k, fun i hi =>
    have e := h3 i (hi.imp id fun e => e.imp id fun e => e.1)
    ⟨fun x => e.1 (x.imp id fun e => e.imp id fun e => e.1), e.2.1, fun x => x.elim e.2.2 fun x => h1.new x.1 hi⟩,
    fun i hi =>
    have e := h4 i (hi.imp id fun e => e.imp id fun e => e.1)
    ⟨e.1, fun x => x.elim e.2 fun x => h2.new x.1 hi⟩, fun i hi => hi.elim (fun x => by have := h5 i x; omega) fun x => x.2⟩

/-- A row of members, and members in blocks, all of them in N. -/
structure KeepQ (w : World) (N : Nat → Prop) (v : Value) (L : List Mb) (bs : List (Nat × Mb)) : Prop where
  row : Rw 4 mc mb0 w N v L
  blk : ∀ p ∈ bs, Blk w p.1 67 #[.int .i64 p.2.id, .int .i64 p.2.w, .int .i64 p.2.v, .int .i64 p.2.r] ∧ N p.1
variable {v : Value} {L : List Mb} {bs : List (Nat × Mb)}
theorem KeepQ.step (h : KeepQ w N v L bs) (k : Kp (fun i => ¬ N i) w w') : KeepQ w' N v L bs :=
  ⟨h.row.kp k fun _ _ h1 h2 => h2 h1, fun p hp => ⟨(h.blk p hp).1.kp k fun e => e (h.blk p hp).2, (h.blk p hp).2⟩⟩
theorem KeepQ.kp0 (h : KeepQ w N v L bs) (k : Kp No w w') : KeepQ w' N v L bs := h.step k.all
theorem KeepQ.wide (h : KeepQ w N v L bs) (hN : ∀ i, N i → N' i) : KeepQ w N' v L bs := ⟨h.row.mono fun i _ hi => hN i hi, fun p hp => ⟨(h.blk p hp).1, hN _ (h.blk p hp).2⟩⟩
theorem KeepQ.add (h : KeepQ w N v L bs) {q : Nat} {m : Mb} (hb : Blk w q 67 #[.int .i64 m.id, .int .i64 m.w, .int .i64 m.v, .int .i64 m.r]) (hN : N q) : KeepQ w N v L ((q, m) :: bs) :=
  ⟨h.row, fun p hp => (List.mem_cons.1 hp).elim (fun e => by subst e; exact ⟨hb, hN⟩) (h.blk p)⟩
theorem KeepQ.cells (h : KeepQ w N v L bs) {q : Nat} {m : Mb} (hp : (q, m) ∈ bs) : w.cell? ⟨q, 0, none⟩ = some (.int .i64 m.id) ∧ w.cell? ⟨q, 1, none⟩ = some (.int .i64 m.w) ∧ w.cell? ⟨q, 2, none⟩ = some (.int .i64 m.v) ∧ w.cell? ⟨q, 3, none⟩ = some (.int .i64 m.r) := by
  have b := (h.blk _ hp).1
  have c0 := b.cell 0
  have c1 := b.cell 1
  have c2 := b.cell 2
  have c3 := b.cell 3
  exact ⟨by simpa using c0, by simpa using c1, by simpa using c2, by simpa using c3⟩

/-! ### leaving and joining -/
theorem tl_isM (h : QOk s) {y : Mb} (hy : y ∈ s.l) : isM (tl s.base y) = true := by
  have o := h.ok y hy
  have := o.i1
  have := o.i2
  have := o.w1
  have := o.w2
  have := o.v1
  have := o.v2
  have := o.r1
  have := o.r2
  have := h.b1
  rw [isM_iff]
  simp only [tl]
  omega
theorem far_tl (b : Int) (y : Mb) : far b (tl b y) = y := by
  cases y
  simp only [far, tl, Mb.mk.injEq, true_and, and_true]
  omega
theorem tl_far (b : Int) (x : Mb) : tl b (far b x) = x := by
  cases x
  simp only [far, tl, Mb.mk.injEq, true_and, and_true]
  omega
theorem leave_is (h : QOk s) {y : Mb} (hy : y ∈ s.l) : leaveE s y.id = 0 ∧ leaveM s y.id = tl s.base y := by
  have hf := finM_of h.ids hy
  unfold leaveE leaveM
  rw [hf]
  exact ⟨rfl, rfl⟩
theorem leave_get (h : QOk s) (k : Int) : getB (leaveS s k) k = false ∧ getM (leaveS s k) k = mb0 := by
  have hf : finM (leaveS s k).l k = none := by
    have := remM_fin (k := k) h.ids k
    rw [if_pos rfl] at this
    exact this
  unfold getB getM
  rw [hf]
  exact ⟨rfl, rfl⟩
theorem join_there {x : Mb} (hx : isM x = true) (hb : getB s x.id = true) : joinE s x = 9 := by
  unfold getB at hb
  unfold joinE
  rw [hx, hb]
  simp
theorem join_not {x : Mb} (hx : isM x = true) (hl : s.l.length ≤ 1000) (hb : getB s x.id = false) : joinE s x = 0 ∨ joinE s x = 6 := by
  unfold getB at hb
  unfold joinE
  rw [hx, hb, if_neg (show ¬ 4096 ≤ s.l.length by omega)]
  simp
  omega
theorem join_get (h : QOk s) {x : Mb} (he : joinE s x = 0) : getB (joinS s x) x.id = true ∧ getM (joinS s x) x.id = x := by
  have f1 := finM_none (joinE_fin he)
  have hf := insM_fin (m := far s.base x) f1 h.ids x.id
  rw [if_pos (show x.id = (far s.base x).id from rfl)] at hf
  unfold getB getM
  rw [joinS_l he]
  simp only
  rw [hf]
  exact ⟨rfl, tl_far _ _⟩
theorem join_back (h : QOk s) (hl : s.l.length ≤ 1000) {y : Mb} (hy : y ∈ s.l) : joinE (leaveS s y.id) (tl s.base y) = 0 ∧ joinS (leaveS s y.id) (tl s.base y) = s := by
  have hi := tl_isM h hy
  have hb := (leave_get h y.id).1
  have o := h.ok y hy
  have hlen : (leaveS s y.id).l.length ≤ s.l.length := List.length_filter_le _ _
  have he : joinE (leaveS s y.id) (tl s.base y) = 0 := by
    unfold getB at hb
    unfold joinE
    rw [hi, show (tl s.base y).id = y.id from rfl, hb, if_neg (show ¬ 4096 ≤ (leaveS s y.id).l.length by omega)]
    have : ¬ 2305843009213693952 < (leaveS s y.id).base + (tl s.base y).v := by
      have := o.v2
      simp only [leaveS, tl]
      omega
    rw [if_neg this]
    simp
  refine ⟨he, ?_⟩
  rw [joinS_l he]
  have f1 : ∀ z ∈ remM s.l y.id, z.id ≠ y.id := fun z hz => (remM_mem.1 hz).2
  have e : insM (remM s.l y.id) y = s.l := by
    refine memb_ext (insM_srt (remM_srt h.srt)) h.srt fun z => ?_
    rw [insM_mem f1, remM_mem]
    constructor
    · rintro (rfl | ⟨h1, _⟩)
      · exact hy
      · exact h1
    · intro hz
      by_cases hzi : z.id = y.id
      · left
        have q1 := finM_of h.ids hz
        rw [hzi, finM_of h.ids hy] at q1
        exact (Option.some.inj q1).symm
      · exact .inr ⟨hz, hzi⟩
  show (⟨s.base, insM (remM s.l y.id) (far s.base (tl s.base y))⟩ : Qs) = s
  rw [far_tl, e]
end
end Go.Proofs.Ytlkbjfjjfifbmaa
