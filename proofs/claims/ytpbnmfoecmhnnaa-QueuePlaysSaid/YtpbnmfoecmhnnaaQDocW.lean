/-
  The document's queue beside the program's, and the walk of QueuePlays.
-/
import Derived.Test.YtpbnmfoecmhnnaaQDocA
import Derived.Test.YtpbnmfoecmhnnaaQDocB
import Derived.Test.YtpbnmfoecmhnnaaQF
import Derived.Test.YtpbnmfoecmhnnaaQDocH
import Derived.Test.YtpbnmfoecmhnnaaQH

/-
  The document's queue as a state: what an operation answers, and leaves.
-/
namespace Go.Proofs.Ytpbnmfoecmhnnaa
open Go.RowKit

/-- The document's queue at r is in the state s. -/
def DQ (w : World) (r : Nat) (S : Nat → Prop) (s : Qs) : Prop := ∃ b xs, Rq w r S b xs ∧ Rel s b xs
/-- What an operation leaves. -/
def OpD (w w' : World) (r : Nat) (S : Nat → Prop) (s : Qs) : Prop := Kp (Only r) w w' ∧ DQ w' r (fun i => (S i ∨ w.heap.size ≤ i) ∧ i < w'.heap.size) s
section
variable {w w' w1 w2 w3 wf : World} {r : Nat} {S T : Nat → Prop} {s s' : Qs}
theorem DQ.kp0 (h : DQ w r S s) (k : Kp No w w') : DQ w' r S s := by
  obtain ⟨b, xs, h1, h2⟩ := h
  exact ⟨b, xs, h1.kp0 k, h2⟩
theorem DQ.lt (h : DQ w r S s) : r < w.heap.size := by
  obtain ⟨b, xs, ⟨⟨v, hb, _⟩, _, _⟩, _⟩ := h
  exact hb.lt
theorem DQ.nr (h : DQ w r S s) : ¬ S r := by
  obtain ⟨b, xs, ⟨_, _, hn⟩, _⟩ := h
  exact hn
theorem DQ.mono {S' : Nat → Prop} (h : DQ w r S s) (hs : ∀ i, i < w.heap.size → S i → S' i) (hn : ¬ S' r) : DQ w r S' s := by
  obtain ⟨b, xs, h1, h2⟩ := h
  exact ⟨b, xs, h1.mono hs hn, h2⟩
theorem DQ.trim (h : DQ w r S s) : DQ w r (fun i => S i ∧ i < w.heap.size) s := h.mono (fun _ hi hs => ⟨hs, hi⟩) fun e => h.nr e.1
theorem DQ.new (h : DQ w r S s) {i : Nat} (hi : w.heap.size ≤ i) : ¬ Only r i := fun e => by
  have := h.lt
  have : i = r := e
  omega
theorem DQ.kp {Z : Nat → Prop} (h : DQ w r S s) (k : Kp Z w w') (h1 : ¬ Z r) (h2 : ∀ i, i < w.heap.size → S i → ¬ Z i) : DQ w' r S s := by
  obtain ⟨b, xs, q1, q2⟩ := h
  exact ⟨b, xs, q1.kp k h1 h2, q2⟩
theorem OpD.same (h : DQ w r S s) (k : Kp No w w') : OpD w w' r S s :=
  ⟨k.all, (h.kp0 k).mono (fun _ hi hs => ⟨.inl hs, hi⟩) fun e => e.1.elim h.nr fun x => absurd h.lt (by omega)⟩
theorem OpD.of (h : DQ w r S s) (k : Kp (Only r) w w') (d : DQ w' r (fun i => w.heap.size ≤ i) s') : OpD w w' r S s' :=
  ⟨k, d.mono (fun _ hi hs => ⟨.inr hs, hi⟩) fun e => e.1.elim h.nr fun x => absurd h.lt (by omega)⟩
theorem OpD.post (o : OpD w w1 r S s') (k : Kp No w1 w2) : OpD w w2 r S s' :=
  ⟨o.1.trans k.all, (o.2.kp0 k).mono (fun _ hi ht => ⟨ht.1, hi⟩) fun e => o.2.nr ⟨e.1, o.2.lt⟩⟩
theorem OpD.fin {p : Nat} (h : DQ w r S s) (k : Kp No w w2) (o : OpD w2 w3 r (fun i => S i ∧ i < w.heap.size) s') (kf : Kp (Only p) w3 wf) (hp : w.heap.size ≤ p) (hp2 : p < w2.heap.size) : OpD w wf r S s' := by
  have hl := h.lt
  have hs := k.size
  refine ⟨(k.all.trans o.1).step kf fun i hi e => absurd hi (by have : i = p := e; omega), (o.2.kp kf (fun e => by have : r = p := e; omega) fun i hi hS e => ?_).mono (fun i hi ht => ⟨ht.1.imp (fun h => h.1) fun h => by omega, hi⟩) (fun e => e.1.elim h.nr fun x => by omega)⟩
  have : i = p := e
  rcases hS.1 with h1 | h1
  · omega
  · omega

theorem join_d (h : DQ w r S s) (q : QOk s) (m : Mb) :
    Calls Try.prog 64 #[.pointer (some ⟨r, 0, none⟩), .agg #[.int .i64 m.id, .int .i64 m.w, .int .i64 m.v, .int .i64 m.r]] w fun e w' => e = .returned (.int .i64 (joinE s m)) ∧ OpD w w' r S (joinS s m) := by
  obtain ⟨b, xs, hq, hr⟩ := id h
  have hb := hr.base
  have same : joinE s m ≠ 0 → joinS s m = s := fun e => by unfold joinS; rw [if_neg e]
  cases hm : isM m with
  | false =>
    have e : joinE s m = 1 := by unfold joinE; rw [hm]; simp
    rw [e, same (by omega)]
    exact (refjoin_arg r m hm w).mono fun _ _ ⟨h1, h2⟩ => ⟨h1, OpD.same h h2⟩
  | true =>
    cases hf : finM xs m.id with
    | some y =>
      have hf' : finM s.l m.id = some y := by rw [← hr.fin q]; exact hf
      have e : joinE s m = 9 := by unfold joinE; rw [hm, hf']; simp
      rw [e, same (by omega)]
      exact (refjoin_twice hq hm hf).mono fun _ _ ⟨h1, h2⟩ => ⟨h1, OpD.same h h2⟩
    | none =>
      have hf' : finM s.l m.id = none := by rw [← hr.fin q]; exact hf
      have hlen := hr.len
      by_cases hl : 4096 ≤ xs.length
      · have e : joinE s m = 7 := by unfold joinE; rw [hm, hf']; simp; omega
        rw [e, same (by omega)]
        exact (refjoin_full hq hm hf hl).mono fun _ _ ⟨h1, h2⟩ => ⟨h1, OpD.same h h2⟩
      · have b1 := q.b1
        have b2 := q.b2
        rw [hb] at b1 b2
        by_cases hfar : 2305843009213693952 < b + m.v
        · have e : joinE s m = 6 := by unfold joinE; rw [hm, hf', hb]; simp; omega
          rw [e, same (by omega)]
          exact (refjoin_range hq hm hf hl b1 b2 hfar).mono fun _ _ ⟨h1, h2⟩ => ⟨h1, OpD.same h h2⟩
        · have e : joinE s m = 0 := by unfold joinE; rw [hm, hf', hb]; simp; omega
          rw [e]
          exact (refjoin_ok hq hm hf hl b1 b2 hfar).mono fun _ _ ⟨h1, h2, h3⟩ => ⟨h1, OpD.of h h2 ⟨b, _, h3, hr.join e⟩⟩

theorem leave_d (h : DQ w r S s) (q : QOk s) (k : Int) :
    Calls Try.prog 65 #[.pointer (some ⟨r, 0, none⟩), .int .i64 k] w fun e w' => e = .returned (.tuple #[.agg #[.int .i64 (leaveM s k).id, .int .i64 (leaveM s k).w, .int .i64 (leaveM s k).v, .int .i64 (leaveM s k).r], .int .i64 (leaveE s k)]) ∧ OpD w w' r S (leaveS s k) := by
  obtain ⟨b, xs, hq, hr⟩ := id h
  have hb := hr.base
  cases hf : finM xs k with
  | none =>
    have hf' : finM s.l k = none := by rw [← hr.fin q]; exact hf
    have e1 : leaveE s k = 8 := by unfold leaveE; rw [hf']; rfl
    have e2 : leaveM s k = mb0 := by unfold leaveM; rw [hf']
    have e3 : leaveS s k = s := by unfold leaveS; rw [remM_none hf']
    rw [e1, e2, e3]
    exact (refleave_none hq hf).mono fun _ _ ⟨h1, h2⟩ => ⟨h1, OpD.same h h2⟩
  | some m =>
    have hf' : finM s.l k = some m := by rw [← hr.fin q]; exact hf
    have o := hr.ok q (finM_mem hf)
    have b1 := q.b1
    have v1 := o.v1
    have v2 := o.v2
    rw [hb] at b1
    have e1 : leaveE s k = 0 := by unfold leaveE; rw [hf']; rfl
    have e2 : leaveM s k = tl b m := by unfold leaveM; rw [hf', hb]
    rw [e1, e2]
    obtain ⟨i, hi, hm, hc⟩ := refleave_ok hq hf (by unfold I64; omega)
    exact hc.mono fun _ _ ⟨h1, h2, h3⟩ => ⟨h1, OpD.of h h2 ⟨b, _, h3, hr.leave q hi (by rw [hm]; exact finM_id hf)⟩⟩

theorem mem_getD {xs : List Mb} {x : Mb} (h : x ∈ xs) : ∃ j, j < xs.length ∧ xs.getD j mb0 = x := by
  obtain ⟨j, hj, e⟩ := List.getElem_of_mem h
  exact ⟨j, hj, by simp [List.getD, hj, e]⟩
theorem run_d (h : DQ w r S s) (q : QOk s) (k n : Int) :
    Calls Try.prog 66 #[.pointer (some ⟨r, 0, none⟩), .int .i64 k, .int .i64 n] w fun e w' => e = .returned (.int .i64 (runE s k n)) ∧ OpD w w' r S (runS s k n) := by
  obtain ⟨b, xs, hq, hr⟩ := id h
  have hb := hr.base
  cases hf : finM xs k with
  | none =>
    have hf' : finM s.l k = none := by rw [← hr.fin q]; exact hf
    have e1 : runE s k n = 8 := by unfold runE; rw [hf']
    have e2 : runS s k n = s := by unfold runS; rw [hf']
    rw [e1, e2]
    exact (refrun_none hq n hf).mono fun _ _ ⟨h1, h2⟩ => ⟨h1, OpD.same h h2⟩
  | some m =>
    have hf' : finM s.l k = some m := by rw [← hr.fin q]; exact hf
    by_cases hn : n < 0 ∨ 1099511627776 < n
    · have e1 : runE s k n = 1 := by unfold runE; rw [hf']; simp only; rw [if_pos hn]
      have e2 : runS s k n = s := by unfold runS; rw [hf']; simp only; rw [if_neg (by omega)]
      rw [e1, e2]
      exact (refrun_arg hq n hf hn).mono fun _ _ ⟨h1, h2⟩ => ⟨h1, OpD.same h h2⟩
    · have b1 := q.b1
      rw [hb] at b1
      obtain ⟨i, hi, hm, hc⟩ := refrun_ok hq hf (hr.ok q (finM_mem hf)) b1 (n := n) (by omega) (by omega)
      refine hc.mono fun e w' hh => ?_
      rcases hh with ⟨hfar, h1, h2⟩ | ⟨hfar, h1, h2, L, h3, h4, h5⟩
      · have e1 : runE s k n = 6 := by unfold runE; rw [hf']; simp only; rw [if_neg hn, if_pos hfar]
        have e2 : runS s k n = s := by unfold runS; rw [hf']; simp only; rw [if_neg (by omega)]
        rw [e1, e2]
        exact ⟨h1, OpD.same h h2⟩
      · have e1 : runE s k n = 0 := by unfold runE; rw [hf']; simp only; rw [if_neg hn, if_neg (by omega)]
        rw [e1]
        refine ⟨h1, OpD.of h h2 ⟨max b L, _, h5, hr.run q hi hm hf' e1 (fun x hx => ?_) h4⟩⟩
        obtain ⟨j, hj, rfl⟩ := mem_getD hx
        rw [List.length_set] at hj
        exact h3 j hj
theorem weigh_d (h : DQ w r S s) (q : QOk s) (k n : Int) :
    Calls Try.prog 67 #[.pointer (some ⟨r, 0, none⟩), .int .i64 k, .int .i64 n] w fun e w' => e = .returned (.int .i64 (weighE s k n)) ∧ OpD w w' r S (weighS s k n) := by
  obtain ⟨b, xs, hq, hr⟩ := id h
  cases hf : finM xs k with
  | none =>
    have hf' : finM s.l k = none := by rw [← hr.fin q]; exact hf
    have e1 : weighE s k n = 8 := by unfold weighE; rw [hf']
    have e2 : weighS s k n = s := by unfold weighS; rw [if_neg (by omega)]
    rw [e1, e2]
    exact (refweigh_none hq n hf).mono fun _ _ ⟨h1, h2⟩ => ⟨h1, OpD.same h h2⟩
  | some m =>
    have hf' : finM s.l k = some m := by rw [← hr.fin q]; exact hf
    by_cases hn : n < 1 ∨ 1048576 < n
    · have e1 : weighE s k n = 1 := by unfold weighE; rw [hf']; simp only; rw [if_pos hn]
      have e2 : weighS s k n = s := by unfold weighS; rw [if_neg (by omega)]
      rw [e1, e2]
      exact (refweigh_arg hq n hf hn).mono fun _ _ ⟨h1, h2⟩ => ⟨h1, OpD.same h h2⟩
    · have e1 : weighE s k n = 0 := by unfold weighE; rw [hf']; simp only; rw [if_neg hn]
      have o := hr.ok q (finM_mem hf)
      rw [e1]
      obtain ⟨i, hi, hm, hc⟩ := refweigh_ok hq hf o.w1 o.w2 o.r1 o.r2 (n := n) (by omega) (by omega)
      exact hc.mono fun _ _ ⟨h1, h2, h3⟩ => ⟨h1, OpD.of h h2 ⟨b, _, h3, hr.weigh q hi hm hf' e1⟩⟩
theorem get_d (h : DQ w r S s) (q : QOk s) (k : Int) :
    Calls Try.prog 48 #[.pointer (some ⟨r, 0, none⟩), .int .i64 k] w fun e w' => e = .returned (.tuple #[.agg #[.int .i64 (getM s k).id, .int .i64 (getM s k).w, .int .i64 (getM s k).v, .int .i64 (getM s k).r], .bool (getB s k)]) ∧ Kp No w w' := by
  obtain ⟨b, xs, hq, hr⟩ := id h
  have hb := hr.base
  unfold getM getB
  cases hf : finM xs k with
  | none =>
    have hf' : finM s.l k = none := by rw [← hr.fin q]; exact hf
    rw [hf']
    exact refget_none hq hf
  | some m =>
    have hf' : finM s.l k = some m := by rw [← hr.fin q]; exact hf
    have o := hr.ok q (finM_mem hf)
    have b1 := q.b1
    have v1 := o.v1
    have v2 := o.v2
    rw [hb] at b1
    rw [hf', hb]
    exact refget_some hq hf (by unfold I64; omega)

/-- Mean tells one thing, of the program and of the document. -/
theorem mean_two (q : QOk s) : ∃ (a : Int) (t : Bool), (∀ (w : World) (g mb sg : Nat) (T : Nat → Prop), Qu w g mb sg T s → Calls Try.prog 41 #[.pointer (some ⟨g, 0, none⟩)] w fun e w' => e = .returned (.tuple #[.int .i64 a, .bool t]) ∧ Kp No w w') ∧
    ∀ (w : World) (r : Nat) (S : Nat → Prop), DQ w r S s → Calls Try.prog 42 #[.pointer (some ⟨r, 0, none⟩)] w fun e w' => e = .returned (.tuple #[.int .i64 a, .bool t]) ∧ Kp No w w' := by
  have doc : ∀ {a : Int} {t : Bool}, (∀ xs : List Mb, xs.Perm s.l → ∀ e, MeanE s.base xs e → e = .returned (.tuple #[.int .i64 a, .bool t])) → ∀ (w : World) (r : Nat) (S : Nat → Prop), DQ w r S s → Calls Try.prog 42 #[.pointer (some ⟨r, 0, none⟩)] w fun e w' => e = .returned (.tuple #[.int .i64 a, .bool t]) ∧ Kp No w w' := fun hE w r S ⟨b, xs, hq, hr⟩ => by
    have hb := hr.base
    have b1 := q.b1
    have b2 := q.b2
    rw [hb] at b1 b2
    exact (refmean_any hq (fun m hm => hr.ok q hm) b1 b2).mono fun e w' ⟨h1, h2⟩ => ⟨hE xs hr.perm e (by rw [hb]; exact h1), h2⟩
  by_cases hl : s.l = []
  · refine ⟨0, false, fun w g mb sg T h => mean_none h hl, doc fun xs hp e he => ?_⟩
    have hx : xs = [] := by rw [hl] at hp; exact List.Perm.eq_nil hp
    rcases he with ⟨⟨m, hm, _⟩, _⟩ | ⟨_, _, h3⟩ | ⟨_, h2, _⟩
    · rw [hx] at hm; cases hm
    · exact h3
    · exact absurd hx h2
  · obtain ⟨p, hp⟩ : ∃ p, s.l.length = p + 1 := ⟨s.l.length - 1, by have : s.l.length ≠ 0 := fun e => hl (List.eq_nil_of_length_eq_zero e); omega⟩
    by_cases hfar : 1048576 < (s.l.getD p mb0).v - s.base
    · refine ⟨0, false, fun w g mb sg T h => mean_far h hp rfl hfar, doc fun xs hx e he => ?_⟩
      have hin : s.l.getD p mb0 ∈ xs := hx.mem_iff.2 (getD_mem (by omega))
      rcases he with ⟨_, h3⟩ | ⟨h1, _, _⟩ | ⟨h1, _, _⟩
      · exact h3
      · have := (h1 _ hin).2.2.2
        omega
      · have := (h1 _ hin).2.2.2
        omega
    · refine ⟨_, true, fun w g mb sg T h => mean_ok h hp rfl (by omega) rfl, doc fun xs hx e he => ?_⟩
      rcases he with ⟨⟨m, hm, h2⟩, _⟩ | ⟨_, h2, _⟩ | ⟨_, _, h3⟩
      · have := last_le q.srt hp (hx.mem_iff.1 hm)
        omega
      · rw [h2] at hx
        exact absurd (List.Perm.nil_eq hx).symm hl
      · rw [Wq_perm hx, Pq_perm hx] at h3
        exact h3
end
end Go.Proofs.Ytpbnmfoecmhnnaa

/-
  What is done with the document's queue: doc.
-/
namespace Go.Proofs.Ytpbnmfoecmhnnaa
open Go.RowKit

section
variable {w w' w1 w2 w3 wf : World} {g : Nat} {S : Nat → Prop} {s s' : Qs}

set_option maxRecDepth 100000 in
set_option maxHeartbeats 1000000 in
theorem doc_1 (h : DQ w g S s) (q : QOk s) (m : Mb) (n : Int) :
    Calls Try.prog 40 #[.pointer (some ⟨g, 0, none⟩), .agg #[.int .i64 1, .int .i64 m.id, .int .i64 m.w, .int .i64 m.v, .int .i64 m.r, .int .i64 n]] w fun e w' => e = .returned (.tuple #[.agg #[.int .i64 0, .int .i64 0, .int .i64 0, .int .i64 0], .int .i64 (joinE s m)]) ∧ OpD w w' g S (joinS s m) := by
  have H := hid h
  have QO := hid q
  have k2 := ((Kp.refl No w).alloc (.cells #[.int .i64 1, .int .i64 m.id, .int .i64 m.w, .int .i64 m.v, .int .i64 m.r, .int .i64 n] 72)).alloc (.cells #[.int .i64 0, .int .i64 0, .int .i64 0, .int .i64 0] 67)
  have b0 := (Blk.new w 72 #[.int .i64 1, .int .i64 m.id, .int .i64 m.w, .int .i64 m.v, .int .i64 m.r, .int .i64 n]).kp0 ((Kp.refl No _).alloc (.cells #[.int .i64 0, .int .i64 0, .int .i64 0, .int .i64 0] 67))
  have b1 := (Blk.new (w.alloc (.cells #[.int .i64 1, .int .i64 m.id, .int .i64 m.w, .int .i64 m.v, .int .i64 m.r, .int .i64 n] 72)) 67 #[.int .i64 0, .int .i64 0, .int .i64 0, .int .i64 0]).next (h := w.heap.size + 1) (by simp)
  have hz : _ = w.heap.size + 2 := show ((w.alloc (.cells #[.int .i64 1, .int .i64 m.id, .int .i64 m.w, .int .i64 m.v, .int .i64 m.r, .int .i64 n] 72)).alloc (.cells #[.int .i64 0, .int .i64 0, .int .i64 0, .int .i64 0] 67)).heap.size = w.heap.size + 2 by simp
  clear h q
  go_enter Try.func40, Try.ntmps40
  go_wp2_with fail
  generalize ((w.alloc (.cells #[.int .i64 1, .int .i64 m.id, .int .i64 m.w, .int .i64 m.v, .int .i64 m.r, .int .i64 n] 72)).alloc (.cells #[.int .i64 0, .int .i64 0, .int .i64 0, .int .i64 0] 67)) = w2 at k2 b0 b1 hz ⊢
  have K2 := hid k2
  have B1 := hid b1
  have Q2 := hid (H.out.trim.kp0 k2)
  have HZ := hid hz
  clear k2 b1 hz
  refine (join_d Q2.out QO.out m).mono ?_
  rintro e w3 ⟨rfl, r3⟩
  have b3 := B1.out.kp r3.1 (H.out.new (by omega))
  have c0 := b3.cell 0
  have c1 := b3.cell 1
  have c2 := b3.cell 2
  have c3 := b3.cell 3
  have f0 := b3.frozen 0
  have f1 := b3.frozen 1
  have f2 := b3.frozen 2
  have f3 := b3.frozen 3
  simp at c0 c1 c2 c3
  have kf := kp4 (w.heap.size + 1) w3 (.int .i64 0) (.int .i64 0) (.int .i64 0) (.int .i64 0)
  have bf := b3.put4 (.int .i64 0) (.int .i64 0) (.int .i64 0) (.int .i64 0)
  have R := hid (OpD.fin H.out K2.out r3 kf (by omega) (by have := HZ.out; omega))
  clear kf
  go_wp2_with fail
  generalize ((((w3.setCell ⟨w.heap.size + 1, 0, none⟩ (.int .i64 0)).setCell ⟨w.heap.size + 1, 1, none⟩ (.int .i64 0)).setCell ⟨w.heap.size + 1, 2, none⟩ (.int .i64 0)).setCell ⟨w.heap.size + 1, 3, none⟩ (.int .i64 0)) = wf at bf R ⊢
  have e0 := bf.cell 0
  have e1 := bf.cell 1
  have e2 := bf.cell 2
  have e3 := bf.cell 3
  simp at e0 e1 e2 e3
  exact bodyPost_ret (v := .tuple #[.agg #[(.int .i64 0), (.int .i64 0), (.int .i64 0), (.int .i64 0)], .int .i64 (joinE s m)]) (by simp [results, Try.results40, go_sem, e0, e1, e2, e3]) rfl ⟨rfl, R.out⟩

set_option maxRecDepth 100000 in
set_option maxHeartbeats 1000000 in
theorem doc_3 (h : DQ w g S s) (q : QOk s) (m : Mb) (n : Int) :
    Calls Try.prog 40 #[.pointer (some ⟨g, 0, none⟩), .agg #[.int .i64 3, .int .i64 m.id, .int .i64 m.w, .int .i64 m.v, .int .i64 m.r, .int .i64 n]] w fun e w' => e = .returned (.tuple #[.agg #[.int .i64 0, .int .i64 0, .int .i64 0, .int .i64 0], .int .i64 (runE s m.id n)]) ∧ OpD w w' g S (runS s m.id n) := by
  have H := hid h
  have QO := hid q
  have k2 := ((Kp.refl No w).alloc (.cells #[.int .i64 3, .int .i64 m.id, .int .i64 m.w, .int .i64 m.v, .int .i64 m.r, .int .i64 n] 72)).alloc (.cells #[.int .i64 0, .int .i64 0, .int .i64 0, .int .i64 0] 67)
  have b0 := (Blk.new w 72 #[.int .i64 3, .int .i64 m.id, .int .i64 m.w, .int .i64 m.v, .int .i64 m.r, .int .i64 n]).kp0 ((Kp.refl No _).alloc (.cells #[.int .i64 0, .int .i64 0, .int .i64 0, .int .i64 0] 67))
  have b1 := (Blk.new (w.alloc (.cells #[.int .i64 3, .int .i64 m.id, .int .i64 m.w, .int .i64 m.v, .int .i64 m.r, .int .i64 n] 72)) 67 #[.int .i64 0, .int .i64 0, .int .i64 0, .int .i64 0]).next (h := w.heap.size + 1) (by simp)
  have hz : _ = w.heap.size + 2 := show ((w.alloc (.cells #[.int .i64 3, .int .i64 m.id, .int .i64 m.w, .int .i64 m.v, .int .i64 m.r, .int .i64 n] 72)).alloc (.cells #[.int .i64 0, .int .i64 0, .int .i64 0, .int .i64 0] 67)).heap.size = w.heap.size + 2 by simp
  clear h q
  go_enter Try.func40, Try.ntmps40
  go_wp2_with fail
  generalize ((w.alloc (.cells #[.int .i64 3, .int .i64 m.id, .int .i64 m.w, .int .i64 m.v, .int .i64 m.r, .int .i64 n] 72)).alloc (.cells #[.int .i64 0, .int .i64 0, .int .i64 0, .int .i64 0] 67)) = w2 at k2 b0 b1 hz ⊢
  have K2 := hid k2
  have B1 := hid b1
  have Q2 := hid (H.out.trim.kp0 k2)
  have HZ := hid hz
  clear k2 b1 hz
  refine (run_d Q2.out QO.out m.id n).mono ?_
  rintro e w3 ⟨rfl, r3⟩
  have b3 := B1.out.kp r3.1 (H.out.new (by omega))
  have c0 := b3.cell 0
  have c1 := b3.cell 1
  have c2 := b3.cell 2
  have c3 := b3.cell 3
  have f0 := b3.frozen 0
  have f1 := b3.frozen 1
  have f2 := b3.frozen 2
  have f3 := b3.frozen 3
  simp at c0 c1 c2 c3
  have kf := kp4 (w.heap.size + 1) w3 (.int .i64 0) (.int .i64 0) (.int .i64 0) (.int .i64 0)
  have bf := b3.put4 (.int .i64 0) (.int .i64 0) (.int .i64 0) (.int .i64 0)
  have R := hid (OpD.fin H.out K2.out r3 kf (by omega) (by have := HZ.out; omega))
  clear kf
  go_wp2_with fail
  generalize ((((w3.setCell ⟨w.heap.size + 1, 0, none⟩ (.int .i64 0)).setCell ⟨w.heap.size + 1, 1, none⟩ (.int .i64 0)).setCell ⟨w.heap.size + 1, 2, none⟩ (.int .i64 0)).setCell ⟨w.heap.size + 1, 3, none⟩ (.int .i64 0)) = wf at bf R ⊢
  have e0 := bf.cell 0
  have e1 := bf.cell 1
  have e2 := bf.cell 2
  have e3 := bf.cell 3
  simp at e0 e1 e2 e3
  exact bodyPost_ret (v := .tuple #[.agg #[(.int .i64 0), (.int .i64 0), (.int .i64 0), (.int .i64 0)], .int .i64 (runE s m.id n)]) (by simp [results, Try.results40, go_sem, e0, e1, e2, e3]) rfl ⟨rfl, R.out⟩

set_option maxRecDepth 100000 in
set_option maxHeartbeats 1000000 in
theorem doc_4 (h : DQ w g S s) (q : QOk s) (m : Mb) (n : Int) :
    Calls Try.prog 40 #[.pointer (some ⟨g, 0, none⟩), .agg #[.int .i64 4, .int .i64 m.id, .int .i64 m.w, .int .i64 m.v, .int .i64 m.r, .int .i64 n]] w fun e w' => e = .returned (.tuple #[.agg #[.int .i64 0, .int .i64 0, .int .i64 0, .int .i64 0], .int .i64 (weighE s m.id n)]) ∧ OpD w w' g S (weighS s m.id n) := by
  have H := hid h
  have QO := hid q
  have k2 := ((Kp.refl No w).alloc (.cells #[.int .i64 4, .int .i64 m.id, .int .i64 m.w, .int .i64 m.v, .int .i64 m.r, .int .i64 n] 72)).alloc (.cells #[.int .i64 0, .int .i64 0, .int .i64 0, .int .i64 0] 67)
  have b0 := (Blk.new w 72 #[.int .i64 4, .int .i64 m.id, .int .i64 m.w, .int .i64 m.v, .int .i64 m.r, .int .i64 n]).kp0 ((Kp.refl No _).alloc (.cells #[.int .i64 0, .int .i64 0, .int .i64 0, .int .i64 0] 67))
  have b1 := (Blk.new (w.alloc (.cells #[.int .i64 4, .int .i64 m.id, .int .i64 m.w, .int .i64 m.v, .int .i64 m.r, .int .i64 n] 72)) 67 #[.int .i64 0, .int .i64 0, .int .i64 0, .int .i64 0]).next (h := w.heap.size + 1) (by simp)
  have hz : _ = w.heap.size + 2 := show ((w.alloc (.cells #[.int .i64 4, .int .i64 m.id, .int .i64 m.w, .int .i64 m.v, .int .i64 m.r, .int .i64 n] 72)).alloc (.cells #[.int .i64 0, .int .i64 0, .int .i64 0, .int .i64 0] 67)).heap.size = w.heap.size + 2 by simp
  clear h q
  go_enter Try.func40, Try.ntmps40
  go_wp2_with fail
  generalize ((w.alloc (.cells #[.int .i64 4, .int .i64 m.id, .int .i64 m.w, .int .i64 m.v, .int .i64 m.r, .int .i64 n] 72)).alloc (.cells #[.int .i64 0, .int .i64 0, .int .i64 0, .int .i64 0] 67)) = w2 at k2 b0 b1 hz ⊢
  have K2 := hid k2
  have B1 := hid b1
  have Q2 := hid (H.out.trim.kp0 k2)
  have HZ := hid hz
  clear k2 b1 hz
  refine (weigh_d Q2.out QO.out m.id n).mono ?_
  rintro e w3 ⟨rfl, r3⟩
  have b3 := B1.out.kp r3.1 (H.out.new (by omega))
  have c0 := b3.cell 0
  have c1 := b3.cell 1
  have c2 := b3.cell 2
  have c3 := b3.cell 3
  have f0 := b3.frozen 0
  have f1 := b3.frozen 1
  have f2 := b3.frozen 2
  have f3 := b3.frozen 3
  simp at c0 c1 c2 c3
  have kf := kp4 (w.heap.size + 1) w3 (.int .i64 0) (.int .i64 0) (.int .i64 0) (.int .i64 0)
  have bf := b3.put4 (.int .i64 0) (.int .i64 0) (.int .i64 0) (.int .i64 0)
  have R := hid (OpD.fin H.out K2.out r3 kf (by omega) (by have := HZ.out; omega))
  clear kf
  go_wp2_with fail
  generalize ((((w3.setCell ⟨w.heap.size + 1, 0, none⟩ (.int .i64 0)).setCell ⟨w.heap.size + 1, 1, none⟩ (.int .i64 0)).setCell ⟨w.heap.size + 1, 2, none⟩ (.int .i64 0)).setCell ⟨w.heap.size + 1, 3, none⟩ (.int .i64 0)) = wf at bf R ⊢
  have e0 := bf.cell 0
  have e1 := bf.cell 1
  have e2 := bf.cell 2
  have e3 := bf.cell 3
  simp at e0 e1 e2 e3
  exact bodyPost_ret (v := .tuple #[.agg #[(.int .i64 0), (.int .i64 0), (.int .i64 0), (.int .i64 0)], .int .i64 (weighE s m.id n)]) (by simp [results, Try.results40, go_sem, e0, e1, e2, e3]) rfl ⟨rfl, R.out⟩

set_option maxRecDepth 100000 in
set_option maxHeartbeats 1000000 in
theorem doc_2 (h : DQ w g S s) (q : QOk s) (m : Mb) (n : Int) {x : Mb} (hx : leaveM s m.id = x) :
    Calls Try.prog 40 #[.pointer (some ⟨g, 0, none⟩), .agg #[.int .i64 2, .int .i64 m.id, .int .i64 m.w, .int .i64 m.v, .int .i64 m.r, .int .i64 n]] w fun e w' => e = .returned (.tuple #[.agg #[.int .i64 x.id, .int .i64 x.w, .int .i64 x.v, .int .i64 x.r], .int .i64 (leaveE s m.id)]) ∧ OpD w w' g S (leaveS s m.id) := by
  have H := hid h
  have QO := hid q
  have k2 := ((Kp.refl No w).alloc (.cells #[.int .i64 2, .int .i64 m.id, .int .i64 m.w, .int .i64 m.v, .int .i64 m.r, .int .i64 n] 72)).alloc (.cells #[.int .i64 0, .int .i64 0, .int .i64 0, .int .i64 0] 67)
  have b0 := (Blk.new w 72 #[.int .i64 2, .int .i64 m.id, .int .i64 m.w, .int .i64 m.v, .int .i64 m.r, .int .i64 n]).kp0 ((Kp.refl No _).alloc (.cells #[.int .i64 0, .int .i64 0, .int .i64 0, .int .i64 0] 67))
  have b1 := (Blk.new (w.alloc (.cells #[.int .i64 2, .int .i64 m.id, .int .i64 m.w, .int .i64 m.v, .int .i64 m.r, .int .i64 n] 72)) 67 #[.int .i64 0, .int .i64 0, .int .i64 0, .int .i64 0]).next (h := w.heap.size + 1) (by simp)
  have hz : _ = w.heap.size + 2 := show ((w.alloc (.cells #[.int .i64 2, .int .i64 m.id, .int .i64 m.w, .int .i64 m.v, .int .i64 m.r, .int .i64 n] 72)).alloc (.cells #[.int .i64 0, .int .i64 0, .int .i64 0, .int .i64 0] 67)).heap.size = w.heap.size + 2 by simp
  clear h q
  go_enter Try.func40, Try.ntmps40
  go_wp2_with fail
  generalize ((w.alloc (.cells #[.int .i64 2, .int .i64 m.id, .int .i64 m.w, .int .i64 m.v, .int .i64 m.r, .int .i64 n] 72)).alloc (.cells #[.int .i64 0, .int .i64 0, .int .i64 0, .int .i64 0] 67)) = w2 at k2 b0 b1 hz ⊢
  have K2 := hid k2
  have B1 := hid b1
  have Q2 := hid (H.out.trim.kp0 k2)
  have HZ := hid hz
  clear k2 b1 hz
  refine (leave_d Q2.out QO.out m.id).mono ?_
  rintro e w3 ⟨rfl, r3⟩
  rw [hx]
  have b3 := B1.out.kp r3.1 (H.out.new (by omega))
  have c0 := b3.cell 0
  have c1 := b3.cell 1
  have c2 := b3.cell 2
  have c3 := b3.cell 3
  have f0 := b3.frozen 0
  have f1 := b3.frozen 1
  have f2 := b3.frozen 2
  have f3 := b3.frozen 3
  simp at c0 c1 c2 c3
  have kf := kp4 (w.heap.size + 1) w3 (.int .i64 x.id) (.int .i64 x.w) (.int .i64 x.v) (.int .i64 x.r)
  have bf := b3.put4 (.int .i64 x.id) (.int .i64 x.w) (.int .i64 x.v) (.int .i64 x.r)
  have hlt3 := b3.lt
  have R := hid (OpD.fin H.out K2.out r3 kf (by omega) (by have := HZ.out; omega))
  clear kf
  go_wp2_with fail
  generalize (((w3.setCell ⟨w.heap.size + 1, 0, none⟩ (.int .i64 x.id)).setCell ⟨w.heap.size + 1, 1, none⟩ (.int .i64 x.w)).setCell ⟨w.heap.size + 1, 2, none⟩ (.int .i64 x.v)).setCell ⟨w.heap.size + 1, 3, none⟩ (.int .i64 x.r) = wf at bf R ⊢
  have kz := (Kp.refl No wf).alloc (.cells #[.int .i64 x.id, .int .i64 x.w, .int .i64 x.v, .int .i64 x.r] 67)
  have bz := bf.kp0 kz
  have RZ := hid (R.out.post kz)
  have e0 := bz.cell 0
  have e1 := bz.cell 1
  have e2 := bz.cell 2
  have e3 := bz.cell 3
  simp at e0 e1 e2 e3
  exact bodyPost_ret (v := .tuple #[.agg #[.int .i64 x.id, .int .i64 x.w, .int .i64 x.v, .int .i64 x.r], .int .i64 (leaveE s m.id)]) (by simp [results, Try.results40, go_sem, e0, e1, e2, e3]) rfl ⟨rfl, RZ.out⟩
end
end Go.Proofs.Ytpbnmfoecmhnnaa

/-
  What is done with the document's queue: the first one in order runs; no such thing; doc as a whole.
-/
namespace Go.Proofs.Ytpbnmfoecmhnnaa
open Go.RowKit

section
variable {w w' w1 w2 w3 wf : World} {g : Nat} {S : Nat → Prop} {s s' : Qs}

theorem all_d (h : DQ w g S s) (q : QOk s) :
    Calls Try.prog 46 #[.pointer (some ⟨g, 0, none⟩)] w fun e w' => ∃ v, e = .returned v ∧ Kp No w w' ∧ Ow w' w.heap.size 67 4 mc v (s.l.map (tl s.base)) := by
  obtain ⟨b, xs, hq, hr⟩ := h
  have hb := hr.base
  have b1 := q.b1
  rw [hb] at b1 ⊢
  exact refall_any hq hr.perm q.srt (hr.ids q) fun m hm => by
    have o := hr.ok q hm
    have v1 := o.v1
    have v2 := o.v2
    unfold I64
    omega

set_option maxRecDepth 100000 in
set_option maxHeartbeats 1000000 in
theorem doc_0 (h : DQ w g S s) (q : QOk s) (m : Mb) (n : Int) {d : Int} (h1 : d ≠ 1) (h2 : d ≠ 2) (h3 : d ≠ 3) (h4 : d ≠ 4) (h5 : d ≠ 5) :
    Calls Try.prog 40 #[.pointer (some ⟨g, 0, none⟩), .agg #[.int .i64 d, .int .i64 m.id, .int .i64 m.w, .int .i64 m.v, .int .i64 m.r, .int .i64 n]] w fun e w' => e = .returned (.tuple #[.agg #[.int .i64 0, .int .i64 0, .int .i64 0, .int .i64 0], .int .i64 0]) ∧ OpD w w' g S s := by
  have H := hid h
  have QO := hid q
  have k2 := hid (((Kp.refl No w).alloc (.cells #[.int .i64 d, .int .i64 m.id, .int .i64 m.w, .int .i64 m.v, .int .i64 m.r, .int .i64 n] 72)).alloc (.cells #[.int .i64 0, .int .i64 0, .int .i64 0, .int .i64 0] 67))
  clear h q
  go_enter Try.func40, Try.ntmps40
  go_wp2_with fail
  exact bodyPost_ret (v := .tuple #[.agg #[.int .i64 0, .int .i64 0, .int .i64 0, .int .i64 0], .int .i64 0]) (by simp [results, Try.results40, go_sem]) rfl ⟨rfl, OpD.same H.out k2.out⟩

set_option maxRecDepth 100000 in
set_option maxHeartbeats 1000000 in
theorem doc_5n (h : DQ w g S s) (q : QOk s) (m : Mb) (n : Int) (hl : s.l = []) :
    Calls Try.prog 40 #[.pointer (some ⟨g, 0, none⟩), .agg #[.int .i64 5, .int .i64 m.id, .int .i64 m.w, .int .i64 m.v, .int .i64 m.r, .int .i64 n]] w fun e w' => e = .returned (.tuple #[.agg #[.int .i64 0, .int .i64 0, .int .i64 0, .int .i64 0], .int .i64 0]) ∧ OpD w w' g S s := by
  have H := hid h
  have QO := hid q
  have k2 := ((Kp.refl No w).alloc (.cells #[.int .i64 5, .int .i64 m.id, .int .i64 m.w, .int .i64 m.v, .int .i64 m.r, .int .i64 n] 72)).alloc (.cells #[.int .i64 0, .int .i64 0, .int .i64 0, .int .i64 0] 67)
  have b1 := (Blk.new (w.alloc (.cells #[.int .i64 5, .int .i64 m.id, .int .i64 m.w, .int .i64 m.v, .int .i64 m.r, .int .i64 n] 72)) 67 #[.int .i64 0, .int .i64 0, .int .i64 0, .int .i64 0]).next (h := w.heap.size + 1) (by simp)
  clear h q
  go_enter Try.func40, Try.ntmps40
  go_wp2_with fail
  generalize ((w.alloc (.cells #[.int .i64 5, .int .i64 m.id, .int .i64 m.w, .int .i64 m.v, .int .i64 m.r, .int .i64 n] 72)).alloc (.cells #[.int .i64 0, .int .i64 0, .int .i64 0, .int .i64 0] 67)) = w2 at k2 b1 ⊢
  refine (all_d (H.out.kp0 k2) QO.out).mono ?_
  rintro e w3 ⟨v3, rfl, k3, o3⟩
  rw [hl] at o3
  obtain ⟨A3, cp3, rfl⟩ := o3.formN (m := 0) rfl
  have b3 := b1.kp0 k3
  have K3 := hid (k2.trans k3)
  clear k2 k3 b1 o3
  have c0 := b3.cell 0
  have c1 := b3.cell 1
  have c2 := b3.cell 2
  have c3 := b3.cell 3
  have f0 := b3.frozen 0
  have f1 := b3.frozen 1
  have f2 := b3.frozen 2
  have f3 := b3.frozen 3
  simp at c0 c1 c2 c3
  have kf := kp4 (w.heap.size + 1) w3 (.int .i64 0) (.int .i64 0) (.int .i64 0) (.int .i64 0)
  have bf := b3.put4 (.int .i64 0) (.int .i64 0) (.int .i64 0) (.int .i64 0)
  have KF := hid (K3.out.step kf fun i hi e => absurd hi (by have : i = w.heap.size + 1 := e; omega))
  clear kf
  go_wp2_with fail
  generalize (((w3.setCell ⟨w.heap.size + 1, 0, none⟩ (.int .i64 0)).setCell ⟨w.heap.size + 1, 1, none⟩ (.int .i64 0)).setCell ⟨w.heap.size + 1, 2, none⟩ (.int .i64 0)).setCell ⟨w.heap.size + 1, 3, none⟩ (.int .i64 0) = wf at bf KF ⊢
  have e0 := bf.cell 0
  have e1 := bf.cell 1
  have e2 := bf.cell 2
  have e3 := bf.cell 3
  simp at e0 e1 e2 e3
  exact bodyPost_ret (v := .tuple #[.agg #[.int .i64 0, .int .i64 0, .int .i64 0, .int .i64 0], .int .i64 0]) (by simp [results, Try.results40, go_sem, e0, e1, e2, e3]) rfl ⟨rfl, OpD.same H.out KF.out⟩

set_option maxRecDepth 100000 in
set_option maxHeartbeats 1000000 in
theorem doc_5c (h : DQ w g S s) (q : QOk s) (m : Mb) (n : Int) {y : Mb} {l : List Mb} (hl : s.l = y :: l) :
    Calls Try.prog 40 #[.pointer (some ⟨g, 0, none⟩), .agg #[.int .i64 5, .int .i64 m.id, .int .i64 m.w, .int .i64 m.v, .int .i64 m.r, .int .i64 n]] w fun e w' => e = .returned (.tuple #[.agg #[.int .i64 y.id, .int .i64 y.w, .int .i64 (y.v - s.base), .int .i64 y.r], .int .i64 (runE s y.id 1)]) ∧ OpD w w' g S (runS s y.id 1) := by
  have H := hid h
  have QO := hid q
  have hyid := (q.ok y (by rw [hl]; simp)).id64
  have k2 := ((Kp.refl No w).alloc (.cells #[.int .i64 5, .int .i64 m.id, .int .i64 m.w, .int .i64 m.v, .int .i64 m.r, .int .i64 n] 72)).alloc (.cells #[.int .i64 0, .int .i64 0, .int .i64 0, .int .i64 0] 67)
  have b1 := (Blk.new (w.alloc (.cells #[.int .i64 5, .int .i64 m.id, .int .i64 m.w, .int .i64 m.v, .int .i64 m.r, .int .i64 n] 72)) 67 #[.int .i64 0, .int .i64 0, .int .i64 0, .int .i64 0]).next (h := w.heap.size + 1) (by simp)
  have hz : _ = w.heap.size + 2 := show ((w.alloc (.cells #[.int .i64 5, .int .i64 m.id, .int .i64 m.w, .int .i64 m.v, .int .i64 m.r, .int .i64 n] 72)).alloc (.cells #[.int .i64 0, .int .i64 0, .int .i64 0, .int .i64 0] 67)).heap.size = w.heap.size + 2 by simp
  clear h q
  go_enter Try.func40, Try.ntmps40
  go_wp2_with fail
  generalize ((w.alloc (.cells #[.int .i64 5, .int .i64 m.id, .int .i64 m.w, .int .i64 m.v, .int .i64 m.r, .int .i64 n] 72)).alloc (.cells #[.int .i64 0, .int .i64 0, .int .i64 0, .int .i64 0] 67)) = w2 at k2 b1 hz ⊢
  have Q2 := hid (H.out.trim.kp0 k2)
  have HZ := hid hz
  clear hz
  refine (all_d Q2.out QO.out).mono ?_
  rintro e w3 ⟨v3, rfl, k3, o3⟩
  have hO := o3.rwP (d := mb0) (P := fun i => w2.heap.size ≤ i) fun i hi => hi
  rw [hl] at hO
  have hlen : (s.l.map (tl s.base)).length = l.length + 1 := by rw [hl]; simp
  obtain ⟨A3, cp3, rfl⟩ := o3.formN (m := l.length + 1) hlen
  rw [show ((y :: l).map (tl s.base)) = tl s.base y :: l.map (tl s.base) from rfl] at hO
  obtain ⟨ab, ao, hA⟩ := hO.there (by simp)
  subst hA
  have hab : w2.heap.size ≤ ab := by
    obtain ⟨_, _, he, _, _, hr⟩ := hO
    injection he with q1 q2 q3
    obtain ⟨b', o', e8, _, hp, _⟩ := hr (by simp)
    rw [← q1] at e8
    cases e8
    exact hp
  have HO := hid hO
  have B3 := hid (b1.kp0 k3)
  have K2 := hid k2
  have K3 := hid (k2.trans k3)
  have Q3 := hid ((Q2.out.kp0 k3).kp0 (Kp.refl No w3).drew)
  have CE := hid fun (w' : World) (k : Nat) (h : Rw 4 mc mb0 w' (fun i => w2.heap.size ≤ i) (.slice (some ⟨ab, ao, none⟩) (l.length + 1) cp3) (tl s.base y :: l.map (tl s.base))) (hk : k < 4) => h.cell (Kp.refl No w') (j := 0) (i := k) (by simp) hk rfl
  have hs3 := hid k3.size
  clear k2 k3 b1 o3 hO hlen
  have a0 := CE.out w3 0 HO.out (by omega)
  have a1 := CE.out w3 1 HO.out (by omega)
  have a2 := CE.out w3 2 HO.out (by omega)
  have a3 := CE.out w3 3 HO.out (by omega)
  simp [mc, tl] at a0 a1 a2 a3
  have hne : ab ≠ w.heap.size + 1 := by have := HZ.out; omega
  have hne' : w.heap.size + 1 ≠ ab := fun e => hne e.symm
  have hl0 : (0 : Int) < (l.length : Int) + 1 := by omega
  go_wp2_with fail
  go_region_held3 (fun w' => w'.cell? ⟨ab, ao, none⟩ = some (.int .i64 y.id) ∧ w'.cell? ⟨ab, ao + 1, none⟩ = some (.int .i64 y.w) ∧ w'.cell? ⟨ab, ao + 2, none⟩ = some (.int .i64 (y.v - s.base)) ∧ w'.cell? ⟨ab, ao + 3, none⟩ = some (.int .i64 y.r)) (go_keep) (first
    | (go_at_call 66
       refine (run_d Q3.out QO.out y.id 1).mono ?_
       rintro e w4 ⟨rfl, r4⟩
       have R4 := hid r4
       have h4 := HO.out.kp ((Kp.refl _ w3).drew.trans r4.1) fun i _ hi e => H.out.new (by have := HZ.out; omega) e
       have a0 := CE.out w4 0 h4 (by omega)
       have a1 := CE.out w4 1 h4 (by omega)
       have a2 := CE.out w4 2 h4 (by omega)
       have a3 := CE.out w4 3 h4 (by omega)
       simp [mc, tl] at a0 a1 a2 a3
       have B4 := hid (B3.out.kp ((Kp.refl _ w3).drew.trans r4.1) (H.out.new (by omega)))
       have f0 := B4.out.frozen 0
       have f1 := B4.out.frozen 1
       have f2 := B4.out.frozen 2
       have f3 := B4.out.frozen 3
       have c0 := B4.out.cell 0
       have c1 := B4.out.cell 1
       have c2 := B4.out.cell 2
       have c3 := B4.out.cell 3
       simp at c0 c1 c2 c3
       clear r4 h4))
  have kf := kp4 (w.heap.size + 1) w4 (.int .i64 y.id) (.int .i64 y.w) (.int .i64 (y.v - s.base)) (.int .i64 y.r)
  have bf := B4.out.put4 (.int .i64 y.id) (.int .i64 y.w) (.int .i64 (y.v - s.base)) (.int .i64 y.r)
  have R := hid (OpD.fin H.out K3.out.drew R4.out kf (by omega) (by have := HZ.out; have : w3.drew.heap.size = w3.heap.size := rfl; have := hs3.out; omega))
  clear kf
  generalize (((w4.setCell ⟨w.heap.size + 1, 0, none⟩ (.int .i64 y.id)).setCell ⟨w.heap.size + 1, 1, none⟩ (.int .i64 y.w)).setCell ⟨w.heap.size + 1, 2, none⟩ (.int .i64 (y.v - s.base))).setCell ⟨w.heap.size + 1, 3, none⟩ (.int .i64 y.r) = wf at bf R ⊢
  have e0 := bf.cell 0
  have e1 := bf.cell 1
  have e2 := bf.cell 2
  have e3 := bf.cell 3
  simp at e0 e1 e2 e3
  go_wp2_with fail
  exact bodyPost_ret (v := .tuple #[.agg #[.int .i64 y.id, .int .i64 y.w, .int .i64 (y.v - s.base), .int .i64 y.r], .int .i64 (runE s y.id 1)]) (by simp [results, Try.results40, go_sem, e0, e1, e2, e3]) rfl ⟨rfl, R.out⟩

/-- do, whatever is done. -/
theorem doc_any (h : DQ w g S s) (q : QOk s) (o : Qo) :
    Calls Try.prog 40 #[.pointer (some ⟨g, 0, none⟩), .agg #[.int .i64 o.d, .int .i64 o.m.id, .int .i64 o.m.w, .int .i64 o.m.v, .int .i64 o.m.r, .int .i64 o.n]] w fun e w' =>
      e = .returned (.tuple #[.agg #[.int .i64 (doM s o).id, .int .i64 (doM s o).w, .int .i64 (doM s o).v, .int .i64 (doM s o).r], .int .i64 (doE s o)]) ∧ OpD w w' g S (doS s o) := by
  obtain ⟨d, m, n⟩ := o
  by_cases h1 : d = 1
  · subst h1
    exact doc_1 h q m n
  by_cases h2 : d = 2
  · subst h2
    exact doc_2 h q m n rfl
  by_cases h3 : d = 3
  · subst h3
    exact doc_3 h q m n
  by_cases h4 : d = 4
  · subst h4
    exact doc_4 h q m n
  by_cases h5 : d = 5
  · subst h5
    cases hl : s.l with
    | nil =>
      have e1 : doM s ⟨5, m, n⟩ = mb0 := by simp [doM, hl]
      have e2 : doE s ⟨5, m, n⟩ = 0 := by simp [doE, hl]
      have e3 : doS s ⟨5, m, n⟩ = s := by simp [doS, hl]
      rw [e1, e2, e3]
      exact doc_5n h q m n hl
    | cons y l =>
      have e1 : doM s ⟨5, m, n⟩ = tl s.base y := by simp [doM, hl]
      have e2 : doE s ⟨5, m, n⟩ = runE s y.id 1 := by simp [doE, hl]
      have e3 : doS s ⟨5, m, n⟩ = runS s y.id 1 := by simp [doS, hl]
      rw [e1, e2, e3]
      exact doc_5c h q m n hl
  · have e1 : doM s ⟨d, m, n⟩ = mb0 := by simp [doM, h2, h5]
    have e2 : doE s ⟨d, m, n⟩ = 0 := by simp [doE, h1, h2, h3, h4, h5]
    have e3 : doS s ⟨d, m, n⟩ = s := by simp [doS, h1, h2, h3, h4, h5]
    rw [e1, e2, e3]
    exact doc_0 h q m n h1 h2 h3 h4 h5
end
end Go.Proofs.Ytpbnmfoecmhnnaa

/-
  The program's queue and the document's, side by side.
-/
namespace Go.Proofs.Ytpbnmfoecmhnnaa
open Go.RowKit

/-- From a on nothing old has turned; the program's queue at g is in the state s, the document's at r is in the state t; no block is of both. -/
structure PQ (a w : World) (g mb sg r : Nat) (s t : Qs) : Prop where
  kept : Kp No a w
  ex : ∃ T S, Qu w g mb sg T s ∧ DQ w r S t ∧ (∀ i, QB g mb T i → a.heap.size ≤ i) ∧ (∀ i, S i → a.heap.size ≤ i) ∧ a.heap.size ≤ r ∧ ¬ QB g mb T r ∧ ∀ i, S i → ¬ QB g mb T i
section
variable {a w w' : World} {g mb sg r : Nat} {s s' t t' : Qs}
theorem PQ.kp0 (h : PQ a w g mb sg r s t) (k : Kp No w w') : PQ a w' g mb sg r s t := by
  obtain ⟨T, S, h1, h2, h3⟩ := h.ex
  exact ⟨h.kept.trans k, T, S, h1.kp0 k, h2.kp0 k, h3⟩
theorem PQ.ok (h : PQ a w g mb sg r s t) : QOk s := by
  obtain ⟨T, S, h1, _⟩ := h.ex
  exact h1.ok
theorem QB_trim {T : Nat → Prop} {n i : Nat} (h : QB g mb (fun i => T i ∧ i < n) i) : QB g mb T i := h.imp id fun h => h.imp id fun h => h.1
theorem PQ.prog (h : PQ a w g mb sg r s t) {f : FuncId} {args : Array Value} {v : Value} (hc : ∀ T, Qu w g mb sg T s → Calls Try.prog f args w fun e w' => e = .returned v ∧ OpR w w' g mb sg T s') :
    Calls Try.prog f args w fun e w' => e = .returned v ∧ PQ a w' g mb sg r s' t := by
  obtain ⟨T, S, h1, h2, h3, h4, h5, h6, h7⟩ := h.ex
  refine (hc T h1).mono fun e w' ⟨he, r1, r2⟩ => ⟨he, h.kept.step r1 fun i hi e => absurd (h3 i e) (by omega), _, _, r2, h2.trim.kp r1 h6 fun i _ hS => h7 i hS.1, ?_, fun i hS => h4 i hS.1, h5, ?_, ?_⟩
  · have hs := h.kept.size
    intro i hi
    rcases hi with e | e | e
    · exact h3 i (.inl e)
    · exact h3 i (.inr (.inl e))
    · rcases e.1 with e | e
      · exact h3 i (.inr (.inr e))
      · omega
  · have := h2.lt
    intro e
    rcases e with e | e | e
    · exact h6 (.inl e)
    · exact h6 (.inr (.inl e))
    · rcases e.1 with e | e
      · exact h6 (.inr (.inr e))
      · omega
  · intro i hS e
    rcases e with e | e | e
    · exact h7 i hS.1 (.inl e)
    · exact h7 i hS.1 (.inr (.inl e))
    · rcases e.1 with e | e
      · exact h7 i hS.1 (.inr (.inr e))
      · have := hS.2
        omega
theorem PQ.doc (h : PQ a w g mb sg r s t) {f : FuncId} {args : Array Value} {v : Value} (hc : ∀ S, DQ w r S t → Calls Try.prog f args w fun e w' => e = .returned v ∧ OpD w w' r S t') :
    Calls Try.prog f args w fun e w' => e = .returned v ∧ PQ a w' g mb sg r s t' ∧ Kp (Only r) w w' := by
  obtain ⟨T, S, h1, h2, h3, h4, h5, h6, h7⟩ := h.ex
  have hs := h.kept.size
  have hg := h1.hd.lt
  have hm := h1.mp.lt
  refine (hc S h2).mono fun e w' ⟨he, r1, r2⟩ => ⟨he, ⟨h.kept.step r1 fun i hi e => absurd hi (by have : i = r := e; omega), _, _, h1.trim.only r1 (fun e => h6 (QB_trim e)), r2, fun i hi => h3 i (QB_trim hi), ?_, h5, fun e => h6 (QB_trim e), ?_⟩, r1⟩
  · intro i hS
    rcases hS.1 with e | e
    · exact h4 i e
    · omega
  · intro i hS e
    rcases hS.1 with h8 | h8
    · exact h7 i h8 (QB_trim e)
    · rcases e with e | e | e
      · omega
      · omega
      · omega
theorem PQ.start (h : QI a w g mb sg q0) : PQ a (w.alloc (.cells #[.slice none 0 0, .int .i64 0] 63)) g mb sg w.heap.size q0 q0 := by
  obtain ⟨T, h1, h2⟩ := h.ex
  have k := (Kp.refl No w).alloc (.cells #[.slice none 0 0, .int .i64 0] 63)
  refine ⟨h.kept.trans k, _, fun _ => False, h1.trim.kp0 k, ⟨0, [], ⟨⟨_, Blk.new w _ _, ⟨none, 0, rfl, by simp, by simp, by simp⟩⟩, by simp, fun h => h⟩, Rel.start⟩, fun i hi => h2 i (QB_trim hi), fun _ h => h.elim, h.kept.size, h1.new (Nat.le_refl _), fun _ h => h.elim⟩
theorem PQ.done (h : PQ a w g mb sg r s t) (o : Qo) (hi : I64 o.m.id) :
    Calls Try.prog 39 #[.pointer (some ⟨g, 0, none⟩), .agg #[.int .i64 o.d, .int .i64 o.m.id, .int .i64 o.m.w, .int .i64 o.m.v, .int .i64 o.m.r, .int .i64 o.n]] w fun e w' =>
      e = .returned (.tuple #[.agg #[.int .i64 (doM s o).id, .int .i64 (doM s o).w, .int .i64 (doM s o).v, .int .i64 (doM s o).r], .int .i64 (doE s o)]) ∧ PQ a w' g mb sg r (doS s o) t :=
  h.prog fun _ q => do_any q o hi
theorem PQ.docd (h : PQ a w g mb sg r s t) (q : QOk t) (o : Qo) :
    Calls Try.prog 40 #[.pointer (some ⟨r, 0, none⟩), .agg #[.int .i64 o.d, .int .i64 o.m.id, .int .i64 o.m.w, .int .i64 o.m.v, .int .i64 o.m.r, .int .i64 o.n]] w fun e w' =>
      e = .returned (.tuple #[.agg #[.int .i64 (doM t o).id, .int .i64 (doM t o).w, .int .i64 (doM t o).v, .int .i64 (doM t o).r], .int .i64 (doE t o)]) ∧ PQ a w' g mb sg r s (doS t o) ∧ Kp (Only r) w w' :=
  h.doc fun _ d => doc_any d q o
theorem PQ.base (h : PQ a w g mb sg r s t) : Calls Try.prog 43 #[.pointer (some ⟨g, 0, none⟩)] w fun e w' => e = .returned (.int .i64 s.base) ∧ w' = w := by
  obtain ⟨T, S, h1, _⟩ := h.ex
  exact base_any h1
theorem PQ.all (h : PQ a w g mb sg r s t) : Calls Try.prog 45 #[.pointer (some ⟨g, 0, none⟩)] w fun e w' => ∃ v, e = .returned v ∧ Kp No w w' ∧ Ow w' w.heap.size 67 4 mc v (s.l.map (tl s.base)) := by
  obtain ⟨T, S, h1, _⟩ := h.ex
  exact allq_any h1
theorem PQ.alld (h : PQ a w g mb sg r s t) (q : QOk t) : Calls Try.prog 46 #[.pointer (some ⟨r, 0, none⟩)] w fun e w' => ∃ v, e = .returned v ∧ Kp No w w' ∧ Ow w' w.heap.size 67 4 mc v (t.l.map (tl t.base)) := by
  obtain ⟨T, S, h1, h2, _⟩ := h.ex
  exact all_d h2 q
theorem PQ.get (h : PQ a w g mb sg r s t) {k : Int} (hk : I64 k) : Calls Try.prog 47 #[.pointer (some ⟨g, 0, none⟩), .int .i64 k] w fun e w' => e = .returned (.tuple #[.agg #[.int .i64 (getM s k).id, .int .i64 (getM s k).w, .int .i64 (getM s k).v, .int .i64 (getM s k).r], .bool (getB s k)]) ∧ Kp No w w' := by
  obtain ⟨T, S, h1, _⟩ := h.ex
  unfold getM getB
  cases hf : finM s.l k with
  | none => exact get_none h1 hk hf
  | some y => exact get_some h1 hf
theorem PQ.getd (h : PQ a w g mb sg r s t) (q : QOk t) (k : Int) : Calls Try.prog 48 #[.pointer (some ⟨r, 0, none⟩), .int .i64 k] w fun e w' => e = .returned (.tuple #[.agg #[.int .i64 (getM t k).id, .int .i64 (getM t k).w, .int .i64 (getM t k).v, .int .i64 (getM t k).r], .bool (getB t k)]) ∧ Kp No w w' := by
  obtain ⟨T, S, h1, h2, _⟩ := h.ex
  exact get_d h2 q k
theorem PQ.mean (h : PQ a w g mb sg r s t) {x : Int} {b : Bool} (hm : ∀ (w : World) (g mb sg : Nat) (T : Nat → Prop), Qu w g mb sg T s → Calls Try.prog 41 #[.pointer (some ⟨g, 0, none⟩)] w fun e w' => e = .returned (.tuple #[.int .i64 x, .bool b]) ∧ Kp No w w') :
    Calls Try.prog 41 #[.pointer (some ⟨g, 0, none⟩)] w fun e w' => e = .returned (.tuple #[.int .i64 x, .bool b]) ∧ Kp No w w' := by
  obtain ⟨T, S, h1, _⟩ := h.ex
  exact hm w g mb sg T h1
theorem PQ.meand (h : PQ a w g mb sg r s t) {x : Int} {b : Bool} (hm : ∀ (w : World) (r : Nat) (S : Nat → Prop), DQ w r S t → Calls Try.prog 42 #[.pointer (some ⟨r, 0, none⟩)] w fun e w' => e = .returned (.tuple #[.int .i64 x, .bool b]) ∧ Kp No w w') :
    Calls Try.prog 42 #[.pointer (some ⟨r, 0, none⟩)] w fun e w' => e = .returned (.tuple #[.int .i64 x, .bool b]) ∧ Kp No w w' := by
  obtain ⟨T, S, h1, h2, _⟩ := h.ex
  exact hm w r S h2
/-- The base, as it lies in the document's queue. -/
theorem PQ.bcell (h : PQ a w g mb sg r s t) : w.cell? ⟨r, 1, none⟩ = some (.int .i64 t.base) := by
  obtain ⟨T, S, h1, ⟨b, xs, ⟨⟨v, hb, _⟩, _, _⟩, hr⟩, _⟩ := h.ex
  rw [hr.base]
  exact hb.cell 1
end
end Go.Proofs.Ytpbnmfoecmhnnaa

/-
  The walk of QueuePlays.
-/
namespace Go.Proofs.Ytpbnmfoecmhnnaa
open Go.RowKit

/-- What the comparison reads, and both queues. -/
structure BDP (a : World) (g mb sg r : Nat) (z : Qs) (b9 b11 : Nat) (x : Mb) (w : World) : Prop where
  pq : PQ a w g mb sg r z z
  one : Blk w b9 67 #[.int .i64 x.id, .int .i64 x.w, .int .i64 x.v, .int .i64 x.r]
  two : Blk w b11 67 #[.int .i64 x.id, .int .i64 x.w, .int .i64 x.v, .int .i64 x.r]
section
variable {a w w' : World} {g mb sg r b9 b11 : Nat} {z : Qs} {x : Mb}
theorem BDP.kp0 (h : BDP a g mb sg r z b9 b11 x w) (k : Kp No w w') : BDP a g mb sg r z b9 b11 x w' := ⟨h.pq.kp0 k, h.one.kp0 k, h.two.kp0 k⟩
theorem BDP.all (h : BDP a g mb sg r z b9 b11 x w) : w.cell? ⟨b9, 0, none⟩ = some (.int .i64 x.id) ∧ w.cell? ⟨b9, 1, none⟩ = some (.int .i64 x.w) ∧ w.cell? ⟨b9, 2, none⟩ = some (.int .i64 x.v) ∧ w.cell? ⟨b9, 3, none⟩ = some (.int .i64 x.r) ∧
    w.cell? ⟨b11, 0, none⟩ = some (.int .i64 x.id) ∧ w.cell? ⟨b11, 1, none⟩ = some (.int .i64 x.w) ∧ w.cell? ⟨b11, 2, none⟩ = some (.int .i64 x.v) ∧ w.cell? ⟨b11, 3, none⟩ = some (.int .i64 x.r) ∧ w.cell? ⟨r, 1, none⟩ = some (.int .i64 z.base) ∧ BDP a g mb sg r z b9 b11 x w :=
  ⟨h.one.cell 0, h.one.cell 1, h.one.cell 2, h.one.cell 3, h.two.cell 0, h.two.cell 1, h.two.cell 2, h.two.cell 3, h.pq.bcell, h⟩
theorem BDP.stepc (k : Kp No w w') (h : w.cell? ⟨b9, 0, none⟩ = some (.int .i64 x.id) ∧ w.cell? ⟨b9, 1, none⟩ = some (.int .i64 x.w) ∧ w.cell? ⟨b9, 2, none⟩ = some (.int .i64 x.v) ∧ w.cell? ⟨b9, 3, none⟩ = some (.int .i64 x.r) ∧
    w.cell? ⟨b11, 0, none⟩ = some (.int .i64 x.id) ∧ w.cell? ⟨b11, 1, none⟩ = some (.int .i64 x.w) ∧ w.cell? ⟨b11, 2, none⟩ = some (.int .i64 x.v) ∧ w.cell? ⟨b11, 3, none⟩ = some (.int .i64 x.r) ∧ w.cell? ⟨r, 1, none⟩ = some (.int .i64 z.base) ∧ BDP a g mb sg r z b9 b11 x w) :
    w'.cell? ⟨b9, 0, none⟩ = some (.int .i64 x.id) ∧ w'.cell? ⟨b9, 1, none⟩ = some (.int .i64 x.w) ∧ w'.cell? ⟨b9, 2, none⟩ = some (.int .i64 x.v) ∧ w'.cell? ⟨b9, 3, none⟩ = some (.int .i64 x.r) ∧
    w'.cell? ⟨b11, 0, none⟩ = some (.int .i64 x.id) ∧ w'.cell? ⟨b11, 1, none⟩ = some (.int .i64 x.w) ∧ w'.cell? ⟨b11, 2, none⟩ = some (.int .i64 x.v) ∧ w'.cell? ⟨b11, 3, none⟩ = some (.int .i64 x.r) ∧ w'.cell? ⟨r, 1, none⟩ = some (.int .i64 z.base) ∧ BDP a g mb sg r z b9 b11 x w' :=
  (h.2.2.2.2.2.2.2.2.2.kp0 k).all
end

set_option maxRecDepth 100000 in
set_option maxHeartbeats 4000000 in
theorem queuePlays_walk (w : World) (v : Value) {ops : List Qo} (id : Int) (hv : Rw 6 qc qo0 w Anyb v ops) (hi : ∀ o ∈ ops, I6 o) (hid0 : I64 id) :
    Calls Try.prog 10 #[v, .int .i64 id] w fun e w' => e = .returned (.bool true) ∧ Kp No w w' := by
  have HV := hid hv
  obtain ⟨A, vc, rfl, hc, hm, hr⟩ := hv
  clear hr
  simp only [maxLen] at hm
  have HI := hid hi
  clear hi
  by_cases hlen : 60 < ops.length
  · have hlen' : (60 : Int) < (ops.length : Int) := by omega
    go_enter Try.func10, Try.ntmps10
    go_wp2_with fail
    refine (awakeq_any _).mono ?_
    rintro e w1 ⟨rfl, k1⟩
    have K1 := hid k1
    clear k1
    go_wp2_with fail
    go_ret
    exact ⟨rfl, K1.out⟩
  have hlen' := decide_eq_false (show ¬ (60 : Int) < (ops.length : Int) by omega)
  go_enter Try.func10, Try.ntmps10
  go_wp2_with fail
  refine (awakeq_any _).mono ?_
  rintro e w1 ⟨rfl, k1⟩
  have K1 := hid k1
  clear k1
  go_wp2_with fail
  refine (newQ w1).mono ?_
  rintro e w2 ⟨g, mb, sg, rfl, h1⟩
  have P0 := hid (PQ.start (h1.lower K1.out))
  clear h1
  go_wp2_with fail
  generalize w2.alloc (.cells #[.slice none 0 0, .int .i64 0] 63) = w3 at P0 ⊢
  generalize w2.heap.size = r at P0 ⊢
  go_loopw [8, 9, 10, 11, 12, 13, 14, 15, 16] (fun i _ _ _ _ _ _ _ _ wr => ∃ k : Nat, k ≤ ops.length ∧ i = .int .i64 (k : Int) ∧ Hid (PQ w wr g mb sg r (playQ (ops.take k)) (playQ (ops.take k)))) (fun i _ _ _ _ _ _ _ _ _ => ops.length - (intOf i).toNat)
  case atStart => exact ⟨0, by omega, rfl, by simpa [playQ] using P0⟩
  case round =>
    obtain ⟨k, hk, rfl, H⟩ := hrel
    clear P0
    by_cases hlt : k < ops.length
    · have hki : (k : Int) < (ops.length : Int) := by omega
      have hk0 : ¬ (k : Int) < 0 := by omega
      obtain ⟨ob, oo, hA⟩ := HV.out.there (by omega)
      subst hA
      have CE := hid fun (w' : World) (K : Kp No w w') (i : Nat) (hi : i < 6) => HV.out.cell K hlt (i := i) hi rfl
      have HT := hid (take_at ops qo0 hlt)
      have ho6 := HI.out (ops.getD k qo0) (by simp [List.getD, hlt])
      generalize ops.getD k qo0 = o at CE HT ho6
      have HO := hid ho6
      clear ho6
      have c0 := CE.out _ H.out.kept 0 (by omega)
      have c1 := CE.out _ H.out.kept 1 (by omega)
      have c2 := CE.out _ H.out.kept 2 (by omega)
      have c3 := CE.out _ H.out.kept 3 (by omega)
      have c4 := CE.out _ H.out.kept 4 (by omega)
      have c5 := CE.out _ H.out.kept 5 (by omega)
      simp only [qc, Nat.add_zero] at c0 c1 c2 c3 c4 c5
      rw [← Nat.add_assoc] at c1 c2 c3 c4 c5
      obtain ⟨s, hs⟩ : ∃ s, playQ (ops.take k) = s := ⟨_, rfl⟩
      rw [hs] at H
      have HS := hid (show playQ (ops.take (k + 1)) = doS s o by rw [HT.out, playQ_snoc, hs])
      clear hs HT
      go_wp2_with fail
      refine (H.out.done o HO.out.i).mono ?_
      rintro e w4 ⟨rfl, h4⟩
      obtain ⟨x, hx⟩ : ∃ x, doM s o = x := ⟨_, rfl⟩
      obtain ⟨E, hE⟩ : ∃ E, doE s o = E := ⟨_, rfl⟩
      rw [hx, hE]
      have HX := hid hx
      have HE := hid hE
      have kb := (Kp.refl No w4).alloc (.cells #[.int .i64 x.id, .int .i64 x.w, .int .i64 x.v, .int .i64 x.r] 67)
      have P5 := hid (h4.kp0 kb)
      have B5 := hid (Blk.new w4 67 #[.int .i64 x.id, .int .i64 x.w, .int .i64 x.v, .int .i64 x.r])
      have hrl : Hid (r < w4.heap.size) := hid (by obtain ⟨T, S, _, q2, _⟩ := h4.ex; exact q2.lt)
      have OKS := hid H.out.ok
      clear hx hE h4 kb c0 c1 c2 c3 c4 c5 H
      have c0 := CE.out _ P5.out.kept 0 (by omega)
      have c1 := CE.out _ P5.out.kept 1 (by omega)
      have c2 := CE.out _ P5.out.kept 2 (by omega)
      have c3 := CE.out _ P5.out.kept 3 (by omega)
      have c4 := CE.out _ P5.out.kept 4 (by omega)
      have c5 := CE.out _ P5.out.kept 5 (by omega)
      simp only [qc, Nat.add_zero] at c0 c1 c2 c3 c4 c5
      rw [← Nat.add_assoc] at c1 c2 c3 c4 c5
      go_upto_region 12 with fail
      generalize w4.alloc (.cells #[.int .i64 x.id, .int .i64 x.w, .int .i64 x.v, .int .i64 x.r] 67) = w5 at P5 B5 c0 c1 c2 c3 c4 c5 ⊢
      generalize w4.heap.size = b9 at B5 hrl ⊢
      go_wp2_with fail
      refine (P5.out.docd OKS.out o).mono ?_
      rintro e w6 ⟨rfl, h6, k6⟩
      rw [HX.out, HE.out]
      have b6 := B5.out.kp k6 fun e => by have : b9 = r := e; have := hrl.out; omega
      have kb := (Kp.refl No w6).alloc (.cells #[.int .i64 x.id, .int .i64 x.w, .int .i64 x.v, .int .i64 x.r] 67)
      have P7 := hid (h6.kp0 kb)
      have B7 := hid (b6.kp0 kb)
      have D7 := hid (Blk.new w6 67 #[.int .i64 x.id, .int .i64 x.w, .int .i64 x.v, .int .i64 x.r])
      clear h6 k6 b6 kb c0 c1 c2 c3 c4 c5 P5 B5
      go_upto_region 13 with fail
      generalize w6.alloc (.cells #[.int .i64 x.id, .int .i64 x.w, .int .i64 x.v, .int .i64 x.r] 67) = w7 at P7 B7 D7 ⊢
      generalize w6.heap.size = b11 at D7 ⊢
      obtain ⟨z, hz⟩ : ∃ z, doS s o = z := ⟨_, rfl⟩
      rw [hz] at P7 HS
      have OKZ := hid P7.out.ok
      obtain ⟨ma, mt, m1, m2⟩ := mean_two OKZ.out
      have M1 := hid m1
      have M2 := hid m2
      clear m1 m2 hz HX HE CE
      go_wp2_with fail
      refine (P7.out.mean M1.out).mono ?_
      rintro e w8 ⟨rfl, k8⟩
      have P8 := hid (P7.out.kp0 k8)
      have B8 := hid (B7.out.kp0 k8)
      have D8 := hid (D7.out.kp0 k8)
      clear k8 P7 B7 D7
      go_wp2_with fail
      refine (P8.out.meand M2.out).mono ?_
      rintro e w9 ⟨rfl, k9⟩
      have P9 := hid (P8.out.kp0 k9)
      have B9 := hid (B8.out.kp0 k9)
      have D9 := hid (D8.out.kp0 k9)
      clear k9 P8 B8 D8
      have s0 : (x.id == x.id) = true := by simp
      have s1 : (x.w == x.w) = true := by simp
      have s2 : (x.v == x.v) = true := by simp
      have s3 : (x.r == x.r) = true := by simp
      have s4 : (E == E) = true := by simp
      have s5 : (z.base == z.base) = true := by simp
      have s6 : (ma == ma) = true := by simp
      have s7 : (mt == mt) = true := by simp
      have A10 := (⟨P9.out, B9.out, D9.out⟩ : BDP w g mb sg r z b9 b11 x w9).kp0 (Kp.refl No w9).drew
      have HA10 := hid A10
      have HL := hid (show (z.l.map (tl z.base)).length ≤ 1000000 by have := OKZ.out.len; simp; omega)
      have GB : ¬ r = 0 ∨ True := .inr trivial
      clear GB M1 M2 P9 B9 D9
      go_wp2_with fail
      go_region_held3 (fun w' => w'.cell? ⟨b9, 0, none⟩ = some (.int .i64 x.id) ∧ w'.cell? ⟨b9, 1, none⟩ = some (.int .i64 x.w) ∧ w'.cell? ⟨b9, 2, none⟩ = some (.int .i64 x.v) ∧ w'.cell? ⟨b9, 3, none⟩ = some (.int .i64 x.r) ∧
          w'.cell? ⟨b11, 0, none⟩ = some (.int .i64 x.id) ∧ w'.cell? ⟨b11, 1, none⟩ = some (.int .i64 x.w) ∧ w'.cell? ⟨b11, 2, none⟩ = some (.int .i64 x.v) ∧ w'.cell? ⟨b11, 3, none⟩ = some (.int .i64 x.r) ∧ w'.cell? ⟨r, 1, none⟩ = some (.int .i64 z.base) ∧ BDP w g mb sg r z b9 b11 x w')
        (first | exact A10.all | exact BDP.stepc (by assumption) (by assumption))
        (first
          | (go_at_call 43; refine (HA10.out.pq.base).mono ?_; rintro e w11 ⟨rfl, rfl⟩)
          | (go_at_call 45; refine (HA10.out.pq.all).mono ?_; rintro e w12 ⟨v12, rfl, k12, o12⟩; have O12 := hid o12; have A12 := hid (HA10.out.kp0 k12); clear o12)
          | (go_at_call 46; refine (A12.out.pq.alld OKZ.out).mono ?_; rintro e w13 ⟨v13, rfl, k13, o13⟩; have O13 := hid o13; have O14 := hid (O12.out.kp0 k13); clear o13)
          | (go_at_call 44; refine (sameq_any O14.out.rw O13.out.rw HL.out).mono ?_; rintro e w14 ⟨rfl, k14⟩))
      rename_i hh
      have HF := hid hh.2.2.2.2.2.2.2.2.2.pq
      clear hh
      go_wp2_with fail
      go_roundw
      case rel => exact ⟨k + 1, by omega, by go_num, hid (by rw [HS.out]; exact HF.out)⟩
      case measure => simp [intOf]; omega
    · have hk2 : k = ops.length := by omega
      subst hk2
      rw [List.take_length] at H
      generalize playQ ops = s at H
      have OKS := hid H.out.ok
      obtain ⟨x, hx⟩ : ∃ x, getM s id = x := ⟨_, rfl⟩
      obtain ⟨q, hq⟩ : ∃ q, getB s id = q := ⟨_, rfl⟩
      have HX := hid hx
      have HQ := hid hq
      clear hx hq
      go_wp2_with fail
      refine (H.out.get hid0).mono ?_
      rintro e w4 ⟨rfl, k4⟩
      rw [HX.out, HQ.out]
      have P5 := hid ((H.out.kp0 k4).kp0 ((Kp.refl No w4).alloc (.cells #[.int .i64 x.id, .int .i64 x.w, .int .i64 x.v, .int .i64 x.r] 67)))
      have B5 := hid (Blk.new w4 67 #[.int .i64 x.id, .int .i64 x.w, .int .i64 x.v, .int .i64 x.r])
      clear k4 H
      go_upto_region 18 with fail
      generalize w4.alloc (.cells #[.int .i64 x.id, .int .i64 x.w, .int .i64 x.v, .int .i64 x.r] 67) = w5 at P5 B5 ⊢
      generalize w4.heap.size = b17 at B5 ⊢
      go_wp2_with fail
      refine (P5.out.getd OKS.out id).mono ?_
      rintro e w6 ⟨rfl, k6⟩
      rw [HX.out, HQ.out]
      have K7 := hid (((P5.out.kp0 k6).kp0 ((Kp.refl No w6).alloc (.cells #[.int .i64 x.id, .int .i64 x.w, .int .i64 x.v, .int .i64 x.r] 67))).kept)
      have B7 := hid ((B5.out.kp0 k6).kp0 ((Kp.refl No w6).alloc (.cells #[.int .i64 x.id, .int .i64 x.w, .int .i64 x.v, .int .i64 x.r] 67)))
      have D7 := hid (Blk.new w6 67 #[.int .i64 x.id, .int .i64 x.w, .int .i64 x.v, .int .i64 x.r])
      clear k6 P5 B5
      go_upto_region 19 with fail
      generalize w6.alloc (.cells #[.int .i64 x.id, .int .i64 x.w, .int .i64 x.v, .int .i64 x.r] 67) = w7 at K7 B7 D7 ⊢
      generalize w6.heap.size = b19 at D7 ⊢
      have a0 := B7.out.cell 0
      have a1 := B7.out.cell 1
      have a2 := B7.out.cell 2
      have a3 := B7.out.cell 3
      have e0 := D7.out.cell 0
      have e1 := D7.out.cell 1
      have e2 := D7.out.cell 2
      have e3 := D7.out.cell 3
      simp only [List.getElem?_toArray, List.getElem?_cons_zero, List.getElem?_cons_succ] at a0 a1 a2 a3 e0 e1 e2 e3
      have s0 : (x.id == x.id) = true := by simp
      have s1 : (x.w == x.w) = true := by simp
      have s2 : (x.v == x.v) = true := by simp
      have s3 : (x.r == x.r) = true := by simp
      have s4 : (q == q) = true := by simp
      go_wp2_with fail
      go_ret
      exact ⟨rfl, K7.out⟩
end Go.Proofs.Ytpbnmfoecmhnnaa
