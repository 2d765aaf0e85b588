/-
  A queue in memory; contracts of package queue: New, isWeight, isMember, put, drop, tell, Base.
-/
import Derived.Test.YtpbnmfoecmhnnaaQMath
import Derived.Test.YtpbnmfoecmhnnaaQPace
import Derived.Test.YtpbnmfoecmhnnaaTail
namespace Go.Proofs.Ytpbnmfoecmhnnaa
open Go.RowKit

/-- A queue's head at g; its map's block mb, its shelf at sg, both and all else of it in S. -/
structure Qu (w : World) (g mb sg : Nat) (T : Nat → Prop) (s : Qs) : Prop where
  hd : Blk w g 116 #[.map (some mb), .pointer (some ⟨sg, 0, none⟩), .int .i64 s.base]
  mp : Mp w mb s.l
  shf : Shf w sg T (s.l.map itM)
  ne : g ≠ mb
  tg : ¬ T g
  tm : ¬ T mb
  ok : QOk s

section
variable {w w' : World} {g mb sg : Nat} {S T : Nat → Prop} {s s' : Qs}

theorem Qu.kp (h : Qu w g mb sg T s) (k : Kp S w w') (h1 : ¬ S g) (h2 : ¬ S mb) (h3 : ∀ i, i < w.heap.size → T i → ¬ S i) : Qu w' g mb sg (fun i => T i ∧ i < w.heap.size) s :=
  ⟨h.hd.kp k h1, h.mp.kp k h2, (h.shf.mono (T := fun i => T i ∧ i < w.heap.size) fun _ hi ht => ⟨ht, hi⟩).kp k fun i hi => h3 i hi.2 hi.1, h.ne, fun h' => h.tg h'.1, fun h' => h.tm h'.1, h.ok⟩
theorem Qu.kp0 (h : Qu w g mb sg T s) (k : Kp No w w') : Qu w' g mb sg T s :=
  ⟨h.hd.kp0 k, h.mp.kp k fun h => h, h.shf.kp0 k, h.ne, h.tg, h.tm, h.ok⟩
theorem Qu.mono {T' : Nat → Prop} (h : Qu w g mb sg T s) (ht : ∀ i, i < w.heap.size → T i → T' i) (h1 : ¬ T' g) (h2 : ¬ T' mb) : Qu w g mb sg T' s :=
  ⟨h.hd, h.mp, h.shf.mono ht, h.ne, h1, h2, h.ok⟩
theorem QOk.ins {m : Mb} (h : QOk s) (hm : Ok s.base m) (hn : ∀ y ∈ s.l, y.id ≠ m.id) (hl : s.l.length < 4096) : QOk ⟨s.base, insM s.l m⟩ :=
  ⟨h.b1, h.b2, fun x hx => ((insM_mem hn).1 hx).elim (fun e => e ▸ hm) (h.ok x), insM_ids hn h.ids, insM_srt h.srt, by
    have := insM_len hn
    simp only
    omega⟩
theorem QOk.rem {k : Int} (h : QOk s) : QOk ⟨s.base, remM s.l k⟩ :=
  ⟨h.b1, h.b2, fun x hx => h.ok x (remM_mem.1 hx).1, remM_ids h.ids, remM_srt h.srt, Nat.le_trans (List.length_filter_le _ _) h.len⟩
/-- All blocks of a queue. -/
def QB (g mb : Nat) (T : Nat → Prop) : Nat → Prop := fun i => i = g ∨ i = mb ∨ T i

theorem isW_any (x : Int) (w : World) : Calls Try.prog 79 #[.int .i64 x] w fun e w' => e = .returned (.bool (decide (1 ≤ x) && decide (x ≤ 1048576))) ∧ w' = w := by
  by_cases h1 : 1 ≤ x
  · have d1 := decide_eq_true h1
    go_enter Try.func79, Try.ntmps79
    go_wp2
    all_goals go_ret
    all_goals exact ⟨by first | rfl | simp [h1], rfl⟩
  · have d1 := decide_eq_false h1
    go_enter Try.func79, Try.ntmps79
    go_wp2
    all_goals go_ret
    all_goals exact ⟨by first | rfl | simp [h1], rfl⟩

/-- A member as a value: api.Member, and the queue's own. -/
def mv (m : Mb) : Value := .agg #[.int .i64 m.id, .int .i64 m.w, .int .i64 m.v, .int .i64 m.r]

theorem wt_in {x : Int} (h1 : 1 ≤ x) (h2 : x ≤ 1048576) : wt x = x := by unfold wt; split <;> (try split) <;> omega

set_option maxRecDepth 100000 in
theorem isM_any (m : Mb) (w : World) : Calls Try.prog 75 #[.agg #[.int .i64 m.id, .int .i64 m.w, .int .i64 m.v, .int .i64 m.r]] w fun e w' => e = .returned (.bool (isM m)) ∧ Kp No w w' := by
  by_cases h1 : 1 ≤ m.id
  · by_cases h2 : m.id ≤ 1048576
    · by_cases h3 : 1 ≤ m.w ∧ m.w ≤ 1048576
      · have H := hid (show isM m = can m.v m.r m.w by
          unfold isM can
          rw [wt_in h3.1 h3.2]
          simp [h1, h2, h3])
        have Q := hid (show (decide (1 ≤ m.w) && decide (m.w ≤ 1048576)) = true by simp [h3])
        clear h3
        go_enter Try.func75, Try.ntmps75
        go_wp2_with fail
        refine (isW_any m.w _).mono ?_
        rintro e w' ⟨rfl, rfl⟩
        rw [Q.out]
        go_wp2_with fail
        refine (right_any m.v m.r m.w _).mono ?_
        rintro e w' ⟨rfl, k⟩
        rw [← H.out]
        go_wp2_with fail
        go_ret
        exact ⟨rfl, ((Kp.refl No w).alloc _).trans k⟩
      · have H := hid (show isM m = false by
          cases h : isM m with
          | false => rfl
          | true => exact absurd (isM_iff.1 h).2.1 h3)
        have Q := hid (show (decide (1 ≤ m.w) && decide (m.w ≤ 1048576)) = false by
          cases a1 : decide (1 ≤ m.w) <;> cases a2 : decide (m.w ≤ 1048576) <;> first | rfl | exact absurd ⟨of_decide_eq_true a1, of_decide_eq_true a2⟩ h3)
        clear h3
        go_enter Try.func75, Try.ntmps75
        go_wp2_with fail
        refine (isW_any m.w _).mono ?_
        rintro e w' ⟨rfl, rfl⟩
        rw [Q.out]
        go_wp2_with fail
        go_ret
        rw [H.out]
        exact ⟨rfl, (Kp.refl No w).alloc _⟩
    · have H := hid (show isM m = false by unfold isM; simp [h2])
      go_enter Try.func75, Try.ntmps75
      go_wp2_with fail
      go_ret
      rw [H.out]
      exact ⟨rfl, (Kp.refl No w).alloc _⟩
  · have H := hid (show isM m = false by unfold isM; simp [h1])
    go_enter Try.func75, Try.ntmps75
    go_wp2_with fail
    go_ret
    rw [H.out]
    exact ⟨rfl, (Kp.refl No w).alloc _⟩

theorem newq_any (w : World) : Calls Try.prog 38 #[] w fun e w' => ∃ g mb sg T, e = .returned (.pointer (some ⟨g, 0, none⟩)) ∧ Kp No w w' ∧ Qu w' g mb sg T q0 ∧ w.heap.size ≤ g ∧ w.heap.size ≤ mb ∧ (∀ i, T i → w.heap.size ≤ i) := by
  have hmm := @run_makeMap Try.prog
  go_enter Try.func38, Try.ntmps38
  go_wp2_with fail
  have m1 := Mp.new w
  have k1 := (Kp.refl No w).alloc (.map #[] 0)
  generalize w.alloc (.map #[] 0) = w1 at m1 k1 ⊢
  have hl := m1.lt
  refine (New_any w1).mono ?_
  rintro e w2 ⟨rfl, rfl⟩
  have s2 := Shf.new (S := fun i => i = w1.heap.size) w1 rfl
  have k2 := (Kp.refl No w1).alloc (.cells #[.slice none 0 0, .int .i64 0] 97)
  have hz : _ = w1.heap.size + 1 := show (w1.alloc (.cells #[.slice none 0 0, .int .i64 0] 97)).heap.size = w1.heap.size + 1 by simp
  generalize w1.alloc (.cells #[.slice none 0 0, .int .i64 0] 97) = w2 at s2 k2 hz ⊢
  have m2 := m1.kp k2 fun h => h
  go_wp2_with fail
  go_ret
  have k3 := (Kp.refl No w2).alloc (.cells #[.map (some w.heap.size), .pointer (some ⟨w1.heap.size, 0, none⟩), .int .i64 0] 116)
  have hs1 := k1.size
  exact ⟨_, _, _, _, rfl, (k1.trans k2).trans k3, ⟨(Blk.new w2 _ _).next hz, m2.kp k3 fun h => h, s2.kp0 k3, by omega, fun h => by have : w1.heap.size + 1 = w1.heap.size := h; omega, fun h => by have : w.heap.size = w1.heap.size := h; omega,
    ⟨Int.le_refl _, by decide, fun m hm => by (cases hm), List.Pairwise.nil, List.Pairwise.nil, by simp [q0]⟩⟩, by omega, Nat.le_refl _, fun i h => by have : i = w1.heap.size := h; omega⟩

set_option maxRecDepth 100000 in
theorem tell_any (h : Qu w g mb sg T s) (m : Mb) (hm : Ok s.base m) :
    Calls Try.prog 71 #[.pointer (some ⟨g, 0, none⟩), .int .i64 m.id, .agg #[.int .i64 m.w, .int .i64 m.v, .int .i64 m.r]] w fun e w' => e = .returned (.agg #[.int .i64 m.id, .int .i64 m.w, .int .i64 (m.v - s.base), .int .i64 m.r]) ∧ Kp No w w' := by
  have c2 := h.hd.cell 2
  simp at c2
  have hw := wrapI (x := m.v - s.base) (by have := hm.v1; have := hm.v2; have := h.ok.b1; unfold I64; omega)
  have hgl := h.hd.lt
  clear h hm
  go_enter Try.func71, Try.ntmps71
  go_wp2_with fail
  refine region_tail 16 (by kernel_rfl) (by kernel_rfl) ?_
  simp only [List.take_succ_cons, List.take_zero, List.drop_succ_cons, List.drop_zero]
  repeat still_step
  refine wpStill_nil ?_
  go_wp2
  refine bodyPost_ret (v := .agg #[.int .i64 m.id, .int .i64 m.w, .int .i64 (m.v - s.base), .int .i64 m.r]) ?_ rfl ⟨rfl, (((Kp.refl No w).alloc _).alloc _).drew⟩
  rw [results_cell rfl]
  go_simp

set_option maxRecDepth 100000 in
theorem put_any (h : Qu w g mb sg T s) (m : Mb) (hm : Ok s.base m) (hn : finM s.l m.id = none) (hl : s.l.length < 4096) :
    Calls Try.prog 76 #[.pointer (some ⟨g, 0, none⟩), .int .i64 m.id, .agg #[.int .i64 m.w, .int .i64 m.v, .int .i64 m.r]] w fun e w' => (∃ v, e = .returned v) ∧ Kp (QB g mb T) w w' ∧ Qu w' g mb sg (fun i => (T i ∨ w.heap.size ≤ i) ∧ i < w'.heap.size) ⟨s.base, insM s.l m⟩ := by
  have hni := finM_none hn
  have k0 := (Kp.refl No w).alloc (.cells #[.int .i64 m.w, .int .i64 m.v, .int .i64 m.r] 123)
  have b0 := Blk.new w 123 #[.int .i64 m.w, .int .i64 m.v, .int .i64 m.r]
  have q0 := h.kp0 k0
  have hgl := h.hd.lt
  have hml := h.mp.lt
  have hs0 := k0.size
  go_enter Try.func76, Try.ntmps76
  go_wp2_with fail
  generalize w.alloc (.cells #[.int .i64 m.w, .int .i64 m.v, .int .i64 m.r] 123) = w0 at k0 b0 q0 hs0 ⊢
  obtain ⟨w1, hrun, m1, k1⟩ := (q0.mp.kp ((Kp.refl No w0).drew) fun h => h).put (l' := insM s.l m) m hm.id64 (by simp [maxLen]; omega) (by rw [hn]; exact insM_len hni) (insM_fin hni h.ok.ids)
  have c0 := q0.hd.cell 0
  have x0 := b0.cell 0
  have x1 := b0.cell 1
  have x2 := b0.cell 2
  simp at c0 x0 x1 x2
  have H := hid h
  have Q0 := hid q0
  have HM := hid hm
  have M1 := hid m1
  have B0 := hid b0
  unfold ev at hrun
  clear h q0 hm m1 b0
  refine region_tail 6 (by kernel_rfl) (by kernel_rfl) ?_
  simp only [List.take_succ_cons, List.take_zero, List.drop_succ_cons, List.drop_zero]
  repeat still_step
  refine wpStill_nil ?_
  go_wp2_with fail
  have KA := hid (((Kp.refl (Only mb) w0).drew.trans k1).drew)
  have HD := hid (Q0.out.hd.kp KA.out fun e => Q0.out.ne e)
  have SH := hid (Q0.out.shf.kp KA.out fun i hi e => Q0.out.tm (by have : i = mb := e; rwa [this] at hi))
  have M2 := hid (M1.out.kp (Kp.refl No w1).drew fun h => h)
  have B2 := hid (B0.out.kp KA.out fun e => by have : w.heap.size = mb := e; omega)
  clear k1 hrun c0 x0 x1 x2 M1 B0
  have c1 := HD.out.cell 1
  have x1 := B2.out.cell 1
  simp at c1 x1
  refine region_tail 9 (by kernel_rfl) (by kernel_rfl) ?_
  simp only [List.take_succ_cons, List.take_zero, List.drop_succ_cons, List.drop_zero]
  repeat still_step
  refine wpStill_nil ?_
  go_wp2_with fail
  refine (Put_any SH.out (by rw [List.length_map]; omega) (itM m)).mono ?_
  rintro e w2 ⟨rfl, k2, s2⟩
  go_wp2_with fail
  have hs1 := KA.out.size
  refine bodyPost_end (results_none rfl _ _ _) rfl ⟨⟨_, rfl⟩, ?_, HD.out.kp k2 H.out.tg, M2.out.kp k2 H.out.tm, ?_, H.out.ne, fun h => ?_, fun h => ?_, H.out.ok.ins HM.out hni hl⟩
  · exact (k0.all.step KA.out fun i _ e => .inr (.inl e)).step k2 fun i _ e => .inr (.inr e)
  · rw [insM_map hni] at s2
    exact s2.mono fun i hi h => ⟨h.imp id fun h => by omega, hi⟩
  · exact h.1.elim H.out.tg fun h => by omega
  · exact h.1.elim H.out.tm fun h => by omega

set_option maxRecDepth 100000 in
theorem drop_any (h : Qu w g mb sg T s) {k : Int} {m : Mb} (hm : finM s.l k = some m) :
    Calls Try.prog 74 #[.pointer (some ⟨g, 0, none⟩), .int .i64 k, .agg #[.int .i64 m.w, .int .i64 m.v, .int .i64 m.r]] w fun e w' => (∃ v, e = .returned v) ∧ Kp (QB g mb T) w w' ∧ Qu w' g mb sg T ⟨s.base, remM s.l k⟩ := by
  obtain rfl := finM_id hm
  have hmm := finM_mem hm
  have hok := h.ok.ok m hmm
  have k0 := (Kp.refl No w).alloc (.cells #[.int .i64 m.w, .int .i64 m.v, .int .i64 m.r] 123)
  have b0 := Blk.new w 123 #[.int .i64 m.w, .int .i64 m.v, .int .i64 m.r]
  have q0 := h.kp0 k0
  have hgl := h.hd.lt
  have hml := h.mp.lt
  have hs0 := k0.size
  have c0 := h.hd.cell 0
  simp at c0
  obtain ⟨w1, hrun, m1, k1⟩ := q0.mp.del (l' := remM s.l m.id) (x := m.id) hok.id64 (remM_len h.ok.ids) (remM_fin h.ok.ids) 0
  have H := hid h
  have M1 := hid m1
  have KA := hid (k1.drew)
  have HD := hid (q0.hd.kp KA.out fun e => q0.ne e)
  have SH := hid (q0.shf.kp KA.out fun i hi e => q0.tm (by have : i = mb := e; rwa [this] at hi))
  have M2 := hid (M1.out.kp (Kp.refl No w1).drew fun h => h)
  have B2 := hid (b0.kp KA.out fun e => by have : w.heap.size = mb := e; omega)
  have K0 := hid k0
  clear h q0 m1 b0 k0 k1
  go_enter Try.func74, Try.ntmps74
  go_wp2_with fail
  clear hrun c0
  have c1 := HD.out.cell 1
  have x1 := B2.out.cell 1
  simp at c1 x1
  refine region_tail 9 (by kernel_rfl) (by kernel_rfl) ?_
  simp only [List.take_succ_cons, List.take_zero, List.drop_succ_cons, List.drop_zero]
  repeat still_step
  refine wpStill_nil ?_
  go_wp2_with fail
  refine (Drop_any SH.out (itM m)).mono ?_
  rintro e w2 ⟨rfl, k2, s2⟩
  go_wp2_with fail
  refine bodyPost_end (results_none rfl _ _ _) rfl ⟨⟨_, rfl⟩, ?_, HD.out.kp k2 H.out.tg, M2.out.kp k2 H.out.tm, ?_, H.out.ne, H.out.tg, H.out.tm, H.out.ok.rem⟩
  · exact (K0.out.all.step KA.out fun i _ e => .inr (.inl e)).step k2 fun i _ e => .inr (.inr e)
  · rw [remM_map H.out.ok.ids hmm] at s2
    exact s2

theorem base_any (h : Qu w g mb sg T s) :
    Calls Try.prog 43 #[.pointer (some ⟨g, 0, none⟩)] w fun e w' => e = .returned (.int .i64 s.base) ∧ w' = w := by
  have c2 := h.hd.cell 2
  simp at c2
  clear h
  go_enter Try.func43, Try.ntmps43
  go_wp2
  go_ret
  exact ⟨rfl, rfl⟩
end
end Go.Proofs.Ytpbnmfoecmhnnaa
