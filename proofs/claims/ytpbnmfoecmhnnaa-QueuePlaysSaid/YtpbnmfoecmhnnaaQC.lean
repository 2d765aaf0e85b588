/-
  Contracts of package queue: rise, Run, Weigh.
-/
import Derived.Test.YtpbnmfoecmhnnaaQB
namespace Go.Proofs.Ytpbnmfoecmhnnaa
open Go.RowKit

section
variable {w w' w1 w2 : World} {g mb sg : Nat} {S T : Nat → Prop} {s s' : Qs}

/-- The base, risen. -/
def riseS (s : Qs) : Qs := ⟨max s.base (head s.base s.l), s.l⟩
theorem head_le {l : List Mb} (hs : Sorted (l.map itM)) (d : Int) {m : Mb} (hm : m ∈ l) : head d l ≤ m.v := by
  cases l with
  | nil => cases hm
  | cons x l =>
    rcases List.mem_cons.1 hm with rfl | hm
    · exact Int.le_refl _
    · unfold Sorted at hs
      rw [List.map_cons, List.pairwise_cons] at hs
      have := hs.1 _ (List.mem_map.2 ⟨m, hm, rfl⟩)
      rw [ltB_iff] at this
      simp only [itM] at this
      simp only [head]
      omega
theorem QOk.rise (h : QOk s) : QOk (riseS s) := by
  have hb := h.b1
  have hb2 := h.b2
  refine ⟨by simp only [riseS]; omega, ?_, fun m hm => ?_, h.ids, h.srt, h.len⟩
  · have : head s.base s.l ≤ 2305843009213693952 := by
      cases hl : s.l with
      | nil => exact hb2
      | cons x l => exact (h.ok x (by rw [hl]; simp)).v2
    simp only [riseS]
    omega
  · have o := h.ok m hm
    have := head_le h.srt s.base hm
    have := o.v1
    exact ⟨o.i1, o.i2, o.w1, o.w2, by simp only [riseS]; omega, o.v2, o.r1, o.r2⟩

set_option maxRecDepth 100000 in
set_option maxHeartbeats 1000000 in
theorem rise_any (h : Qu w g mb sg T s) (hn : s.l ≠ []) :
    Calls Try.prog 78 #[.pointer (some ⟨g, 0, none⟩)] w fun e w' => (∃ v, e = .returned v) ∧ Kp (Only g) w w' ∧ Qu w' g mb sg T (riseS s) := by
  obtain ⟨y, l, hl⟩ := List.exists_cons_of_ne_nil hn
  have hgl := h.hd.lt
  have H := hid h
  have c1 := h.hd.cell 1
  simp at c1
  have hat := at_is h.shf 0 (by rw [hl]; simp) (itM y) (by rw [hl]; rfl)
  have HB := hid h.ok.rise
  have HS := hid (show riseS s = ⟨max s.base y.v, s.l⟩ by simp [riseS, hl, head])
  clear h hn
  go_enter Try.func78, Try.ntmps78
  go_wp2_with fail
  refine hat.mono ?_
  rintro e w1 ⟨rfl, k1⟩
  have HL := hid hl
  clear hat c1 hl
  go_wp2_with fail
  have k2 := k1.alloc (.cells #[.int .i64 (itM y).key, .int .i64 (itM y).id] 24)
  have b2 := Blk.new w1 24 #[.int .i64 (itM y).key, .int .i64 (itM y).id]
  generalize w1.alloc (.cells #[.int .i64 (itM y).key, .int .i64 (itM y).id] 24) = w2 at k2 b2 ⊢
  have hd2 := H.out.hd.kp0 k2
  have q2 := H.out.kp0 k2
  have c2 := hd2.cell 2
  have f2 := hd2.frozen 2
  have x0 := b2.cell 0
  simp [itM] at c2 x0
  have kf : ∀ u, Kp (Only g) w (w2.drew.setCell ⟨g, 2, none⟩ u) := fun u => ((k2.all (S := Only g)).drew).setCell (p := ⟨g, 2, none⟩) (.inl rfl) u
  have qf : ∀ u : Int, max s.base y.v = u → Qu (w2.drew.setCell ⟨g, 2, none⟩ (.int .i64 u)) g mb sg T (riseS s) := fun u hu => by
    have k3 := Kp.set1 g 2 w2.drew (.int .i64 u)
    have q3 := q2.kp0 (Kp.refl No w2).drew
    refine ⟨?_, q3.mp.kp k3 fun e => q3.ne e.symm, q3.shf.kp k3 fun i hi e => q3.tg (by have : i = g := e; rwa [this] at hi), q3.ne, q3.tg, q3.tm, HB.out⟩
    rw [HS.out, hu]
    exact q3.hd.put 2 _
  have KF := hid kf
  have QF := hid qf
  clear hd2 q2 kf qf k2 b2
  rcases Int.lt_trichotomy s.base y.v with hb | hb | hb
  · have e1 : max s.base y.v = y.v := by omega
    have E1 := hid e1
    clear e1
    refine region_tail 10 (by kernel_rfl) (by kernel_rfl) ?_
    simp only [List.take_succ_cons, List.take_zero, List.drop_succ_cons, List.drop_zero]
    repeat still_step
    refine wpStill_nil ?_
    go_wp2_with fail
    exact bodyPost_end (results_none rfl _ _ _) rfl ⟨⟨_, rfl⟩, KF.out _, QF.out _ E1.out⟩
  · have e1 : max s.base y.v = y.v := by omega
    rw [hb] at c2
    clear hb
    have E1 := hid e1
    clear e1
    refine region_tail 10 (by kernel_rfl) (by kernel_rfl) ?_
    simp only [List.take_succ_cons, List.take_zero, List.drop_succ_cons, List.drop_zero]
    repeat still_step
    refine wpStill_nil ?_
    go_wp2_with fail
    exact bodyPost_end (results_none rfl _ _ _) rfl ⟨⟨_, rfl⟩, KF.out _, QF.out _ E1.out⟩
  · have e1 : max s.base y.v = s.base := by omega
    have E1 := hid e1
    clear e1
    refine region_tail 10 (by kernel_rfl) (by kernel_rfl) ?_
    simp only [List.take_succ_cons, List.take_zero, List.drop_succ_cons, List.drop_zero]
    repeat still_step
    refine wpStill_nil ?_
    go_wp2_with fail
    exact bodyPost_end (results_none rfl _ _ _) rfl ⟨⟨_, rfl⟩, KF.out _, QF.out _ E1.out⟩

theorem ranM_ok {b : Int} {m : Mb} (h : Ok b m) {n : Int} (h0 : 0 ≤ n) (hv : (ranM m n).v ≤ 2305843009213693952) : Ok b (ranM m n) := by
  have w1 := h.w1
  have r1 := h.r1
  have v1 := h.v1
  have hq : 0 ≤ (1048576 * n + m.r) / m.w := Int.ediv_nonneg (by omega) (by omega)
  exact ⟨h.i1, h.i2, h.w1, h.w2, by simp only [ranM]; omega, hv, Int.emod_nonneg _ (by omega), Int.emod_lt_of_pos _ (by omega)⟩

set_option maxRecDepth 100000 in
set_option maxHeartbeats 1000000 in
theorem run_none (h : Qu w g mb sg T s) {k : Int} (hk : I64 k) (n : Int) (hf : finM s.l k = none) :
    Calls Try.prog 52 #[.pointer (some ⟨g, 0, none⟩), .int .i64 k, .int .i64 n] w fun e w' => e = .returned (.int .i64 8) ∧ Kp No w w' := by
  have c0 := h.hd.cell 0
  simp at c0
  have hgl := h.hd.lt
  have l1 := h.mp.look_none hk hf
  simp only [ev, mb0] at l1
  clear h hf
  go_enter Try.func52, Try.ntmps52
  go_wp2_with fail
  go_ret
  exact ⟨rfl, (Kp.refl No w).alloc _⟩

set_option maxRecDepth 100000 in
set_option maxHeartbeats 1000000 in
theorem run_arg (h : Qu w g mb sg T s) {k : Int} {m : Mb} (n : Int) (hf : finM s.l k = some m) (hn : n < 0 ∨ 1099511627776 < n) :
    Calls Try.prog 52 #[.pointer (some ⟨g, 0, none⟩), .int .i64 k, .int .i64 n] w fun e w' => e = .returned (.int .i64 1) ∧ Kp No w w' := by
  have c0 := h.hd.cell 0
  simp at c0
  have hgl := h.hd.lt
  obtain rfl := finM_id hf
  have l1 := h.mp.look_some (h.ok.ok m (finM_mem hf)).id64 hf true
  simp only [ev, if_true] at l1
  clear h hf
  rcases (show n < 0 ∨ (0 ≤ n ∧ 1099511627776 < n) by omega) with hn | ⟨hn, hn'⟩
  · go_enter Try.func52, Try.ntmps52
    go_wp2_with fail
    go_ret
    exact ⟨rfl, (Kp.refl No w).alloc _⟩
  · go_enter Try.func52, Try.ntmps52
    go_wp2_with fail
    go_ret
    exact ⟨rfl, (Kp.refl No w).alloc _⟩

set_option maxRecDepth 100000 in
set_option maxHeartbeats 1000000 in
theorem run_is_ (h : Qu w g mb sg T s) {k : Int} {m : Mb} (n : Int) (hf : finM s.l k = some m) (h0 : 0 ≤ n) (h1 : n ≤ 1099511627776) :
    Calls Try.prog 52 #[.pointer (some ⟨g, 0, none⟩), .int .i64 k, .int .i64 n] w fun e w' => e = .returned (.int .i64 (runE s k n)) ∧ OpR w w' g mb sg T (runS s k n) := by
  have c0 := h.hd.cell 0
  simp at c0
  have hgl := h.hd.lt
  have hml := h.mp.lt
  obtain rfl := finM_id hf
  have ok := h.ok.ok m (finM_mem hf)
  have l1 := h.mp.look_some ok.id64 hf true
  simp only [ev, if_true] at l1
  have H := hid h
  have HF := hid hf
  have OK := hid ok
  have k1 := (Kp.refl No w).alloc (.cells #[.int .i64 m.w, .int .i64 m.v, .int .i64 m.r] 123)
  have b1 := Blk.new w 123 #[.int .i64 m.w, .int .i64 m.v, .int .i64 m.r]
  have hc : can m.v m.r m.w = true := can_iff.2 ⟨by have := ok.v1; have := h.ok.b1; omega, ok.v2, ok.r1, by rw [wt_in ok.w1 ok.w2]; exact ok.r2⟩
  have hrun := fun w' => run_is (w := w') (a := (ranM m n).v) (b := (ranM m n).r) (t := n) hc (by rw [wt_in ok.w1 ok.w2, show tk n = n by unfold tk; split <;> (try split) <;> omega]; rfl) (by rw [wt_in ok.w1 ok.w2, show tk n = n by unfold tk; split <;> (try split) <;> omega]; rfl)
  have HR := hid hrun
  have E := hid (show runE s m.id n = if 2305843009213693952 < (ranM m n).v then 6 else 0 by unfold runE; rw [hf]; simp only; rw [if_neg (by omega)])
  have SE := hid (show runE s m.id n = 0 → runS s m.id n = riseS ⟨s.base, insM (remM s.l m.id) (ranM m n)⟩ from fun e => by unfold runS; rw [hf]; simp only; rw [if_pos e]; rfl)
  have SE' := hid (show runE s m.id n ≠ 0 → runS s m.id n = s from fun e => by unfold runS; rw [hf]; simp only; rw [if_neg e])
  have OKM := hid fun (hv : (ranM m n).v ≤ 2305843009213693952) => ranM_ok ok h0 hv
  clear h hf ok hc hrun
  go_enter Try.func52, Try.ntmps52
  go_wp2_with fail
  generalize w.alloc (.cells #[.int .i64 m.w, .int .i64 m.v, .int .i64 m.r] 123) = w1 at k1 b1 ⊢
  clear l1 c0
  refine (HR.out _).mono ?_
  rintro e w2 ⟨rfl, k2⟩
  have K2 := hid (k1.trans k2)
  have B2 := hid (b1.kp0 k2)
  clear k1 k2 b1
  generalize hrm : ranM m n = m' at HR E SE SE' OKM ⊢
  have hid' : m'.id = m.id := by rw [← hrm]; rfl
  have hwe : m'.w = m.w := by rw [← hrm]; rfl
  clear hrm
  have y0 := B2.out.cell 0
  have y1 := B2.out.cell 1
  have y2 := B2.out.cell 2
  simp at y0 y1 y2
  have hlt2 := B2.out.lt
  have k3 := (Kp.refl No w2).alloc (.cells #[.int .i64 m'.v, .int .i64 m'.r] 65)
  have d3 := Blk.new w2 65 #[.int .i64 m'.v, .int .i64 m'.r]
  by_cases hfar : 2305843009213693952 < m'.v
  · have e : runE s m.id n = 6 := by rw [E.out, if_pos hfar]
    go_wp2_with fail
    go_ret
    exact ⟨by rw [e]; rfl, by rw [SE'.out (by omega)]; exact OpR.same H.out (K2.out.trans k3)⟩
  · have e : runE s m.id n = 0 := by rw [E.out, if_neg hfar]
    go_wp2_with fail
    generalize w2.alloc (.cells #[.int .i64 m'.v, .int .i64 m'.r] 65) = w3 at k3 d3 ⊢
    have K3 := hid (K2.out.trans k3)
    have B3 := hid (B2.out.kp0 k3)
    have D3 := hid d3
    have hs2 := K2.out.size
    clear k3 d3 y0 y1 y2
    refine (drop_any (H.out.trim.kp0 K3.out) HF.out).mono ?_
    rintro ed w4 ⟨⟨u, rfl⟩, k4, q4⟩
    have B4 := hid (B3.out.kp k4 (H.out.new (Nat.le_refl _)))
    have D4 := hid (D3.out.kp k4 (H.out.new hs2))
    have K4 := hid k4
    have Q4 := hid q4
    clear k4 q4
    have y0 := B4.out.cell 0
    have z0 := D4.out.cell 0
    have z1 := D4.out.cell 1
    simp at y0 z0 z1
    go_wp2_with fail
    rw [← hid', ← hwe]
    have hnid : finM (remM s.l m.id) m'.id = none := by rw [hid', remM_fin H.out.ok.ids, if_pos rfl]
    have hlen : (remM s.l m.id).length < 4096 := by
      have h1 := remM_len (k := m.id) H.out.ok.ids
      rw [HF.out] at h1
      have := H.out.ok.len
      simp at h1
      omega
    refine (put_any Q4.out m' (OKM.out (by omega)) hnid hlen).mono ?_
    rintro ed w5 ⟨⟨u5, rfl⟩, k5, q5⟩
    have K5 := hid k5
    have Q5 := hid q5
    clear k5 q5
    go_wp2_with fail
    refine (rise_any Q5.out (by intro h0; have := congrArg List.length h0; rw [insM_len (finM_none hnid)] at this; simp at this)).mono ?_
    rintro ed w6 ⟨⟨u6, rfl⟩, k6, q6⟩
    have hs4 := K4.out.size
    have hs3 := K3.out.size
    have R : Hid (OpR w w6 g mb sg T (runS s m.id n)) := hid (by
      rw [SE.out e]
      refine ⟨?_, q6.mono (fun i hi ht => ⟨ht.1.elim (fun h => .inl h.1) fun h => .inr (by omega), hi⟩) (fun h' => h'.1.elim H.out.tg fun x => absurd hgl (by omega)) (fun h' => h'.1.elim H.out.tm fun x => absurd hml (by omega))⟩
      refine ((K3.out.all.trans (K4.out.mono fun i _ h => h.imp id fun h => h.imp id fun h => h.1)).step K5.out fun i _ h => h.imp id fun h => h.imp id fun h => h.1).step k6 fun i _ h => .inl h)
    clear k6 q6
    go_wp2_with fail
    go_ret
    exact ⟨by rw [e]; rfl, R.out⟩
end
end Go.Proofs.Ytpbnmfoecmhnnaa
