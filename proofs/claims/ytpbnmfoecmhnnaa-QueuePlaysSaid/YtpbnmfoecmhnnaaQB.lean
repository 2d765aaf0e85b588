/-
  Contracts of package queue: Join, Leave, Run, Weigh, Get.
-/
import Derived.Test.YtpbnmfoecmhnnaaQA
import Derived.Deep.RegionHeld3
namespace Go.Proofs.Ytpbnmfoecmhnnaa
open Go.RowKit

/-- What a call leaves. -/
def OpR (w w' : World) (g mb sg : Nat) (T : Nat → Prop) (s : Qs) : Prop := Kp (QB g mb T) w w' ∧ Qu w' g mb sg (fun i => (T i ∨ w.heap.size ≤ i) ∧ i < w'.heap.size) s

section
variable {w w' w1 w2 : World} {g mb sg : Nat} {S T : Nat → Prop} {s s' : Qs}
theorem OpR.same (h : Qu w g mb sg T s) (k : Kp No w w') : OpR w w' g mb sg T s :=
  ⟨k.all, (h.kp0 k).mono (fun _ hi ht => ⟨.inl ht, hi⟩) (fun h' => h'.1.elim h.tg fun x => absurd h.hd.lt (by omega)) (fun h' => h'.1.elim h.tm fun x => absurd h.mp.lt (by omega))⟩
theorem OpR.pre (h : Qu w g mb sg T s) (k : Kp No w w1) (r : OpR w1 w2 g mb sg T s') : OpR w w2 g mb sg T s' :=
  ⟨k.all.trans r.1, r.2.mono (fun i _ ht => ⟨ht.1.imp id fun h => Nat.le_trans k.size h, ht.2⟩) (fun h' => h'.1.elim h.tg fun x => absurd h.hd.lt (by omega)) (fun h' => h'.1.elim h.tm fun x => absurd h.mp.lt (by omega))⟩
theorem OpR.post (r : OpR w w1 g mb sg T s') (k : Kp No w1 w2) : OpR w w2 g mb sg T s' :=
  ⟨r.1.trans k.all, (r.2.kp0 k).mono (fun _ hi ht => ⟨ht.1, hi⟩) (fun h' => r.2.tg ⟨h'.1, r.2.hd.lt⟩) (fun h' => r.2.tm ⟨h'.1, r.2.mp.lt⟩)⟩

theorem Qu.trim (h : Qu w g mb sg T s) : Qu w g mb sg (fun i => T i ∧ i < w.heap.size) s := h.mono (fun _ hi ht => ⟨ht, hi⟩) (fun h' => h.tg h'.1) (fun h' => h.tm h'.1)
theorem OpR.trim (h : Qu w g mb sg T s) (r : OpR w w' g mb sg (fun i => T i ∧ i < w.heap.size) s') : OpR w w' g mb sg T s' :=
  ⟨r.1.mono fun i _ h => h.imp id fun h => h.imp id fun h => h.1, r.2.mono (fun _ _ ht => ⟨ht.1.imp (fun h => h.1) id, ht.2⟩) (fun h' => h'.1.elim h.tg fun x => absurd h.hd.lt (by omega)) (fun h' => h'.1.elim h.tm fun x => absurd h.mp.lt (by omega))⟩
/-- Blocks that are new when a call begins are none of the queue's. -/
theorem Qu.new (h : Qu w g mb sg T s) {i : Nat} (hi : w.heap.size ≤ i) : ¬ QB g mb (fun i => T i ∧ i < w.heap.size) i := fun e => by
  have := h.hd.lt
  have := h.mp.lt
  rcases e with e | e | e
  · omega
  · omega
  · exact absurd e.2 (by omega)
/-- A call that stays within the queue, seen from a world further back. -/
theorem OpR.of (h : Qu w g mb sg T s) (k : Kp No w w1) (k' : Kp (QB g mb fun i => T i ∧ i < w.heap.size) w1 w2) (q : Qu w2 g mb sg (fun i => T i ∧ i < w.heap.size) s') : OpR w w2 g mb sg T s' :=
  ⟨(k.all.trans k').mono fun i _ h => h.imp id fun h => h.imp id fun h => h.1, q.mono (fun i hi ht => ⟨.inl ht.1, hi⟩) (fun h' => h'.1.elim h.tg fun x => absurd h.hd.lt (by omega)) (fun h' => h'.1.elim h.tm fun x => absurd h.mp.lt (by omega))⟩

theorem Qu.only {p : Nat} (h : Qu w g mb sg T s) (k : Kp (Only p) w w') (hp : ¬ QB g mb T p) : Qu w' g mb sg T s :=
  ⟨h.hd.kp k fun e => hp (.inl (by have : g = p := e; rw [this])), h.mp.kp k fun e => hp (.inr (.inl (by have : mb = p := e; rw [this]))), h.shf.kp k fun i hi e => hp (.inr (.inr (by have : i = p := e; rwa [← this]))), h.ne, h.tg, h.tm, h.ok⟩
theorem kp4 (p : Nat) (w : World) (a b c d : Value) : Kp (Only p) w ((((w.setCell ⟨p, 0, none⟩ a).setCell ⟨p, 1, none⟩ b).setCell ⟨p, 2, none⟩ c).setCell ⟨p, 3, none⟩ d) :=
  ((((Kp.refl (Only p) w).setCell (p := ⟨p, 0, none⟩) (.inl rfl) a).setCell (p := ⟨p, 1, none⟩) (.inl rfl) b).setCell (p := ⟨p, 2, none⟩) (.inl rfl) c).setCell (p := ⟨p, 3, none⟩) (.inl rfl) d
theorem Blk.put4 {p : Nat} {t : TypeId} {x y z u : Value} (h : Blk w p t #[x, y, z, u]) (a b c d : Value) : Blk ((((w.setCell ⟨p, 0, none⟩ a).setCell ⟨p, 1, none⟩ b).setCell ⟨p, 2, none⟩ c).setCell ⟨p, 3, none⟩ d) p t #[a, b, c, d] :=
  (((h.put 0 a).put 1 b).put 2 c).put 3 d

set_option maxRecDepth 100000 in
set_option maxHeartbeats 1000000 in
theorem join_any (h : Qu w g mb sg T s) (m : Mb) (hi : I64 m.id) :
    Calls Try.prog 51 #[.pointer (some ⟨g, 0, none⟩), .agg #[.int .i64 m.id, .int .i64 m.w, .int .i64 m.v, .int .i64 m.r]] w fun e w' => e = .returned (.int .i64 (joinE s m)) ∧ OpR w w' g mb sg T (joinS s m) := by
  have hgl := h.hd.lt
  have hml := h.mp.lt
  have H := hid h
  go_enter Try.func51, Try.ntmps51
  go_wp2_with fail
  have b0 := Blk.new w 67 #[.int .i64 m.id, .int .i64 m.w, .int .i64 m.v, .int .i64 m.r]
  have k0 := (Kp.refl No w).alloc (.cells #[.int .i64 m.id, .int .i64 m.w, .int .i64 m.v, .int .i64 m.r] 67)
  generalize w.alloc (.cells #[.int .i64 m.id, .int .i64 m.w, .int .i64 m.v, .int .i64 m.r] 67) = w0 at b0 k0 ⊢
  refine (isM_any m _).mono ?_
  rintro e w1 ⟨rfl, k1⟩
  have B1 := hid (b0.kp0 k1)
  have K1 := hid (k0.trans k1)
  have Q1 := hid (h.kp0 K1.out)
  clear b0 k0 k1 h
  cases hM : isM m with
  | false =>
    have HM := hid hM
    clear hM
    go_wp2_with fail
    go_ret
    have e : joinE s m = 1 := by unfold joinE; rw [HM.out]; simp
    exact ⟨by rw [e]; rfl, by rw [joinS, e, if_neg (by omega)]; exact OpR.same H.out K1.out⟩
  | true =>
    have HM := hid hM
    clear hM
    have c0 := Q1.out.hd.cell 0
    have x0 := B1.out.cell 0
    have k2 := (Kp.refl No w1).drew
    have k3 := ((Kp.refl No w1).alloc (.cells #[.int .i64 0, .int .i64 0, .int .i64 0] 123)).drew
    simp at c0 x0
    cases hf : finM s.l m.id with
    | some y =>
      have l1 := (Q1.out.kp0 k2).mp.look_some hi hf true
      have l2 := (Q1.out.kp0 k3).mp.look_some hi hf true
      simp only [if_true, ev] at l1 l2
      have HF := hid hf
      clear hf k2 k3
      go_wp2_with fail
      go_region_held3 (fun w' => w'.cell? ⟨g, 0, none⟩ = some (.map (some mb)) ∧ w'.cell? ⟨w.heap.size, 0, none⟩ = some (.int .i64 m.id)) (go_keep) (fail)
      all_goals
        have e : joinE s m = 9 := by unfold joinE; rw [HM.out, HF.out]; simp
        have k4 := hid (((Kp.refl No w1).alloc (.cells #[.int .i64 y.w, .int .i64 y.v, .int .i64 y.r] 123)).drew)
        clear l1 l2 c0 x0
        go_wp2_with fail
        go_ret
        exact ⟨by rw [e]; rfl, by rw [joinS, e, if_neg (by omega)]; exact OpR.same H.out (K1.out.trans k4.out)⟩
    | none =>
      have l1 := (Q1.out.kp0 k2).mp.look_none hi hf
      have l2 := (Q1.out.kp0 k3).mp.look_none hi hf
      simp only [ev, mb0] at l1 l2
      have HF := hid hf
      clear hf k2 k3
      obtain ⟨⟨i1, i2⟩, ⟨j1, j2⟩, ⟨v1, v2⟩, r1, r2⟩ := isM_iff.1 HM.out
      have hb1 := H.out.ok.b1
      have hb2 := H.out.ok.b2
      have hw := wrapI (x := s.base + m.v) (by unfold I64; omega)
      have E : Hid (joinE s m = if 4096 ≤ s.l.length then 7 else if 2305843009213693952 < s.base + m.v then 6 else 0) := hid (by unfold joinE; rw [HM.out, HF.out]; simp)
      have OKM : Hid (s.base + m.v ≤ 2305843009213693952 → Ok s.base (far s.base m)) := hid fun h => ⟨i1, i2, j1, j2, by simp only [far]; omega, h, r1, r2⟩
      clear i1 i2 j1 j2 v1 v2 r1 r2 hb1 hb2
      go_wp2_with fail
      go_region_held3 (fun w' => w'.cell? ⟨g, 0, none⟩ = some (.map (some mb)) ∧ w'.cell? ⟨w.heap.size, 0, none⟩ = some (.int .i64 m.id)) (go_keep) (fail)
      all_goals
        have k4 := ((Kp.refl No w1).alloc (.cells #[.int .i64 0, .int .i64 0, .int .i64 0] 123)).drew
        clear l1 l2 c0 x0
        generalize (w1.alloc (.cells #[.int .i64 0, .int .i64 0, .int .i64 0] 123)).drew = w4 at k4 ⊢
        have K4 := hid (K1.out.trans k4)
        have B4 := hid (B1.out.kp0 k4)
        have Q4 := hid (H.out.kp0 K4.out)
        clear k4
        have c0 := Q4.out.hd.cell 0
        have c2 := Q4.out.hd.cell 2
        have x0 := B4.out.cell 0
        have x1 := B4.out.cell 1
        have x2 := B4.out.cell 2
        have x3 := B4.out.cell 3
        have hl := fun ty => Q4.out.mp.len ty
        simp at c0 c2 x0 x1 x2 x3
        by_cases hfull : 4096 ≤ s.l.length
        · have e : joinE s m = 7 := by rw [E.out, if_pos hfull]
          go_wp2_with fail
          go_ret
          exact ⟨by rw [e]; rfl, by rw [joinS, e, if_neg (by omega)]; exact OpR.same H.out K4.out⟩
        · have E : Hid (joinE s m = if 2305843009213693952 < s.base + m.v then 6 else 0) := hid (by rw [E.out, if_neg hfull])
          have hfi : ¬ (4096 : Int) ≤ (s.l.length : Int) := by omega
          go_wp2_with fail
          go_region_held3 (fun w' => w'.cell? ⟨g, 2, none⟩ = some (.int .i64 s.base) ∧ w'.cell? ⟨w.heap.size, 2, none⟩ = some (.int .i64 m.v) ∧ w'.cell? ⟨w.heap.size, 3, none⟩ = some (.int .i64 m.r)) (go_keep) (fail)
          all_goals
            have k5 := ((Kp.refl No w4).alloc (.cells #[.int .i64 (s.base + m.v), .int .i64 m.r] 65)).drew
            have b5 := (Blk.new w4 65 #[.int .i64 (s.base + m.v), .int .i64 m.r]).kp0 (Kp.refl No _).drew
            clear c0 c2 x0 x1 x2 x3 hl hfi
            generalize (w4.alloc (.cells #[.int .i64 (s.base + m.v), .int .i64 m.r] 65)).drew = w5 at k5 b5 ⊢
            have K5 := hid (K4.out.trans k5)
            have B5 := hid (B4.out.kp0 k5)
            have D5 := hid b5
            have Q5 := hid (H.out.kp0 K5.out)
            clear k5 b5
            have x0 := B5.out.cell 0
            have x1 := B5.out.cell 1
            have y0 := D5.out.cell 0
            have y1 := D5.out.cell 1
            simp at x0 x1 y0 y1
            by_cases hfar : 2305843009213693952 < s.base + m.v
            · have e : joinE s m = 6 := by rw [E.out, if_pos hfar]
              go_wp2_with fail
              go_ret
              exact ⟨by rw [e]; rfl, by rw [joinS, e, if_neg (by omega)]; exact OpR.same H.out K5.out⟩
            · have e : joinE s m = 0 := by rw [E.out, if_neg hfar]
              go_wp2_with fail
              refine (put_any Q5.out (far s.base m) (OKM.out (by omega)) HF.out (by omega)).mono ?_
              rintro ed w6 ⟨⟨u, rfl⟩, k6, q6⟩
              go_wp2_with fail
              go_ret
              exact ⟨by rw [e]; rfl, by rw [joinS, e, if_pos rfl]; exact OpR.pre H.out K5.out ⟨k6, q6⟩⟩

set_option maxRecDepth 100000 in
set_option maxHeartbeats 1000000 in
theorem leave_some (h : Qu w g mb sg T s) {k : Int} {m : Mb} (hf : finM s.l k = some m) :
    Calls Try.prog 50 #[.pointer (some ⟨g, 0, none⟩), .int .i64 k] w fun e w' => e = .returned (.tuple #[.agg #[.int .i64 m.id, .int .i64 m.w, .int .i64 (m.v - s.base), .int .i64 m.r], .int .i64 0]) ∧ OpR w w' g mb sg T ⟨s.base, remM s.l k⟩ := by
  have hgl := h.hd.lt
  have hml := h.mp.lt
  have H := hid h
  have c0 := h.hd.cell 0
  simp at c0
  obtain rfl := finM_id hf
  have hok := h.ok.ok m (finM_mem hf)
  have k1 := (Kp.refl No w).alloc (.cells #[.int .i64 0, .int .i64 0, .int .i64 0, .int .i64 0] 67)
  have l1 := (h.kp0 k1).mp.look_some hok.id64 hf true
  simp only [if_true, ev] at l1
  have k2 := k1.alloc (.cells #[.int .i64 m.w, .int .i64 m.v, .int .i64 m.r] 123)
  have b1 := (Blk.new w 67 #[.int .i64 0, .int .i64 0, .int .i64 0, .int .i64 0]).kp0 ((Kp.refl No _).alloc (.cells #[.int .i64 m.w, .int .i64 m.v, .int .i64 m.r] 123))
  have b2 := (Blk.new (w.alloc (.cells #[.int .i64 0, .int .i64 0, .int .i64 0, .int .i64 0] 67)) 123 #[.int .i64 m.w, .int .i64 m.v, .int .i64 m.r]).next (h := w.heap.size + 1) (by simp)
  have hz : _ = w.heap.size + 2 := show ((w.alloc (.cells #[.int .i64 0, .int .i64 0, .int .i64 0, .int .i64 0] 67)).alloc (.cells #[.int .i64 m.w, .int .i64 m.v, .int .i64 m.r] 123)).heap.size = w.heap.size + 2 by simp
  have HF := hid hf
  have OK := hid hok
  clear h hf hok k1
  go_enter Try.func50, Try.ntmps50
  go_wp2_with fail
  generalize (w.alloc (.cells #[.int .i64 0, .int .i64 0, .int .i64 0, .int .i64 0] 67)).alloc (.cells #[.int .i64 m.w, .int .i64 m.v, .int .i64 m.r] 123) = w2 at k2 b1 b2 hz ⊢
  have K2 := hid k2
  have B1 := hid b1
  have B2 := hid b2
  have Q2 := hid (H.out.trim.kp0 k2)
  clear k2 b1 b2 c0 l1
  refine (drop_any Q2.out HF.out).mono ?_
  rintro e w3 ⟨⟨u, rfl⟩, k3, q3⟩
  have B1 := hid (B1.out.kp k3 (H.out.new (Nat.le_refl _)))
  have B2 := hid (B2.out.kp k3 (H.out.new (by omega)))
  have K3 := hid k3
  have Q3 := hid q3
  clear k3 q3
  have x0 := B2.out.cell 0
  have x1 := B2.out.cell 1
  have x2 := B2.out.cell 2
  simp at x0 x1 x2
  go_wp2_with fail
  refine (tell_any Q3.out m OK.out).mono ?_
  rintro e w4 ⟨rfl, k4⟩
  have b4 := B1.out.kp0 k4
  have f0 := b4.frozen 0
  have f1 := b4.frozen 1
  have f2 := b4.frozen 2
  have f3 := b4.frozen 3
  have c0 := b4.cell 0
  have c1 := b4.cell 1
  have c2 := b4.cell 2
  have c3 := b4.cell 3
  simp at c0 c1 c2 c3
  have q4 := Q3.out.kp0 k4
  have kf := kp4 w.heap.size w4 (.int .i64 m.id) (.int .i64 m.w) (.int .i64 (m.v - s.base)) (.int .i64 m.r)
  have bf := b4.put4 (.int .i64 m.id) (.int .i64 m.w) (.int .i64 (m.v - s.base)) (.int .i64 m.r)
  have QF := hid (q4.only kf (H.out.new (Nat.le_refl _)))
  have KF := hid ((K2.out.all.trans K3.out).trans k4.all |>.step kf fun i hi e => absurd hi (by have : i = w.heap.size := e; omega))
  go_wp2_with fail
  generalize (((w4.setCell ⟨w.heap.size, 0, none⟩ (.int .i64 m.id)).setCell ⟨w.heap.size, 1, none⟩ (.int .i64 m.w)).setCell ⟨w.heap.size, 2, none⟩ (.int .i64 (m.v - s.base))).setCell ⟨w.heap.size, 3, none⟩ (.int .i64 m.r) = wf at bf QF KF ⊢
  have e0 := bf.cell 0
  have e1 := bf.cell 1
  have e2 := bf.cell 2
  have e3 := bf.cell 3
  simp at e0 e1 e2 e3
  exact bodyPost_ret (v := .tuple #[.agg #[.int .i64 m.id, .int .i64 m.w, .int .i64 (m.v - s.base), .int .i64 m.r], .int .i64 0]) (by simp [results, Try.results50, go_sem, e0, e1, e2, e3]) rfl ⟨rfl, OpR.of H.out (Kp.refl No w) KF.out QF.out⟩

set_option maxRecDepth 100000 in
theorem leave_none (h : Qu w g mb sg T s) {k : Int} (hk : I64 k) (hf : finM s.l k = none) :
    Calls Try.prog 50 #[.pointer (some ⟨g, 0, none⟩), .int .i64 k] w fun e w' => e = .returned (.tuple #[.agg #[.int .i64 0, .int .i64 0, .int .i64 0, .int .i64 0], .int .i64 8]) ∧ Kp No w w' := by
  have c0 := h.hd.cell 0
  simp at c0
  have hgl := h.hd.lt
  have l1 := (h.kp0 ((Kp.refl No w).alloc (.cells #[.int .i64 0, .int .i64 0, .int .i64 0, .int .i64 0] 67))).mp.look_none hk hf
  simp only [ev, mb0] at l1
  clear h hf
  go_enter Try.func50, Try.ntmps50
  go_wp2_with fail
  exact bodyPost_ret (v := .tuple #[.agg #[.int .i64 0, .int .i64 0, .int .i64 0, .int .i64 0], .int .i64 8]) (by simp [results, Try.results50, go_sem]) rfl ⟨rfl, ((Kp.refl No w).alloc _).alloc _⟩

set_option maxRecDepth 100000 in
set_option maxHeartbeats 1000000 in
theorem get_some (h : Qu w g mb sg T s) {k : Int} {m : Mb} (hf : finM s.l k = some m) :
    Calls Try.prog 47 #[.pointer (some ⟨g, 0, none⟩), .int .i64 k] w fun e w' => e = .returned (.tuple #[.agg #[.int .i64 m.id, .int .i64 m.w, .int .i64 (m.v - s.base), .int .i64 m.r], .bool true]) ∧ Kp No w w' := by
  have hgl := h.hd.lt
  have c0 := h.hd.cell 0
  simp at c0
  obtain rfl := finM_id hf
  have hok := h.ok.ok m (finM_mem hf)
  have k1 := (Kp.refl No w).alloc (.cells #[.int .i64 0, .int .i64 0, .int .i64 0, .int .i64 0] 67)
  have l1 := (h.kp0 k1).mp.look_some hok.id64 hf true
  simp only [if_true, ev] at l1
  have k2 := k1.alloc (.cells #[.int .i64 m.w, .int .i64 m.v, .int .i64 m.r] 123)
  have b1 := (Blk.new w 67 #[.int .i64 0, .int .i64 0, .int .i64 0, .int .i64 0]).kp0 ((Kp.refl No _).alloc (.cells #[.int .i64 m.w, .int .i64 m.v, .int .i64 m.r] 123))
  have Q2 := hid (h.kp0 k2)
  have OK := hid hok
  clear h hf hok k1
  go_enter Try.func47, Try.ntmps47
  go_wp2_with fail
  generalize (w.alloc (.cells #[.int .i64 0, .int .i64 0, .int .i64 0, .int .i64 0] 67)).alloc (.cells #[.int .i64 m.w, .int .i64 m.v, .int .i64 m.r] 123) = w2 at k2 b1 Q2 ⊢
  have K2 := hid k2
  have B1 := hid b1
  clear k2 b1 c0 l1
  refine (tell_any Q2.out m OK.out).mono ?_
  rintro e w4 ⟨rfl, k4⟩
  have b4 := B1.out.kp0 k4
  have f0 := b4.frozen 0
  have f1 := b4.frozen 1
  have f2 := b4.frozen 2
  have f3 := b4.frozen 3
  have c0 := b4.cell 0
  have c1 := b4.cell 1
  have c2 := b4.cell 2
  have c3 := b4.cell 3
  simp at c0 c1 c2 c3
  have kf := kp4 w.heap.size w4 (.int .i64 m.id) (.int .i64 m.w) (.int .i64 (m.v - s.base)) (.int .i64 m.r)
  have bf := b4.put4 (.int .i64 m.id) (.int .i64 m.w) (.int .i64 (m.v - s.base)) (.int .i64 m.r)
  have KF := hid ((K2.out.trans k4).step kf fun i hi e => absurd hi (by have : i = w.heap.size := e; omega))
  go_wp2_with fail
  generalize (((w4.setCell ⟨w.heap.size, 0, none⟩ (.int .i64 m.id)).setCell ⟨w.heap.size, 1, none⟩ (.int .i64 m.w)).setCell ⟨w.heap.size, 2, none⟩ (.int .i64 (m.v - s.base))).setCell ⟨w.heap.size, 3, none⟩ (.int .i64 m.r) = wf at bf KF ⊢
  have e0 := bf.cell 0
  have e1 := bf.cell 1
  have e2 := bf.cell 2
  have e3 := bf.cell 3
  simp at e0 e1 e2 e3
  exact bodyPost_ret (v := .tuple #[.agg #[.int .i64 m.id, .int .i64 m.w, .int .i64 (m.v - s.base), .int .i64 m.r], .bool true]) (by simp [results, Try.results47, go_sem, e0, e1, e2, e3]) rfl ⟨rfl, KF.out⟩

set_option maxRecDepth 100000 in
theorem get_none (h : Qu w g mb sg T s) {k : Int} (hk : I64 k) (hf : finM s.l k = none) :
    Calls Try.prog 47 #[.pointer (some ⟨g, 0, none⟩), .int .i64 k] w fun e w' => e = .returned (.tuple #[.agg #[.int .i64 0, .int .i64 0, .int .i64 0, .int .i64 0], .bool false]) ∧ Kp No w w' := by
  have c0 := h.hd.cell 0
  simp at c0
  have hgl := h.hd.lt
  have l1 := (h.kp0 ((Kp.refl No w).alloc (.cells #[.int .i64 0, .int .i64 0, .int .i64 0, .int .i64 0] 67))).mp.look_none hk hf
  simp only [ev, mb0] at l1
  clear h hf
  go_enter Try.func47, Try.ntmps47
  go_wp2_with fail
  exact bodyPost_ret (v := .tuple #[.agg #[.int .i64 0, .int .i64 0, .int .i64 0, .int .i64 0], .bool false]) (by simp [results, Try.results47, go_sem]) rfl ⟨rfl, ((Kp.refl No w).alloc _).alloc _⟩
end
end Go.Proofs.Ytpbnmfoecmhnnaa
