/-
  Contract of package queue: Mean, of members that are near.
-/
import Derived.Test.YtpbnmfoecmhnnaaQMean
namespace Go.Proofs.Ytpbnmfoecmhnnaa
open Go.RowKit Go.Shelf

attribute [local go_sem] Oper.semAt_some

section
variable {w w' w1 w2 : World} {g mb sg : Nat} {S T : Nat → Prop} {s s' : Qs} {l : List Mb}

theorem last_le {l : List Mb} (hs : Sorted (l.map itM)) {p : Nat} (hp : l.length = p + 1) {m : Mb} (hm : m ∈ l) : m.v ≤ (l.getD p mb0).v := by
  obtain ⟨i, hi, rfl⟩ := List.getElem_of_mem hm
  have e : l.getD p mb0 = l[p]'(by omega) := by simp [List.getD, show p < l.length by omega]
  rw [e]
  by_cases h : i = p
  · subst h; exact Int.le_refl _
  · unfold Sorted at hs
    have := (List.pairwise_iff_getElem.1 hs) i p (by simp; omega) (by simp; omega) (by omega)
    rw [ltB_iff] at this
    simp only [List.getElem_map, itM] at this
    omega

@[go_sem] theorem field_weight (x y z : Value) (w : World) : (Instr.field 123 (.agg #[x, y, z]) 0).run Try.prog w = .ok x w := by kernel_rfl

/-- Between two rounds of Mean. -/
def MQ (w : World) (q M g : Nat) (s : Qs) (O : Nat → Prop) (pre : List (Nat × It)) (W : World) : Prop :=
  Kp No w W ∧ Blk W q 58 #[.pointer (some ⟨g, 0, none⟩)] ∧ Blk W M 119 #[.int .i64 s.base, .complex .f64 (fl (Wq (s.l.take pre.length))) (fl (Pq s.base (s.l.take pre.length)))] ∧ (∀ k, O k → M + 1 < k ∧ k < W.heap.size) ∧ M + 1 < W.heap.size
theorem MQ.ab (w : World) (q M g : Nat) (s : Qs) (hq : w.heap.size ≤ q) (hM : q < M) : AbO (MQ w q M g s) := by
  rintro O O' pre W W' ⟨h1, h2, h4, h7, h8⟩ hk hO
  have hs := hk.size
  refine ⟨h1.step hk fun i hi e => absurd (h7 i e).1 (by omega), h2.kp hk (fun e => absurd (h7 _ e).1 (by omega)), h4.kp hk (fun e => absurd (h7 _ e).1 (by omega)), fun k e => ?_, by omega⟩
  rcases hO k e with e | e
  · have := h7 k e
    omega
  · omega
/-- What a round's region reads. -/
def RdM (q M g mb bx : Nat) (b : Int) (x z : Nat) (y : Mb) (w' : World) : Prop :=
  w'.cell? ⟨M, 0, none⟩ = some (.int .i64 b) ∧ w'.cell? ⟨M, 1, none⟩ = some (.complex .f64 x z) ∧ w'.cell? ⟨bx, 0, none⟩ = some (.int .i64 y.v) ∧ w'.cell? ⟨bx, 1, none⟩ = some (.int .i64 y.id) ∧ w'.cell? ⟨q, 0, none⟩ = some (.pointer (some ⟨g, 0, none⟩)) ∧ w'.cell? ⟨g, 0, none⟩ = some (.map (some mb)) ∧
    (Instr.lookup 114 (.map (some mb)) (.int .i64 y.id) false).run Try.prog w' = .ok (.agg #[.int .i64 y.w, .int .i64 y.v, .int .i64 y.r]) w'

/-- The blocks that it reads. -/
structure RBM (q M g mb sg bx : Nat) (T : Nat → Prop) (s : Qs) (x z : Nat) (y : Mb) (w' : World) : Prop where
  b0 : Blk w' q 58 #[.pointer (some ⟨g, 0, none⟩)]
  bm : Blk w' M 119 #[.int .i64 s.base, .complex .f64 x z]
  bx : Blk w' bx 24 #[.int .i64 y.v, .int .i64 y.id]
  qu : Qu w' g mb sg T s
theorem RBM.kp0 {q M g mb sg bx x z : Nat} {y : Mb} (h : RBM q M g mb sg bx T s x z y w) (k : Kp No w w') : RBM q M g mb sg bx T s x z y w' :=
  ⟨h.b0.kp0 k, h.bm.kp0 k, h.bx.kp0 k, h.qu.kp0 k⟩
theorem RBM.rd {q M g mb sg bx x z : Nat} {y : Mb} (h : RBM q M g mb sg bx T s x z y w) (hy : y ∈ s.l) : RdM q M g mb bx s.base x z y w := by
  have c0 := h.bm.cell 0
  have c1 := h.bm.cell 1
  have c2 := h.b0.cell 0
  have x0 := h.bx.cell 0
  have x1 := h.bx.cell 1
  have cg := h.qu.hd.cell 0
  have lk := h.qu.mp.look_some (h.qu.ok.ok y hy).id64 (finM_of h.qu.ok.ids hy) false
  simp [ev] at lk
  exact ⟨by simpa using c0, by simpa using c1, by simpa using x0, by simpa using x1, by simpa using c2, by simpa using cg, lk⟩

set_option maxRecDepth 100000 in
set_option maxHeartbeats 8000000 in
theorem mean_ok (h : Qu w g mb sg T s) {p : Nat} (hp : s.l.length = p + 1) {y : Mb} (hy : s.l.getD p mb0 = y) (hnear : y.v - s.base ≤ 1048576) {m : Int} (hm : mean s.base (Wq s.l) (Pq s.base s.l) = m) :
    Calls Try.prog 41 #[.pointer (some ⟨g, 0, none⟩)] w fun e w' => e = .returned (.tuple #[.int .i64 m, .bool true]) ∧ Kp No w w' := by
  have hgl := h.hd.lt
  have H := hid h
  have RS := hid fun w' => RM1.start (w' := w') h
  have k1 := (Kp.refl No w).alloc (.cells #[.pointer (some ⟨g, 0, none⟩)] 58)
  have K1 := hid k1
  have B1 := hid (Blk.new w 58 #[.pointer (some ⟨g, 0, none⟩)])
  obtain ⟨N, hN⟩ : ∃ N : Int, ((s.l.length : Nat) : Int) = N := ⟨_, rfl⟩
  have LEN : Hid (∀ w' (_ : Kp No (w.alloc (.cells #[.pointer (some ⟨g, 0, none⟩)] 58)) w'), Calls Try.prog 24 #[.pointer (some ⟨sg, 0, none⟩)] w' fun e w'' => e = .returned (.int .i64 N) ∧ w' = w'') := hid fun w' k => by rw [← hN]; exact len_is (H.out.kp0 (k1.trans k)).shf (by simp)
  have fN : IntKind.i64.wrap (N - 1) = (p : Int) := by rw [← hN, hp]; rw [show (((p + 1 : Nat) : Int) - 1) = (p : Int) by omega]; exact wrapI (by have := h.ok.len; unfold I64; omega)
  have AT : Hid (∀ w' (_ : Kp No (w.alloc (.cells #[.pointer (some ⟨g, 0, none⟩)] 58)) w'), Calls Try.prog 27 #[.pointer (some ⟨sg, 0, none⟩), .int .i64 (p : Int)] w' fun e w'' => e = .returned (.tuple #[.agg #[.int .i64 y.v, .int .i64 y.id], .bool true]) ∧ Kp No w' w'') := hid fun w' k => at_is (H.out.kp0 (k1.trans k)).shf p (by simp; omega) (itM y) (by rw [← hy]; simp [List.getD, show p < s.l.length by omega])
  have hb1 := h.ok.b1
  have hyo := h.ok.ok y (by rw [← hy]; exact getD_mem (by omega))
  have hb2 := hyo.v1
  have hb3 := hyo.v2
  have flag : IntKind.i64.wrap (y.v - s.base) = y.v - s.base := wrapI (by unfold I64; omega)
  have NR := hid fun (x : Mb) (hx : x ∈ s.l) => show Nr s.base x from by
    have o := h.ok.ok x hx
    have := last_le h.ok.srt hp hx
    rw [hy] at this
    have := o.v1
    exact ⟨o.w1, o.w2, by omega, by omega⟩
  have hnn : ¬ 1048576 < y.v - s.base := by omega
  have MC : Hid (∀ w : World, Calls Try.prog 70 #[.agg #[.int .i64 s.base, .complex .f64 (fl (Wq s.l)) (fl (Pq s.base s.l))]] w fun e w' => e = .returned (.int .i64 m) ∧ Kp No w w') := hid fun w => by
    have hbd := near_bd NR.out
    have hl4 := h.ok.len
    have := h.ok.b2
    exact mean_is hm (by omega) ⟨by omega, by omega⟩ ⟨by omega, by omega⟩ (by omega) (by omega)
  clear h k1 hN hyo hb1 hb2 hb3 hm
  refine (callsIn_wide (n := 5)).1 ?_
  refine callsIn_of_wp_marks Try.func41 rfl trivial ?_ rfl
  simp only [Try.ntmps41, List.size_toArray, List.length_cons, List.length_nil, Nat.reduceAdd, Nat.reduceSub, Array.replicate_succ, Array.replicate_zero, List.push_toArray, List.append_toArray, List.nil_append, List.cons_append]
  refine wpIn_wide.2 ?_
  go_wp2_with fail
  go_region_held3 (fun w' => w'.cell? ⟨w.heap.size, 0, none⟩ = some (.pointer (some ⟨g, 0, none⟩)) ∧ w'.cell? ⟨g, 1, none⟩ = some (.pointer (some ⟨sg, 0, none⟩)) ∧ Kp No (w.alloc (.cells #[.pointer (some ⟨g, 0, none⟩)] 58)) w')
    (first | exact RS.out _ (Kp.refl No _).drew | exact RS.out _ ((Kp.refl No _).alloc _).drew | exact RS.out _ (by assumption) | exact RS.out _ (RM1.alloc (by assumption) _) | exact RS.out _ (RM1.at (by assumption) _) | exact RS.out _ (RM1.put (by assumption) (by simp) _ _))
    (first
    | (go_at_call 24; refine (LEN.out _ (And.right (And.right (by assumption)))).mono ?_; rintro e w5 ⟨rfl, rfl⟩)
    | (go_at_call 27; refine (AT.out _ (And.right (And.right (by assumption)))).mono ?_; rintro e w5 ⟨rfl, k5⟩; have KA := hid (Kp.trans (And.right (And.right (by assumption))) k5); first | (have hb := RM1.blk k5; obtain ⟨BI, fI0, fI1, lI, cI0, cI1⟩ := hb) | (have hb := RM1.blk2 k5; obtain ⟨BI, fI0, fI1, lI, cI0, cI1⟩ := hb) | skip))
  · rename_i hh
    have KX := hid (K1.out.trans hh.2.2)
    have KY := hid hh.2.2
    have BX := hid (Blk.new w5 24 #[.int .i64 y.v, .int .i64 y.id])
    clear hh KA k5
    generalize w5.alloc (.cells #[.int .i64 y.v, .int .i64 y.id] 24) = wx at KX KY BX ⊢
    generalize w5.heap.size = ax at BX ⊢
    have c0 := (H.out.kp0 KX.out).hd.cell 2
    have c1 := BX.out.cell 0
    have c2 := (RS.out _ KY.out).1
    simp at c0 c1
    go_wp2_with fail
    go_quiet (fail)
    go_wp2_with fail
    refine (new_any s.base _).mono ?_
    rintro e w6 ⟨rfl, k6⟩
    have K6 := hid ((KY.out.drewN _).trans k6)
    clear k6 c0 c1 c2 BX
    have k7 := K6.out.alloc (.cells #[.int .i64 s.base, .complex .f64 (fl 0) (fl 0)] 119)
    obtain ⟨d1, d2, _⟩ := RS.out _ k7
    have K7 := hid k7
    have B7 := hid (Blk.new w6 119 #[.int .i64 s.base, .complex .f64 (fl 0) (fl 0)])
    clear k7
    go_wp2_with fail
    refine (all_any _ _).mono ?_
    rintro e w8 ⟨rfl, rfl⟩
    have k0 : Kp No w ((w6.alloc (.cells #[.int .i64 s.base, .complex .f64 (fl 0) (fl 0)] 119)).alloc (.cells #[.pointer (some ⟨sg, 0, none⟩)] 26)) := (K1.out.trans K7.out).alloc _
    have b0 := B1.out.kp0 (K7.out.alloc (.cells #[.pointer (some ⟨sg, 0, none⟩)] 26))
    have b2 := B7.out.kp0 ((Kp.refl No _).alloc (.cells #[.pointer (some ⟨sg, 0, none⟩)] 26))
    have b3 : Blk ((w6.alloc (.cells #[.int .i64 s.base, .complex .f64 (fl 0) (fl 0)] 119)).alloc (.cells #[.pointer (some ⟨sg, 0, none⟩)] 26)) (w6.heap.size + 1) 26 #[.pointer (some ⟨sg, 0, none⟩)] := (Blk.new (w6.alloc (.cells #[.int .i64 s.base, .complex .f64 (fl 0) (fl 0)] 119)) _ _).next (by simp)
    have hz : ((w6.alloc (.cells #[.int .i64 s.base, .complex .f64 (fl 0) (fl 0)] 119)).alloc (.cells #[.pointer (some ⟨sg, 0, none⟩)] 26)).heap.size = w6.heap.size + 2 := by simp
    have hM : w.heap.size < w6.heap.size := by have := K6.out.size; simp at this; omega
    go_wp2_with fail
    generalize (w6.alloc (.cells #[.int .i64 s.base, .complex .f64 (fl 0) (fl 0)] 119)).alloc (.cells #[.pointer (some ⟨sg, 0, none⟩)] 26) = W0 at k0 b0 b2 b3 hz ⊢
    generalize w6.heap.size = M at b2 b3 hz hM ⊢
    refine (wpIn_wide (n := 5)).1 ?_
    obtain ⟨Rd, hRd, hseq⟩ := All_seq (H.out.trim.shf.kp0 k0) _ b3
    have i0 : MQ w w.heap.size M g s No [] W0 := ⟨k0, b0, by simpa [Wq, Pq] using b2, (fun k hk => hk.elim), by omega⟩
    have I0 := hid i0
    have SQ := hid hseq
    have HZ := hid hz
    have HRd := hid hRd
    clear i0 hseq hz hRd b0 b2 b3 k0 d1 d2 K7 B7 K6 KX KY LEN AT RS
    refine range_own (gf := 62) (lb := #[.pointer (some ⟨M + 1, 0, none⟩)]) rfl (enters_of Try.func62 (by kernel_rfl) rfl)
      SQ.out (fun k hk => (HRd.out k hk).1) (fun _ => rfl) (MQ w w.heap.size M g s) (fun _ _ _ _ => False) (MQ.ab w _ M g s (Nat.le_refl _) hM) (fun _ _ _ _ _ _ h => h.elim) I0.out ?round ?done ?stop
    case stop => exact fun _ _ _ _ _ _ _ _ _ h => h.elim
    case done =>
      rintro D O W hD hO ⟨h1, h2, h4, h7, h8⟩ hK
      rw [show (en 0 (s.l.map itM)).length = s.l.length by rw [← List.length_map (f := Prod.snd), en_snd, List.length_map], List.take_length] at h4
      have c0 := h4.cell 0
      have c1 := h4.cell 1
      simp at c0 c1
      have hDW := (h7 D hO).2
      go_wp2_with fail
      refine (MC.out _).mono ?_
      rintro e w' ⟨rfl, kM⟩
      have hK2 : w'.heap[D]? = some (.deferred (some [])) := (kM.block D hDW fun h => h).trans hK
      clear h4 h7 c0 c1 hK
      go_wp2_with fail
      have kp := Kp.put1 D w' (.deferred none)
      have hDw : w.heap.size ≤ D := by have := HZ.out; omega
      have KF := hid ((h1.trans kM).step kp fun i hi e => by have : i = D := e; omega)
      refine ⟨by simp, .inl ⟨_, _, rfl, run_takeDeferred hK2, ?_⟩⟩
      exact ⟨.tuple #[.int .i64 m, .bool true], by simp [results, Try.results41, go_sem], rfl, KF.out⟩
    case round =>
      rintro l' O pre x rest W hx hOl hl1 hl2 ⟨h1, h2, h4, h7, h8⟩
      have hx1 := en_split hx
      obtain ⟨hpl, hxi⟩ := en_at hx
      rw [List.length_map] at hpl
      obtain ⟨xr, x⟩ := x
      simp only [Nat.zero_add] at hx1 hxi
      subst hx1
      obtain ⟨z, hz⟩ : ∃ z, s.l.getD pre.length mb0 = z := ⟨_, rfl⟩
      have hxy : x = itM z := by
        rw [← hxi, ← hz]
        simp [List.getD, hpl]
      subst hxy
      have hzm : z ∈ s.l := by
        rw [← hz]
        simp [List.getD, hpl]
      have hzt : s.l.take (pre.length + 1) = s.l.take pre.length ++ [z] := by rw [take_at s.l mb0 hpl, hz]
      have HZT := hid hzt
      have NZ := NR.out z hzm
      have hmul := near_mul NZ
      have hbd := near_bd (b := s.base) (l := s.l.take pre.length) fun x hx => NR.out x (List.mem_of_mem_take hx)
      have hln : ((s.l.take pre.length).length : Int) = (pre.length : Int) := by simp; omega
      have hl4 := H.out.ok.len
      rw [hln] at hbd
      obtain ⟨a, ha⟩ : ∃ a, Wq (s.l.take pre.length) = a := ⟨_, rfl⟩
      obtain ⟨q, hq⟩ : ∃ q, Pq s.base (s.l.take pre.length) = q := ⟨_, rfl⟩
      have HAQ : Hid (Wq (s.l.take (pre.length + 1)) = a + z.w ∧ Pq s.base (s.l.take (pre.length + 1)) = q + z.w * (z.v - s.base)) := hid (by rw [hzt, Wq_app, Pq_app, ha, hq]; exact ⟨rfl, rfl⟩)
      rw [ha, hq] at h4 hbd
      obtain ⟨n1, n2, n3, n4⟩ := NZ
      obtain ⟨t, ht⟩ : ∃ t, z.w * (z.v - s.base) = t := ⟨_, rfl⟩
      rw [ht] at hmul HAQ
      have ADD : Hid (∀ w : World, Calls Try.prog 69 #[.agg #[.int .i64 s.base, .complex .f64 (fl a) (fl q)], .int .i64 z.v, .int .i64 z.w] w fun e w' => e = .returned (.agg #[.int .i64 s.base, .complex .f64 (fl (a + z.w)) (fl (q + t))]) ∧ Kp No w w') := hid fun w => add_is rfl ht ⟨by omega, by omega⟩ rfl rfl ⟨by omega, by omega⟩ ⟨by omega, by omega⟩ ⟨by omega, by omega⟩ ⟨by omega, by omega⟩ ⟨by omega, by omega⟩ ⟨by omega, by omega⟩
      have OKZ := hid (H.out.ok.ok z hzm)
      have HZM := hid hzm
      clear hx hxi hz hzt hmul hbd ht ha hq n1 n2 n3 n4 hzm
      dsimp only
      gi_wp2
      refine ⟨(Kp.refl _ _).alloc _, fun W2 hk2 => ?_⟩
      have hl3 := (h7 l' hOl).1
      have hOb : ∀ k, O k → W2.heap.size ≤ k → False := fun k ho hk => by have := (h7 k ho).2; have := hk2.size; simp at this; omega
      have h7' : ∀ k, O k → M + 1 < k ∧ k < W2.heap.size := fun k ho => by have := h7 k ho; have := hk2.size; simp at this; omega
      have bX : Blk W2 W.heap.size 24 #[.int .i64 (itM z).key, .int .i64 (itM z).id] := (Blk.new W 24 _).kp hk2 (fun e => by have : W.heap.size = l' := e; omega)
      have kA : Kp (Only l') W W2 := ((Kp.refl (Only l') W).alloc _).trans hk2
      have g2 := h2.kp kA (fun e => by have : w.heap.size = l' := e; omega)
      have g4 := h4.kp kA (fun e => by have : M = l' := e; omega)
      have g1 : Kp No w W2 := h1.step kA fun i hi e => by have : i = l' := e; omega
      have hW2 := kA.size
      have hw2 := g1.size
      have rb := (⟨g2, g4, by simpa [itM] using bX, H.out.trim.kp0 g1⟩ : RBM w.heap.size M g mb sg W.heap.size (fun i => T i ∧ i < w.heap.size) s (fl a) (fl q) z W2)
      have RB2 := hid rb
      have HS5 := (rb.kp0 (Kp.refl No W2).drew).rd HZM.out
      have G1 := hid g1
      clear h1 h2 h4 kA hk2 g2 g4 rb bX g1
      gi_wp2
      refine region_in (by kernel_rfl) (by kernel_rfl) (fun ⟨_, _, h⟩ => h.elim) ?_
      refine any_last 12 rfl (by kernel_rfl) ?_
      simp only [List.take_succ_cons, List.take_zero]
      refine wpAny_of_held (S := RdM w.heap.size M g mb W.heap.size s.base (fl a) (fl q) z) _ _ _ _ ?_
      simp only [List.length_cons, List.length_nil, Nat.reduceAdd, Array.replicate_succ, Array.replicate_zero, List.push_toArray, List.nil_append, List.cons_append]
      refine wpAnyH_take (i := 0) (v := .agg #[.int .i64 s.base, .complex .f64 (fl a) (fl q)]) rfl (by kernel_rfl) (by kernel_rfl) (by kernel_rfl) (fun _ _ _ h => h) (Or.inl ⟨by rfl, ?_⟩) HS5 ?_
      · (intro w6 hS6; obtain ⟨z1, z2, z3, z4, z5, z6, z7⟩ := hS6; go_simp)
      simp only [List.getElem_toArray, List.getElem_cons_zero, Act.put, List.setIfInBounds_toArray, List.set_cons_zero, List.set_cons_succ]
      refine wpAnyH_take (i := 1) (v := .pointer (some ⟨W.heap.size, 0, none⟩)) rfl (by kernel_rfl) (by kernel_rfl) (by kernel_rfl) (fun _ _ _ h => h) (Or.inl ⟨by rfl, ?_⟩) HS5 ?_
      · (intro w6 hS6; obtain ⟨z1, z2, z3, z4, z5, z6, z7⟩ := hS6; go_simp)
      simp only [List.getElem_toArray, List.getElem_cons_zero, List.getElem_cons_succ, Act.put, List.setIfInBounds_toArray, List.set_cons_zero, List.set_cons_succ]
      refine wpAnyH_take (i := 2) (v := .int .i64 z.v) rfl (by kernel_rfl) (by kernel_rfl) (by kernel_rfl) (fun _ _ _ h => h) (Or.inl ⟨by rfl, ?_⟩) HS5 ?_
      · (intro w6 hS6; obtain ⟨z1, z2, z3, z4, z5, z6, z7⟩ := hS6; go_simp)
      simp only [List.getElem_toArray, List.getElem_cons_zero, List.getElem_cons_succ, Act.put, List.setIfInBounds_toArray, List.set_cons_zero, List.set_cons_succ]
      refine wpAnyH_take (i := 3) (v := .pointer (some ⟨g, 0, none⟩)) rfl (by kernel_rfl) (by kernel_rfl) (by kernel_rfl) (fun _ _ _ h => h) (Or.inl ⟨by rfl, ?_⟩) HS5 ?_
      · (intro w6 hS6; obtain ⟨z1, z2, z3, z4, z5, z6, z7⟩ := hS6; go_simp)
      simp only [List.getElem_toArray, List.getElem_cons_zero, List.getElem_cons_succ, Act.put, List.setIfInBounds_toArray, List.set_cons_zero, List.set_cons_succ]
      refine wpAnyH_take (i := 4) (v := .pointer (some ⟨g, 0, none⟩)) rfl (by kernel_rfl) (by kernel_rfl) (by kernel_rfl) (fun _ _ _ h => h) (Or.inl ⟨by rfl, ?_⟩) HS5 ?_
      · (intro w6 hS6; obtain ⟨z1, z2, z3, z4, z5, z6, z7⟩ := hS6; go_simp)
      simp only [List.getElem_toArray, List.getElem_cons_zero, List.getElem_cons_succ, Act.put, List.setIfInBounds_toArray, List.set_cons_zero, List.set_cons_succ]
      refine wpAnyH_take (i := 5) (v := .pointer (some ⟨g, 0, none⟩)) rfl (by kernel_rfl) (by kernel_rfl) (by kernel_rfl) (fun _ _ _ h => h) (Or.inl ⟨by rfl, ?_⟩) HS5 ?_
      · (intro w6 hS6; obtain ⟨z1, z2, z3, z4, z5, z6, z7⟩ := hS6; go_simp)
      simp only [List.getElem_toArray, List.getElem_cons_zero, List.getElem_cons_succ, Act.put, List.setIfInBounds_toArray, List.set_cons_zero, List.set_cons_succ]
      refine wpAnyH_take (i := 6) (v := .map (some mb)) rfl (by kernel_rfl) (by kernel_rfl) (by kernel_rfl) (fun _ _ _ h => h) (Or.inl ⟨by rfl, ?_⟩) HS5 ?_
      · (intro w6 hS6; obtain ⟨z1, z2, z3, z4, z5, z6, z7⟩ := hS6; go_simp)
      simp only [List.getElem_toArray, List.getElem_cons_zero, List.getElem_cons_succ, Act.put, List.setIfInBounds_toArray, List.set_cons_zero, List.set_cons_succ]
      refine wpAnyH_take (i := 7) (v := .pointer (some ⟨W.heap.size, 1, none⟩)) rfl (by kernel_rfl) (by kernel_rfl) (by kernel_rfl) (fun _ _ _ h => h) (Or.inl ⟨by rfl, ?_⟩) HS5 ?_
      · (intro w6 hS6; obtain ⟨z1, z2, z3, z4, z5, z6, z7⟩ := hS6; go_simp)
      simp only [List.getElem_toArray, List.getElem_cons_zero, List.getElem_cons_succ, Act.put, List.setIfInBounds_toArray, List.set_cons_zero, List.set_cons_succ]
      refine wpAnyH_take (i := 8) (v := .int .i64 z.id) rfl (by kernel_rfl) (by kernel_rfl) (by kernel_rfl) (fun _ _ _ h => h) (Or.inl ⟨by rfl, ?_⟩) HS5 ?_
      · (intro w6 hS6; obtain ⟨z1, z2, z3, z4, z5, z6, z7⟩ := hS6; go_simp)
      simp only [List.getElem_toArray, List.getElem_cons_zero, List.getElem_cons_succ, Act.put, List.setIfInBounds_toArray, List.set_cons_zero, List.set_cons_succ]
      refine wpAnyH_take (i := 9) (v := .agg #[.int .i64 z.w, .int .i64 z.v, .int .i64 z.r]) rfl (by kernel_rfl) (by kernel_rfl) (by kernel_rfl) (fun _ _ _ h => h) (Or.inl ⟨by rfl, ?_⟩) HS5 ?_
      · (intro w6 hS6; obtain ⟨z1, z2, z3, z4, z5, z6, z7⟩ := hS6; go_simp)
      simp only [List.getElem_toArray, List.getElem_cons_zero, List.getElem_cons_succ, Act.put, List.setIfInBounds_toArray, List.set_cons_zero, List.set_cons_succ]
      refine wpAnyH_take (i := 10) (v := .int .i64 z.w) rfl (by kernel_rfl) (by kernel_rfl) (by kernel_rfl) (fun _ _ _ h => h) (Or.inl ⟨by rfl, ?_⟩) HS5 ?_
      · (intro w6 hS6; obtain ⟨z1, z2, z3, z4, z5, z6, z7⟩ := hS6; go_simp)
      simp only [List.getElem_toArray, List.getElem_cons_zero, List.getElem_cons_succ, Act.put, List.setIfInBounds_toArray, List.set_cons_zero, List.set_cons_succ]
      refine wpAnyH_ready (rs := [11]) (by kernel_rfl) (by simp) (AllReadyH.cons rfl (fun K hK => ?_) AllReadyH.nil)
      simp only [List.getElem_toArray, List.getElem_cons_zero, List.getElem_cons_succ]
      clear HS5
      go_simp
      refine (ADD.out _).mono ?_
      rintro e w6 ⟨rfl, k6⟩
      have R6 := hid ((RB2.out.kp0 (Kp.refl No W2).drew).kp0 k6)
      have K6 := hid ((Kp.refl No W2).drew.trans k6)
      clear k6
      refine hK.out _ _ (R6.out.rd HZM.out) (fun hS6 => ?_)
      clear hK K hS6
      simp only [List.setIfInBounds_toArray, List.set_cons_zero, List.set_cons_succ]
      refine wpAnyH_done (by kernel_rfl) ?_ _
      refine then_list ?_
      simp only [List.cons_append, List.nil_append]
      have g46 := R6.out.bm
      have c40 := g46.cell 0
      have c41 := g46.cell 1
      have f40 := g46.frozen 0
      have f41 := g46.frozen 1
      have l46 := g46.lt
      simp at c40 c41
      go_wp2_with fail
      have nR : ∀ k, Rd k → k = M + 1 ∨ k < w.heap.size := fun k hk => (HRd.out k hk).2.imp id fun h => h.2
      have nM : Out O Rd M := ⟨fun ho => absurd (h7 _ ho).1 (by omega), fun hr => by rcases nR _ hr with e | e <;> omega⟩
      have kk : Kp (Out O Rd) W2 ((w6.setCell ⟨M, 0, none⟩ (.int .i64 s.base)).setCell ⟨M, 1, none⟩ (.complex .f64 (fl (a + z.w)) (fl (q + t)))) := ((K6.out.all (S := Out O Rd)).setCell (p := ⟨M, 0, none⟩) (.inl nM) _).setCell (p := ⟨M, 1, none⟩) (.inl nM) _
      refine ⟨kk, kp_put (G1.out.trans K6.out) (by omega), (R6.out.b0.kp (Kp.set1 _ _ _ _) fun e => by have : w.heap.size = M := e; omega).kp (Kp.set1 _ _ _ _) fun e => by have : w.heap.size = M := e; omega, ?_, fun k ho => by have := h7' k ho; have := kk.size; omega, by have := kk.size; omega⟩
      rw [List.length_append, List.length_singleton, HAQ.out.1, HAQ.out.2]
      have := (g46.put 0 (.int .i64 s.base)).put 1 (.complex .f64 (fl (a + z.w)) (fl (q + t)))
      simpa using this
  · rename_i hh
    have KX := hid (K1.out.trans hh.2.2)
    have KY := hid hh.2.2
    have BX := hid (show Blk _ (w.heap.size + 1) 24 #[.int .i64 y.v, .int .i64 y.id] from by have := (BI.out.put 0 (.int .i64 y.v)).put 1 (.int .i64 y.id); simpa using this)
    clear hh KA k5 BI fI0 fI1 lI cI0 cI1
    generalize (w5.setCell ⟨w.heap.size + 1, 0, none⟩ (.int .i64 y.v)).setCell ⟨w.heap.size + 1, 1, none⟩ (.int .i64 y.id) = wx at KX KY BX ⊢
    generalize w.heap.size + 1 = ax at BX ⊢
    have c0 := (H.out.kp0 KX.out).hd.cell 2
    have c1 := BX.out.cell 0
    have c2 := (RS.out _ KY.out).1
    simp at c0 c1
    go_wp2_with fail
    go_quiet (fail)
    go_wp2_with fail
    refine (new_any s.base _).mono ?_
    rintro e w6 ⟨rfl, k6⟩
    have K6 := hid ((KY.out.drewN _).trans k6)
    clear k6 c0 c1 c2 BX
    have k7 := K6.out.alloc (.cells #[.int .i64 s.base, .complex .f64 (fl 0) (fl 0)] 119)
    obtain ⟨d1, d2, _⟩ := RS.out _ k7
    have K7 := hid k7
    have B7 := hid (Blk.new w6 119 #[.int .i64 s.base, .complex .f64 (fl 0) (fl 0)])
    clear k7
    go_wp2_with fail
    refine (all_any _ _).mono ?_
    rintro e w8 ⟨rfl, rfl⟩
    have k0 : Kp No w ((w6.alloc (.cells #[.int .i64 s.base, .complex .f64 (fl 0) (fl 0)] 119)).alloc (.cells #[.pointer (some ⟨sg, 0, none⟩)] 26)) := (K1.out.trans K7.out).alloc _
    have b0 := B1.out.kp0 (K7.out.alloc (.cells #[.pointer (some ⟨sg, 0, none⟩)] 26))
    have b2 := B7.out.kp0 ((Kp.refl No _).alloc (.cells #[.pointer (some ⟨sg, 0, none⟩)] 26))
    have b3 : Blk ((w6.alloc (.cells #[.int .i64 s.base, .complex .f64 (fl 0) (fl 0)] 119)).alloc (.cells #[.pointer (some ⟨sg, 0, none⟩)] 26)) (w6.heap.size + 1) 26 #[.pointer (some ⟨sg, 0, none⟩)] := (Blk.new (w6.alloc (.cells #[.int .i64 s.base, .complex .f64 (fl 0) (fl 0)] 119)) _ _).next (by simp)
    have hz : ((w6.alloc (.cells #[.int .i64 s.base, .complex .f64 (fl 0) (fl 0)] 119)).alloc (.cells #[.pointer (some ⟨sg, 0, none⟩)] 26)).heap.size = w6.heap.size + 2 := by simp
    have hM : w.heap.size < w6.heap.size := by have := K6.out.size; simp at this; omega
    go_wp2_with fail
    generalize (w6.alloc (.cells #[.int .i64 s.base, .complex .f64 (fl 0) (fl 0)] 119)).alloc (.cells #[.pointer (some ⟨sg, 0, none⟩)] 26) = W0 at k0 b0 b2 b3 hz ⊢
    generalize w6.heap.size = M at b2 b3 hz hM ⊢
    refine (wpIn_wide (n := 5)).1 ?_
    obtain ⟨Rd, hRd, hseq⟩ := All_seq (H.out.trim.shf.kp0 k0) _ b3
    have i0 : MQ w w.heap.size M g s No [] W0 := ⟨k0, b0, by simpa [Wq, Pq] using b2, (fun k hk => hk.elim), by omega⟩
    have I0 := hid i0
    have SQ := hid hseq
    have HZ := hid hz
    have HRd := hid hRd
    clear i0 hseq hz hRd b0 b2 b3 k0 d1 d2 K7 B7 K6 KX KY LEN AT RS
    refine range_own (gf := 62) (lb := #[.pointer (some ⟨M + 1, 0, none⟩)]) rfl (enters_of Try.func62 (by kernel_rfl) rfl)
      SQ.out (fun k hk => (HRd.out k hk).1) (fun _ => rfl) (MQ w w.heap.size M g s) (fun _ _ _ _ => False) (MQ.ab w _ M g s (Nat.le_refl _) hM) (fun _ _ _ _ _ _ h => h.elim) I0.out ?round ?done ?stop
    case stop => exact fun _ _ _ _ _ _ _ _ _ h => h.elim
    case done =>
      rintro D O W hD hO ⟨h1, h2, h4, h7, h8⟩ hK
      rw [show (en 0 (s.l.map itM)).length = s.l.length by rw [← List.length_map (f := Prod.snd), en_snd, List.length_map], List.take_length] at h4
      have c0 := h4.cell 0
      have c1 := h4.cell 1
      simp at c0 c1
      have hDW := (h7 D hO).2
      go_wp2_with fail
      refine (MC.out _).mono ?_
      rintro e w' ⟨rfl, kM⟩
      have hK2 : w'.heap[D]? = some (.deferred (some [])) := (kM.block D hDW fun h => h).trans hK
      clear h4 h7 c0 c1 hK
      go_wp2_with fail
      have kp := Kp.put1 D w' (.deferred none)
      have hDw : w.heap.size ≤ D := by have := HZ.out; omega
      have KF := hid ((h1.trans kM).step kp fun i hi e => by have : i = D := e; omega)
      refine ⟨by simp, .inl ⟨_, _, rfl, run_takeDeferred hK2, ?_⟩⟩
      exact ⟨.tuple #[.int .i64 m, .bool true], by simp [results, Try.results41, go_sem], rfl, KF.out⟩
    case round =>
      rintro l' O pre x rest W hx hOl hl1 hl2 ⟨h1, h2, h4, h7, h8⟩
      have hx1 := en_split hx
      obtain ⟨hpl, hxi⟩ := en_at hx
      rw [List.length_map] at hpl
      obtain ⟨xr, x⟩ := x
      simp only [Nat.zero_add] at hx1 hxi
      subst hx1
      obtain ⟨z, hz⟩ : ∃ z, s.l.getD pre.length mb0 = z := ⟨_, rfl⟩
      have hxy : x = itM z := by
        rw [← hxi, ← hz]
        simp [List.getD, hpl]
      subst hxy
      have hzm : z ∈ s.l := by
        rw [← hz]
        simp [List.getD, hpl]
      have hzt : s.l.take (pre.length + 1) = s.l.take pre.length ++ [z] := by rw [take_at s.l mb0 hpl, hz]
      have HZT := hid hzt
      have NZ := NR.out z hzm
      have hmul := near_mul NZ
      have hbd := near_bd (b := s.base) (l := s.l.take pre.length) fun x hx => NR.out x (List.mem_of_mem_take hx)
      have hln : ((s.l.take pre.length).length : Int) = (pre.length : Int) := by simp; omega
      have hl4 := H.out.ok.len
      rw [hln] at hbd
      obtain ⟨a, ha⟩ : ∃ a, Wq (s.l.take pre.length) = a := ⟨_, rfl⟩
      obtain ⟨q, hq⟩ : ∃ q, Pq s.base (s.l.take pre.length) = q := ⟨_, rfl⟩
      have HAQ : Hid (Wq (s.l.take (pre.length + 1)) = a + z.w ∧ Pq s.base (s.l.take (pre.length + 1)) = q + z.w * (z.v - s.base)) := hid (by rw [hzt, Wq_app, Pq_app, ha, hq]; exact ⟨rfl, rfl⟩)
      rw [ha, hq] at h4 hbd
      obtain ⟨n1, n2, n3, n4⟩ := NZ
      obtain ⟨t, ht⟩ : ∃ t, z.w * (z.v - s.base) = t := ⟨_, rfl⟩
      rw [ht] at hmul HAQ
      have ADD : Hid (∀ w : World, Calls Try.prog 69 #[.agg #[.int .i64 s.base, .complex .f64 (fl a) (fl q)], .int .i64 z.v, .int .i64 z.w] w fun e w' => e = .returned (.agg #[.int .i64 s.base, .complex .f64 (fl (a + z.w)) (fl (q + t))]) ∧ Kp No w w') := hid fun w => add_is rfl ht ⟨by omega, by omega⟩ rfl rfl ⟨by omega, by omega⟩ ⟨by omega, by omega⟩ ⟨by omega, by omega⟩ ⟨by omega, by omega⟩ ⟨by omega, by omega⟩ ⟨by omega, by omega⟩
      have OKZ := hid (H.out.ok.ok z hzm)
      have HZM := hid hzm
      clear hx hxi hz hzt hmul hbd ht ha hq n1 n2 n3 n4 hzm
      dsimp only
      gi_wp2
      refine ⟨(Kp.refl _ _).alloc _, fun W2 hk2 => ?_⟩
      have hl3 := (h7 l' hOl).1
      have hOb : ∀ k, O k → W2.heap.size ≤ k → False := fun k ho hk => by have := (h7 k ho).2; have := hk2.size; simp at this; omega
      have h7' : ∀ k, O k → M + 1 < k ∧ k < W2.heap.size := fun k ho => by have := h7 k ho; have := hk2.size; simp at this; omega
      have bX : Blk W2 W.heap.size 24 #[.int .i64 (itM z).key, .int .i64 (itM z).id] := (Blk.new W 24 _).kp hk2 (fun e => by have : W.heap.size = l' := e; omega)
      have kA : Kp (Only l') W W2 := ((Kp.refl (Only l') W).alloc _).trans hk2
      have g2 := h2.kp kA (fun e => by have : w.heap.size = l' := e; omega)
      have g4 := h4.kp kA (fun e => by have : M = l' := e; omega)
      have g1 : Kp No w W2 := h1.step kA fun i hi e => by have : i = l' := e; omega
      have hW2 := kA.size
      have hw2 := g1.size
      have rb := (⟨g2, g4, by simpa [itM] using bX, H.out.trim.kp0 g1⟩ : RBM w.heap.size M g mb sg W.heap.size (fun i => T i ∧ i < w.heap.size) s (fl a) (fl q) z W2)
      have RB2 := hid rb
      have HS5 := (rb.kp0 (Kp.refl No W2).drew).rd HZM.out
      have G1 := hid g1
      clear h1 h2 h4 kA hk2 g2 g4 rb bX g1
      gi_wp2
      refine region_in (by kernel_rfl) (by kernel_rfl) (fun ⟨_, _, h⟩ => h.elim) ?_
      refine any_last 12 rfl (by kernel_rfl) ?_
      simp only [List.take_succ_cons, List.take_zero]
      refine wpAny_of_held (S := RdM w.heap.size M g mb W.heap.size s.base (fl a) (fl q) z) _ _ _ _ ?_
      simp only [List.length_cons, List.length_nil, Nat.reduceAdd, Array.replicate_succ, Array.replicate_zero, List.push_toArray, List.nil_append, List.cons_append]
      refine wpAnyH_take (i := 0) (v := .agg #[.int .i64 s.base, .complex .f64 (fl a) (fl q)]) rfl (by kernel_rfl) (by kernel_rfl) (by kernel_rfl) (fun _ _ _ h => h) (Or.inl ⟨by rfl, ?_⟩) HS5 ?_
      · (intro w6 hS6; obtain ⟨z1, z2, z3, z4, z5, z6, z7⟩ := hS6; go_simp)
      simp only [List.getElem_toArray, List.getElem_cons_zero, Act.put, List.setIfInBounds_toArray, List.set_cons_zero, List.set_cons_succ]
      refine wpAnyH_take (i := 1) (v := .pointer (some ⟨W.heap.size, 0, none⟩)) rfl (by kernel_rfl) (by kernel_rfl) (by kernel_rfl) (fun _ _ _ h => h) (Or.inl ⟨by rfl, ?_⟩) HS5 ?_
      · (intro w6 hS6; obtain ⟨z1, z2, z3, z4, z5, z6, z7⟩ := hS6; go_simp)
      simp only [List.getElem_toArray, List.getElem_cons_zero, List.getElem_cons_succ, Act.put, List.setIfInBounds_toArray, List.set_cons_zero, List.set_cons_succ]
      refine wpAnyH_take (i := 2) (v := .int .i64 z.v) rfl (by kernel_rfl) (by kernel_rfl) (by kernel_rfl) (fun _ _ _ h => h) (Or.inl ⟨by rfl, ?_⟩) HS5 ?_
      · (intro w6 hS6; obtain ⟨z1, z2, z3, z4, z5, z6, z7⟩ := hS6; go_simp)
      simp only [List.getElem_toArray, List.getElem_cons_zero, List.getElem_cons_succ, Act.put, List.setIfInBounds_toArray, List.set_cons_zero, List.set_cons_succ]
      refine wpAnyH_take (i := 3) (v := .pointer (some ⟨g, 0, none⟩)) rfl (by kernel_rfl) (by kernel_rfl) (by kernel_rfl) (fun _ _ _ h => h) (Or.inl ⟨by rfl, ?_⟩) HS5 ?_
      · (intro w6 hS6; obtain ⟨z1, z2, z3, z4, z5, z6, z7⟩ := hS6; go_simp)
      simp only [List.getElem_toArray, List.getElem_cons_zero, List.getElem_cons_succ, Act.put, List.setIfInBounds_toArray, List.set_cons_zero, List.set_cons_succ]
      refine wpAnyH_take (i := 4) (v := .pointer (some ⟨g, 0, none⟩)) rfl (by kernel_rfl) (by kernel_rfl) (by kernel_rfl) (fun _ _ _ h => h) (Or.inl ⟨by rfl, ?_⟩) HS5 ?_
      · (intro w6 hS6; obtain ⟨z1, z2, z3, z4, z5, z6, z7⟩ := hS6; go_simp)
      simp only [List.getElem_toArray, List.getElem_cons_zero, List.getElem_cons_succ, Act.put, List.setIfInBounds_toArray, List.set_cons_zero, List.set_cons_succ]
      refine wpAnyH_take (i := 5) (v := .pointer (some ⟨g, 0, none⟩)) rfl (by kernel_rfl) (by kernel_rfl) (by kernel_rfl) (fun _ _ _ h => h) (Or.inl ⟨by rfl, ?_⟩) HS5 ?_
      · (intro w6 hS6; obtain ⟨z1, z2, z3, z4, z5, z6, z7⟩ := hS6; go_simp)
      simp only [List.getElem_toArray, List.getElem_cons_zero, List.getElem_cons_succ, Act.put, List.setIfInBounds_toArray, List.set_cons_zero, List.set_cons_succ]
      refine wpAnyH_take (i := 6) (v := .map (some mb)) rfl (by kernel_rfl) (by kernel_rfl) (by kernel_rfl) (fun _ _ _ h => h) (Or.inl ⟨by rfl, ?_⟩) HS5 ?_
      · (intro w6 hS6; obtain ⟨z1, z2, z3, z4, z5, z6, z7⟩ := hS6; go_simp)
      simp only [List.getElem_toArray, List.getElem_cons_zero, List.getElem_cons_succ, Act.put, List.setIfInBounds_toArray, List.set_cons_zero, List.set_cons_succ]
      refine wpAnyH_take (i := 7) (v := .pointer (some ⟨W.heap.size, 1, none⟩)) rfl (by kernel_rfl) (by kernel_rfl) (by kernel_rfl) (fun _ _ _ h => h) (Or.inl ⟨by rfl, ?_⟩) HS5 ?_
      · (intro w6 hS6; obtain ⟨z1, z2, z3, z4, z5, z6, z7⟩ := hS6; go_simp)
      simp only [List.getElem_toArray, List.getElem_cons_zero, List.getElem_cons_succ, Act.put, List.setIfInBounds_toArray, List.set_cons_zero, List.set_cons_succ]
      refine wpAnyH_take (i := 8) (v := .int .i64 z.id) rfl (by kernel_rfl) (by kernel_rfl) (by kernel_rfl) (fun _ _ _ h => h) (Or.inl ⟨by rfl, ?_⟩) HS5 ?_
      · (intro w6 hS6; obtain ⟨z1, z2, z3, z4, z5, z6, z7⟩ := hS6; go_simp)
      simp only [List.getElem_toArray, List.getElem_cons_zero, List.getElem_cons_succ, Act.put, List.setIfInBounds_toArray, List.set_cons_zero, List.set_cons_succ]
      refine wpAnyH_take (i := 9) (v := .agg #[.int .i64 z.w, .int .i64 z.v, .int .i64 z.r]) rfl (by kernel_rfl) (by kernel_rfl) (by kernel_rfl) (fun _ _ _ h => h) (Or.inl ⟨by rfl, ?_⟩) HS5 ?_
      · (intro w6 hS6; obtain ⟨z1, z2, z3, z4, z5, z6, z7⟩ := hS6; go_simp)
      simp only [List.getElem_toArray, List.getElem_cons_zero, List.getElem_cons_succ, Act.put, List.setIfInBounds_toArray, List.set_cons_zero, List.set_cons_succ]
      refine wpAnyH_take (i := 10) (v := .int .i64 z.w) rfl (by kernel_rfl) (by kernel_rfl) (by kernel_rfl) (fun _ _ _ h => h) (Or.inl ⟨by rfl, ?_⟩) HS5 ?_
      · (intro w6 hS6; obtain ⟨z1, z2, z3, z4, z5, z6, z7⟩ := hS6; go_simp)
      simp only [List.getElem_toArray, List.getElem_cons_zero, List.getElem_cons_succ, Act.put, List.setIfInBounds_toArray, List.set_cons_zero, List.set_cons_succ]
      refine wpAnyH_ready (rs := [11]) (by kernel_rfl) (by simp) (AllReadyH.cons rfl (fun K hK => ?_) AllReadyH.nil)
      simp only [List.getElem_toArray, List.getElem_cons_zero, List.getElem_cons_succ]
      clear HS5
      go_simp
      refine (ADD.out _).mono ?_
      rintro e w6 ⟨rfl, k6⟩
      have R6 := hid ((RB2.out.kp0 (Kp.refl No W2).drew).kp0 k6)
      have K6 := hid ((Kp.refl No W2).drew.trans k6)
      clear k6
      refine hK.out _ _ (R6.out.rd HZM.out) (fun hS6 => ?_)
      clear hK K hS6
      simp only [List.setIfInBounds_toArray, List.set_cons_zero, List.set_cons_succ]
      refine wpAnyH_done (by kernel_rfl) ?_ _
      refine then_list ?_
      simp only [List.cons_append, List.nil_append]
      have g46 := R6.out.bm
      have c40 := g46.cell 0
      have c41 := g46.cell 1
      have f40 := g46.frozen 0
      have f41 := g46.frozen 1
      have l46 := g46.lt
      simp at c40 c41
      go_wp2_with fail
      have nR : ∀ k, Rd k → k = M + 1 ∨ k < w.heap.size := fun k hk => (HRd.out k hk).2.imp id fun h => h.2
      have nM : Out O Rd M := ⟨fun ho => absurd (h7 _ ho).1 (by omega), fun hr => by rcases nR _ hr with e | e <;> omega⟩
      have kk : Kp (Out O Rd) W2 ((w6.setCell ⟨M, 0, none⟩ (.int .i64 s.base)).setCell ⟨M, 1, none⟩ (.complex .f64 (fl (a + z.w)) (fl (q + t)))) := ((K6.out.all (S := Out O Rd)).setCell (p := ⟨M, 0, none⟩) (.inl nM) _).setCell (p := ⟨M, 1, none⟩) (.inl nM) _
      refine ⟨kk, kp_put (G1.out.trans K6.out) (by omega), (R6.out.b0.kp (Kp.set1 _ _ _ _) fun e => by have : w.heap.size = M := e; omega).kp (Kp.set1 _ _ _ _) fun e => by have : w.heap.size = M := e; omega, ?_, fun k ho => by have := h7' k ho; have := kk.size; omega, by have := kk.size; omega⟩
      rw [List.length_append, List.length_singleton, HAQ.out.1, HAQ.out.2]
      have := (g46.put 0 (.int .i64 s.base)).put 1 (.complex .f64 (fl (a + z.w)) (fl (q + t)))
      simpa using this
  · rename_i hh
    have KX := hid (K1.out.trans hh.2.2)
    have KY := hid hh.2.2
    have BX := hid (show Blk _ (w.heap.size + 1) 24 #[.int .i64 y.v, .int .i64 y.id] from by have := (BI.out.put 0 (.int .i64 y.v)).put 1 (.int .i64 y.id); simpa using this)
    clear hh KA k5 BI fI0 fI1 lI cI0 cI1
    generalize (w5.setCell ⟨w.heap.size + 1, 0, none⟩ (.int .i64 y.v)).setCell ⟨w.heap.size + 1, 1, none⟩ (.int .i64 y.id) = wx at KX KY BX ⊢
    generalize w.heap.size + 1 = ax at BX ⊢
    have c0 := (H.out.kp0 KX.out).hd.cell 2
    have c1 := BX.out.cell 0
    have c2 := (RS.out _ KY.out).1
    simp at c0 c1
    go_wp2_with fail
    go_quiet (fail)
    go_wp2_with fail
    refine (new_any s.base _).mono ?_
    rintro e w6 ⟨rfl, k6⟩
    have K6 := hid ((KY.out.drewN _).trans k6)
    clear k6 c0 c1 c2 BX
    have k7 := K6.out.alloc (.cells #[.int .i64 s.base, .complex .f64 (fl 0) (fl 0)] 119)
    obtain ⟨d1, d2, _⟩ := RS.out _ k7
    have K7 := hid k7
    have B7 := hid (Blk.new w6 119 #[.int .i64 s.base, .complex .f64 (fl 0) (fl 0)])
    clear k7
    go_wp2_with fail
    refine (all_any _ _).mono ?_
    rintro e w8 ⟨rfl, rfl⟩
    have k0 : Kp No w ((w6.alloc (.cells #[.int .i64 s.base, .complex .f64 (fl 0) (fl 0)] 119)).alloc (.cells #[.pointer (some ⟨sg, 0, none⟩)] 26)) := (K1.out.trans K7.out).alloc _
    have b0 := B1.out.kp0 (K7.out.alloc (.cells #[.pointer (some ⟨sg, 0, none⟩)] 26))
    have b2 := B7.out.kp0 ((Kp.refl No _).alloc (.cells #[.pointer (some ⟨sg, 0, none⟩)] 26))
    have b3 : Blk ((w6.alloc (.cells #[.int .i64 s.base, .complex .f64 (fl 0) (fl 0)] 119)).alloc (.cells #[.pointer (some ⟨sg, 0, none⟩)] 26)) (w6.heap.size + 1) 26 #[.pointer (some ⟨sg, 0, none⟩)] := (Blk.new (w6.alloc (.cells #[.int .i64 s.base, .complex .f64 (fl 0) (fl 0)] 119)) _ _).next (by simp)
    have hz : ((w6.alloc (.cells #[.int .i64 s.base, .complex .f64 (fl 0) (fl 0)] 119)).alloc (.cells #[.pointer (some ⟨sg, 0, none⟩)] 26)).heap.size = w6.heap.size + 2 := by simp
    have hM : w.heap.size < w6.heap.size := by have := K6.out.size; simp at this; omega
    go_wp2_with fail
    generalize (w6.alloc (.cells #[.int .i64 s.base, .complex .f64 (fl 0) (fl 0)] 119)).alloc (.cells #[.pointer (some ⟨sg, 0, none⟩)] 26) = W0 at k0 b0 b2 b3 hz ⊢
    generalize w6.heap.size = M at b2 b3 hz hM ⊢
    refine (wpIn_wide (n := 5)).1 ?_
    obtain ⟨Rd, hRd, hseq⟩ := All_seq (H.out.trim.shf.kp0 k0) _ b3
    have i0 : MQ w w.heap.size M g s No [] W0 := ⟨k0, b0, by simpa [Wq, Pq] using b2, (fun k hk => hk.elim), by omega⟩
    have I0 := hid i0
    have SQ := hid hseq
    have HZ := hid hz
    have HRd := hid hRd
    clear i0 hseq hz hRd b0 b2 b3 k0 d1 d2 K7 B7 K6 KX KY LEN AT RS
    refine range_own (gf := 62) (lb := #[.pointer (some ⟨M + 1, 0, none⟩)]) rfl (enters_of Try.func62 (by kernel_rfl) rfl)
      SQ.out (fun k hk => (HRd.out k hk).1) (fun _ => rfl) (MQ w w.heap.size M g s) (fun _ _ _ _ => False) (MQ.ab w _ M g s (Nat.le_refl _) hM) (fun _ _ _ _ _ _ h => h.elim) I0.out ?round ?done ?stop
    case stop => exact fun _ _ _ _ _ _ _ _ _ h => h.elim
    case done =>
      rintro D O W hD hO ⟨h1, h2, h4, h7, h8⟩ hK
      rw [show (en 0 (s.l.map itM)).length = s.l.length by rw [← List.length_map (f := Prod.snd), en_snd, List.length_map], List.take_length] at h4
      have c0 := h4.cell 0
      have c1 := h4.cell 1
      simp at c0 c1
      have hDW := (h7 D hO).2
      go_wp2_with fail
      refine (MC.out _).mono ?_
      rintro e w' ⟨rfl, kM⟩
      have hK2 : w'.heap[D]? = some (.deferred (some [])) := (kM.block D hDW fun h => h).trans hK
      clear h4 h7 c0 c1 hK
      go_wp2_with fail
      have kp := Kp.put1 D w' (.deferred none)
      have hDw : w.heap.size ≤ D := by have := HZ.out; omega
      have KF := hid ((h1.trans kM).step kp fun i hi e => by have : i = D := e; omega)
      refine ⟨by simp, .inl ⟨_, _, rfl, run_takeDeferred hK2, ?_⟩⟩
      exact ⟨.tuple #[.int .i64 m, .bool true], by simp [results, Try.results41, go_sem], rfl, KF.out⟩
    case round =>
      rintro l' O pre x rest W hx hOl hl1 hl2 ⟨h1, h2, h4, h7, h8⟩
      have hx1 := en_split hx
      obtain ⟨hpl, hxi⟩ := en_at hx
      rw [List.length_map] at hpl
      obtain ⟨xr, x⟩ := x
      simp only [Nat.zero_add] at hx1 hxi
      subst hx1
      obtain ⟨z, hz⟩ : ∃ z, s.l.getD pre.length mb0 = z := ⟨_, rfl⟩
      have hxy : x = itM z := by
        rw [← hxi, ← hz]
        simp [List.getD, hpl]
      subst hxy
      have hzm : z ∈ s.l := by
        rw [← hz]
        simp [List.getD, hpl]
      have hzt : s.l.take (pre.length + 1) = s.l.take pre.length ++ [z] := by rw [take_at s.l mb0 hpl, hz]
      have HZT := hid hzt
      have NZ := NR.out z hzm
      have hmul := near_mul NZ
      have hbd := near_bd (b := s.base) (l := s.l.take pre.length) fun x hx => NR.out x (List.mem_of_mem_take hx)
      have hln : ((s.l.take pre.length).length : Int) = (pre.length : Int) := by simp; omega
      have hl4 := H.out.ok.len
      rw [hln] at hbd
      obtain ⟨a, ha⟩ : ∃ a, Wq (s.l.take pre.length) = a := ⟨_, rfl⟩
      obtain ⟨q, hq⟩ : ∃ q, Pq s.base (s.l.take pre.length) = q := ⟨_, rfl⟩
      have HAQ : Hid (Wq (s.l.take (pre.length + 1)) = a + z.w ∧ Pq s.base (s.l.take (pre.length + 1)) = q + z.w * (z.v - s.base)) := hid (by rw [hzt, Wq_app, Pq_app, ha, hq]; exact ⟨rfl, rfl⟩)
      rw [ha, hq] at h4 hbd
      obtain ⟨n1, n2, n3, n4⟩ := NZ
      obtain ⟨t, ht⟩ : ∃ t, z.w * (z.v - s.base) = t := ⟨_, rfl⟩
      rw [ht] at hmul HAQ
      have ADD : Hid (∀ w : World, Calls Try.prog 69 #[.agg #[.int .i64 s.base, .complex .f64 (fl a) (fl q)], .int .i64 z.v, .int .i64 z.w] w fun e w' => e = .returned (.agg #[.int .i64 s.base, .complex .f64 (fl (a + z.w)) (fl (q + t))]) ∧ Kp No w w') := hid fun w => add_is rfl ht ⟨by omega, by omega⟩ rfl rfl ⟨by omega, by omega⟩ ⟨by omega, by omega⟩ ⟨by omega, by omega⟩ ⟨by omega, by omega⟩ ⟨by omega, by omega⟩ ⟨by omega, by omega⟩
      have OKZ := hid (H.out.ok.ok z hzm)
      have HZM := hid hzm
      clear hx hxi hz hzt hmul hbd ht ha hq n1 n2 n3 n4 hzm
      dsimp only
      gi_wp2
      refine ⟨(Kp.refl _ _).alloc _, fun W2 hk2 => ?_⟩
      have hl3 := (h7 l' hOl).1
      have hOb : ∀ k, O k → W2.heap.size ≤ k → False := fun k ho hk => by have := (h7 k ho).2; have := hk2.size; simp at this; omega
      have h7' : ∀ k, O k → M + 1 < k ∧ k < W2.heap.size := fun k ho => by have := h7 k ho; have := hk2.size; simp at this; omega
      have bX : Blk W2 W.heap.size 24 #[.int .i64 (itM z).key, .int .i64 (itM z).id] := (Blk.new W 24 _).kp hk2 (fun e => by have : W.heap.size = l' := e; omega)
      have kA : Kp (Only l') W W2 := ((Kp.refl (Only l') W).alloc _).trans hk2
      have g2 := h2.kp kA (fun e => by have : w.heap.size = l' := e; omega)
      have g4 := h4.kp kA (fun e => by have : M = l' := e; omega)
      have g1 : Kp No w W2 := h1.step kA fun i hi e => by have : i = l' := e; omega
      have hW2 := kA.size
      have hw2 := g1.size
      have rb := (⟨g2, g4, by simpa [itM] using bX, H.out.trim.kp0 g1⟩ : RBM w.heap.size M g mb sg W.heap.size (fun i => T i ∧ i < w.heap.size) s (fl a) (fl q) z W2)
      have RB2 := hid rb
      have HS5 := (rb.kp0 (Kp.refl No W2).drew).rd HZM.out
      have G1 := hid g1
      clear h1 h2 h4 kA hk2 g2 g4 rb bX g1
      gi_wp2
      refine region_in (by kernel_rfl) (by kernel_rfl) (fun ⟨_, _, h⟩ => h.elim) ?_
      refine any_last 12 rfl (by kernel_rfl) ?_
      simp only [List.take_succ_cons, List.take_zero]
      refine wpAny_of_held (S := RdM w.heap.size M g mb W.heap.size s.base (fl a) (fl q) z) _ _ _ _ ?_
      simp only [List.length_cons, List.length_nil, Nat.reduceAdd, Array.replicate_succ, Array.replicate_zero, List.push_toArray, List.nil_append, List.cons_append]
      refine wpAnyH_take (i := 0) (v := .agg #[.int .i64 s.base, .complex .f64 (fl a) (fl q)]) rfl (by kernel_rfl) (by kernel_rfl) (by kernel_rfl) (fun _ _ _ h => h) (Or.inl ⟨by rfl, ?_⟩) HS5 ?_
      · (intro w6 hS6; obtain ⟨z1, z2, z3, z4, z5, z6, z7⟩ := hS6; go_simp)
      simp only [List.getElem_toArray, List.getElem_cons_zero, Act.put, List.setIfInBounds_toArray, List.set_cons_zero, List.set_cons_succ]
      refine wpAnyH_take (i := 1) (v := .pointer (some ⟨W.heap.size, 0, none⟩)) rfl (by kernel_rfl) (by kernel_rfl) (by kernel_rfl) (fun _ _ _ h => h) (Or.inl ⟨by rfl, ?_⟩) HS5 ?_
      · (intro w6 hS6; obtain ⟨z1, z2, z3, z4, z5, z6, z7⟩ := hS6; go_simp)
      simp only [List.getElem_toArray, List.getElem_cons_zero, List.getElem_cons_succ, Act.put, List.setIfInBounds_toArray, List.set_cons_zero, List.set_cons_succ]
      refine wpAnyH_take (i := 2) (v := .int .i64 z.v) rfl (by kernel_rfl) (by kernel_rfl) (by kernel_rfl) (fun _ _ _ h => h) (Or.inl ⟨by rfl, ?_⟩) HS5 ?_
      · (intro w6 hS6; obtain ⟨z1, z2, z3, z4, z5, z6, z7⟩ := hS6; go_simp)
      simp only [List.getElem_toArray, List.getElem_cons_zero, List.getElem_cons_succ, Act.put, List.setIfInBounds_toArray, List.set_cons_zero, List.set_cons_succ]
      refine wpAnyH_take (i := 3) (v := .pointer (some ⟨g, 0, none⟩)) rfl (by kernel_rfl) (by kernel_rfl) (by kernel_rfl) (fun _ _ _ h => h) (Or.inl ⟨by rfl, ?_⟩) HS5 ?_
      · (intro w6 hS6; obtain ⟨z1, z2, z3, z4, z5, z6, z7⟩ := hS6; go_simp)
      simp only [List.getElem_toArray, List.getElem_cons_zero, List.getElem_cons_succ, Act.put, List.setIfInBounds_toArray, List.set_cons_zero, List.set_cons_succ]
      refine wpAnyH_take (i := 4) (v := .pointer (some ⟨g, 0, none⟩)) rfl (by kernel_rfl) (by kernel_rfl) (by kernel_rfl) (fun _ _ _ h => h) (Or.inl ⟨by rfl, ?_⟩) HS5 ?_
      · (intro w6 hS6; obtain ⟨z1, z2, z3, z4, z5, z6, z7⟩ := hS6; go_simp)
      simp only [List.getElem_toArray, List.getElem_cons_zero, List.getElem_cons_succ, Act.put, List.setIfInBounds_toArray, List.set_cons_zero, List.set_cons_succ]
      refine wpAnyH_take (i := 5) (v := .pointer (some ⟨g, 0, none⟩)) rfl (by kernel_rfl) (by kernel_rfl) (by kernel_rfl) (fun _ _ _ h => h) (Or.inl ⟨by rfl, ?_⟩) HS5 ?_
      · (intro w6 hS6; obtain ⟨z1, z2, z3, z4, z5, z6, z7⟩ := hS6; go_simp)
      simp only [List.getElem_toArray, List.getElem_cons_zero, List.getElem_cons_succ, Act.put, List.setIfInBounds_toArray, List.set_cons_zero, List.set_cons_succ]
      refine wpAnyH_take (i := 6) (v := .map (some mb)) rfl (by kernel_rfl) (by kernel_rfl) (by kernel_rfl) (fun _ _ _ h => h) (Or.inl ⟨by rfl, ?_⟩) HS5 ?_
      · (intro w6 hS6; obtain ⟨z1, z2, z3, z4, z5, z6, z7⟩ := hS6; go_simp)
      simp only [List.getElem_toArray, List.getElem_cons_zero, List.getElem_cons_succ, Act.put, List.setIfInBounds_toArray, List.set_cons_zero, List.set_cons_succ]
      refine wpAnyH_take (i := 7) (v := .pointer (some ⟨W.heap.size, 1, none⟩)) rfl (by kernel_rfl) (by kernel_rfl) (by kernel_rfl) (fun _ _ _ h => h) (Or.inl ⟨by rfl, ?_⟩) HS5 ?_
      · (intro w6 hS6; obtain ⟨z1, z2, z3, z4, z5, z6, z7⟩ := hS6; go_simp)
      simp only [List.getElem_toArray, List.getElem_cons_zero, List.getElem_cons_succ, Act.put, List.setIfInBounds_toArray, List.set_cons_zero, List.set_cons_succ]
      refine wpAnyH_take (i := 8) (v := .int .i64 z.id) rfl (by kernel_rfl) (by kernel_rfl) (by kernel_rfl) (fun _ _ _ h => h) (Or.inl ⟨by rfl, ?_⟩) HS5 ?_
      · (intro w6 hS6; obtain ⟨z1, z2, z3, z4, z5, z6, z7⟩ := hS6; go_simp)
      simp only [List.getElem_toArray, List.getElem_cons_zero, List.getElem_cons_succ, Act.put, List.setIfInBounds_toArray, List.set_cons_zero, List.set_cons_succ]
      refine wpAnyH_take (i := 9) (v := .agg #[.int .i64 z.w, .int .i64 z.v, .int .i64 z.r]) rfl (by kernel_rfl) (by kernel_rfl) (by kernel_rfl) (fun _ _ _ h => h) (Or.inl ⟨by rfl, ?_⟩) HS5 ?_
      · (intro w6 hS6; obtain ⟨z1, z2, z3, z4, z5, z6, z7⟩ := hS6; go_simp)
      simp only [List.getElem_toArray, List.getElem_cons_zero, List.getElem_cons_succ, Act.put, List.setIfInBounds_toArray, List.set_cons_zero, List.set_cons_succ]
      refine wpAnyH_take (i := 10) (v := .int .i64 z.w) rfl (by kernel_rfl) (by kernel_rfl) (by kernel_rfl) (fun _ _ _ h => h) (Or.inl ⟨by rfl, ?_⟩) HS5 ?_
      · (intro w6 hS6; obtain ⟨z1, z2, z3, z4, z5, z6, z7⟩ := hS6; go_simp)
      simp only [List.getElem_toArray, List.getElem_cons_zero, List.getElem_cons_succ, Act.put, List.setIfInBounds_toArray, List.set_cons_zero, List.set_cons_succ]
      refine wpAnyH_ready (rs := [11]) (by kernel_rfl) (by simp) (AllReadyH.cons rfl (fun K hK => ?_) AllReadyH.nil)
      simp only [List.getElem_toArray, List.getElem_cons_zero, List.getElem_cons_succ]
      clear HS5
      go_simp
      refine (ADD.out _).mono ?_
      rintro e w6 ⟨rfl, k6⟩
      have R6 := hid ((RB2.out.kp0 (Kp.refl No W2).drew).kp0 k6)
      have K6 := hid ((Kp.refl No W2).drew.trans k6)
      clear k6
      refine hK.out _ _ (R6.out.rd HZM.out) (fun hS6 => ?_)
      clear hK K hS6
      simp only [List.setIfInBounds_toArray, List.set_cons_zero, List.set_cons_succ]
      refine wpAnyH_done (by kernel_rfl) ?_ _
      refine then_list ?_
      simp only [List.cons_append, List.nil_append]
      have g46 := R6.out.bm
      have c40 := g46.cell 0
      have c41 := g46.cell 1
      have f40 := g46.frozen 0
      have f41 := g46.frozen 1
      have l46 := g46.lt
      simp at c40 c41
      go_wp2_with fail
      have nR : ∀ k, Rd k → k = M + 1 ∨ k < w.heap.size := fun k hk => (HRd.out k hk).2.imp id fun h => h.2
      have nM : Out O Rd M := ⟨fun ho => absurd (h7 _ ho).1 (by omega), fun hr => by rcases nR _ hr with e | e <;> omega⟩
      have kk : Kp (Out O Rd) W2 ((w6.setCell ⟨M, 0, none⟩ (.int .i64 s.base)).setCell ⟨M, 1, none⟩ (.complex .f64 (fl (a + z.w)) (fl (q + t)))) := ((K6.out.all (S := Out O Rd)).setCell (p := ⟨M, 0, none⟩) (.inl nM) _).setCell (p := ⟨M, 1, none⟩) (.inl nM) _
      refine ⟨kk, kp_put (G1.out.trans K6.out) (by omega), (R6.out.b0.kp (Kp.set1 _ _ _ _) fun e => by have : w.heap.size = M := e; omega).kp (Kp.set1 _ _ _ _) fun e => by have : w.heap.size = M := e; omega, ?_, fun k ho => by have := h7' k ho; have := kk.size; omega, by have := kk.size; omega⟩
      rw [List.length_append, List.length_singleton, HAQ.out.1, HAQ.out.2]
      have := (g46.put 0 (.int .i64 s.base)).put 1 (.complex .f64 (fl (a + z.w)) (fl (q + t)))
      simpa using this

end
end Go.Proofs.Ytpbnmfoecmhnnaa
