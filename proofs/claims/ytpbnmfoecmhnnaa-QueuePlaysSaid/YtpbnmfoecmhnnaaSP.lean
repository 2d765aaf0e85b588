/-
  Contract: told.
-/
import Derived.Test.YtpbnmfoecmhnnaaSOpen
namespace Go.Proofs.Ytpbnmfoecmhnnaa
open Go.RowKit Go.Shelf

attribute [local go_sem] Oper.semAt_some

/-- append of one element onto what is owned, in a round. -/
theorem wpIn_one {P : Program} {t e : TypeId} {α : Type} {n bytes : Nat} {z : Value} {f : α → Nat → Value} (u : Us P t e n bytes z) (hf : ∀ x i, (f x i).oneCell' = true) {l m : Nat} {ops : Array Oper} {rest : List Oper} {o : Oper} {a : Act} {w : World} {Q : Exit → Act → World → Prop} (hw : Region.wanted o (yielded ops a.tmps) = true) (s x : Operand)
    (ho : o.op = .call { callee := .builtin .append, args := #[s, x], argTypes := #[t, t] }) {base : Nat} {xs : List α} (y : α) {q : Nat} (v : Value) (hv : a.eval s = v) (hown : Ow w base e n f v xs) (hx : a.eval x = .slice (some ⟨q, 0, none⟩) 1 1) (hy : ∀ i, i < n → w.cell? ⟨q, i, none⟩ = some (f y i))
    (hle : (xs.length + 1) * bytes ≤ 140737488355328) (h63 : xs.length + 1 ≤ maxLen) (hbase : base ≤ w.heap.size)
    (h : ∀ v' w', Ow w' base e n f v' (xs ++ [y]) → w.grownBy w' v.ownBlock → (v'.ownBlock = v.ownBlock ∨ v'.ownBlock = some w.heap.size) → wpListIn (Fence.wide.inRound l) m P ops Q rest (a.put o.dst v') w') : wpListIn (Fence.wide.inRound l) m P ops Q (o :: rest) a w := by
  refine BigFrame.wpListIn_want hw fun K hK => op_in l m (fun c hc => by rw [ho] at hc; cases hc) ?_
  obtain ⟨i, hi, hz, hs, hb⟩ := info_parts u.info
  obtain ⟨v', w', hrun, h2, h3, _, h5⟩ := run_append_own_at (P := P) w base t o.type e i z n bytes u.un hi hz hs hb u.zero u.pos v xs.length _ hown ⟨q, 0, none⟩ 1 1 (flat n f [y]) (flat_len [y]) (fun j p hp => by
      obtain ⟨k, i, hk, hi, rfl, rfl⟩ := flat_get (d := y) [y] hp
      have hk0 : k = 0 := by simpa using hk
      subst hk0
      have ha : (⟨q, 0, none⟩ : Addr).add (0 * n + i) = ⟨q, i, none⟩ := by unfold Addr.add; split <;> simp_all
      rw [ha, hy i hi]
      simp) (flat_one hf [y]) h63 hle hbase
  unfold Oper.wp execOp
  simp only [ho, resolve, invoke, builtin, Sem.run_bind, Sem.run_pure, Result.andThen_ok, List.map_toArray, List.map_cons, List.map_nil, hv, hx, hrun]
  refine hK _ _ (h v' w' ?_ h3 h5)
  unfold Ow
  rw [List.length_append, flat_app]
  exact h2

section
variable {w w' : World} {g b c n top : Nat} {nd nd' : Nat → Nd} {S : Nat → Prop}

theorem Ow.kpv {α : Type} {n : Nat} {f : α → Nat → Value} {base : Nat} {e : TypeId} {v : Value} {xs : List α} (h : Ow w base e n f v xs) (k : Kp S w w') (hs : ∀ i, OV v i → ¬ S i) : Ow w' base e n f v xs := by
  refine ⟨h.1, ?_⟩
  rcases h.2 with hn | ⟨g, cap, cur, rfl, hb, hg, r⟩
  · exact .inl hn
  · exact .inr ⟨g, cap, cur, rfl, hb, (k.block g (Array.getElem?_eq_some_iff.1 hg).1 (hs g rfl)).trans hg, r⟩
theorem infoItem : (Try.prog.info? 24).map (fun i => (i.zero, i.size, i.bytes)) = some (some (.agg #[.int .i64 0, .int .i64 0]), 2, 16) := by kernel_rfl
theorem usItem : Us Try.prog 28 24 2 16 (.agg #[.int .i64 0, .int .i64 0]) := ⟨by kernel_rfl, infoItem, by kernel_rfl, by omega⟩

theorem en_snd (i : Nat) (l : List It) : (en i l).map Prod.snd = l := by
  induction l generalizing i with
  | nil => rfl
  | cons x l ih => simp [en, ih]
theorem en_split {i : Nat} {l : List It} {pre rest : List (Nat × It)} {x : Nat × It} (h : en i l = pre ++ x :: rest) : x.1 = i + pre.length := by
  induction l generalizing i pre with
  | nil => simp [en] at h
  | cons y l ih =>
    cases pre with
    | nil =>
      simp only [en, List.nil_append, List.cons.injEq] at h
      rw [← h.1]
      simp
    | cons p pre =>
      simp only [en, List.cons_append, List.cons.injEq] at h
      rw [ih h.2]
      simp only [List.length_cons]
      omega

/-- Between two rounds of told. -/
def TI (w : World) (q : Nat) (O : Nat → Prop) (pre : List (Nat × It)) (W : World) : Prop :=
  ∃ v, Kp No w W ∧ Blk W q 28 #[.slice none 0 0] ∧ Blk W (q + 1) 4 #[.bool false] ∧ Blk W (q + 1 + 1) 28 #[v] ∧ Ow W w.heap.size 24 2 itc v (pre.map Prod.snd) ∧ (∀ k, OV v k → ¬ O k ∧ q + 3 < k) ∧ (∀ k, O k → q + 3 < k ∧ k < W.heap.size) ∧ q + 3 < W.heap.size
theorem TI.ab (w : World) (q : Nat) (hq : w.heap.size ≤ q) : AbO (TI w q) := by
  rintro O O' pre W W' ⟨v, h1, h2, h3, h4, h5, h6, h7, h8⟩ hk hO
  have hs := hk.size
  refine ⟨v, h1.step hk fun i hi e => absurd (h7 i e).1 (by omega), h2.kp hk (fun e => absurd (h7 _ e).1 (by omega)), h3.kp hk (fun e => absurd (h7 _ e).1 (by omega)), h4.kp hk (fun e => absurd (h7 _ e).1 (by omega)), h5.kpv hk fun i hi => (h6 i hi).1, fun k hv => ⟨fun e => ?_, (h6 k hv).2⟩, fun k e => ?_, by omega⟩
  · have hlt := (World.ownsRow.lt h5 k hv).2
    rcases hO k e with e | e
    · exact (h6 k hv).1 e
    · omega
  · rcases hO k e with e | e
    · have := h7 k e
      omega
    · omega

set_option maxRecDepth 100000 in
set_option maxHeartbeats 1000000 in
theorem told_any {l : List It} (h : Shf w g S l) (hl : l.length ≤ 1000000) :
    Calls Try.prog 26 #[.pointer (some ⟨g, 0, none⟩)] w fun e w' => ∃ v, e = .returned (.tuple #[v, .bool true]) ∧ Kp No w w' ∧ Ow w' w.heap.size 24 2 itc v l := by
  refine (callsIn_wide (n := 5)).1 ?_
  refine callsIn_of_wp_marks Try.func26 rfl trivial ?_ rfl
  simp only [Try.ntmps26, List.size_toArray, List.length_cons, List.length_nil, Nat.reduceAdd, Nat.reduceSub, Array.replicate_succ, Array.replicate_zero, List.push_toArray, List.append_toArray, List.nil_append, List.cons_append]
  gi_wp2_with (refine ⟨trivial, ?_⟩; gi_at_call 36; refine (callsIn_wide.2 (all_any _ _)).mono ?_; rintro e w' ⟨rfl, rfl⟩)
  have b0 : Blk _ w.heap.size 28 #[.slice none 0 0] := (((Blk.new w 28 #[.slice none 0 0]).kp0 ((Kp.refl No _).alloc (.cells #[.bool false] 4))).kp0 ((Kp.refl No _).alloc (.cells #[.slice none 0 0] 28))).kp0 ((Kp.refl No _).alloc (.cells #[.pointer (some ⟨g, 0, none⟩)] 26))
  have b1 : Blk _ (w.heap.size + 1) 4 #[.bool false] := (((Blk.new (w.alloc (.cells #[.slice none 0 0] 28)) 4 #[.bool false]).next (by simp)).kp0 ((Kp.refl No _).alloc (.cells #[.slice none 0 0] 28))).kp0 ((Kp.refl No _).alloc (.cells #[.pointer (some ⟨g, 0, none⟩)] 26))
  have b2 : Blk _ (w.heap.size + 1 + 1) 28 #[.slice none 0 0] := ((Blk.new ((w.alloc (.cells #[.slice none 0 0] 28)).alloc (.cells #[.bool false] 4)) 28 #[.slice none 0 0]).next (by simp)).kp0 ((Kp.refl No _).alloc (.cells #[.pointer (some ⟨g, 0, none⟩)] 26))
  have b3 : Blk _ (w.heap.size + 1 + 1 + 1) 26 #[.pointer (some ⟨g, 0, none⟩)] := (Blk.new (((w.alloc (.cells #[.slice none 0 0] 28)).alloc (.cells #[.bool false] 4)).alloc (.cells #[.slice none 0 0] 28)) 26 #[.pointer (some ⟨g, 0, none⟩)]).next (by simp)
  have k0 : Kp No w _ := ((((Kp.refl No w).alloc (.cells #[.slice none 0 0] 28)).alloc (.cells #[.bool false] 4)).alloc (.cells #[.slice none 0 0] 28)).alloc (.cells #[.pointer (some ⟨g, 0, none⟩)] 26)
  have hz : _ = w.heap.size + 4 := show ((((w.alloc (.cells #[.slice none 0 0] 28)).alloc (.cells #[.bool false] 4)).alloc (.cells #[.slice none 0 0] 28)).alloc (.cells #[.pointer (some ⟨g, 0, none⟩)] 26)).heap.size = w.heap.size + 4 by simp
  generalize ((((w.alloc (.cells #[.slice none 0 0] 28)).alloc (.cells #[.bool false] 4)).alloc (.cells #[.slice none 0 0] 28)).alloc (.cells #[.pointer (some ⟨g, 0, none⟩)] 26)) = W0 at b0 b1 b2 b3 k0 hz ⊢
  obtain ⟨Rd, hRd, hseq⟩ := All_seq (h.mono (T := fun k => k < w.heap.size) (fun i hi _ => hi) |>.kp0 k0) _ b3
  have i0 : TI w w.heap.size No [] W0 := ⟨_, k0, b0, b1, b2, Ow.nil _ _ _ _ _, (fun k hk => by cases hk), (fun k hk => hk.elim), by omega⟩
  have I0 := hid i0
  have SQ := hid hseq
  have HZ := hid hz
  have HRd := hid hRd
  clear i0 hseq hz hRd b0 b1 b2 b3 k0 h
  refine range_own (gf := 62) (lb := #[.pointer (some ⟨w.heap.size + 1 + 1 + 1, 0, none⟩)]) rfl (enters_of Try.func62 (by kernel_rfl) rfl)
    SQ.out (fun k hk => (HRd.out k hk).1) (fun _ => rfl) (TI w w.heap.size) (fun _ _ _ _ => False) (TI.ab w _ (Nat.le_refl _)) (fun _ _ _ _ _ _ h => h.elim) I0.out ?round ?done ?stop
  case stop => exact fun _ _ _ _ _ _ _ _ _ h => h.elim
  case done =>
    rintro D O W hD hO ⟨v, h1, h2, h3, h4, h5, h6, h7, h8⟩ hK
    rw [en_snd] at h5
    obtain ⟨A, vc, rfl⟩ := h5.formN rfl
    have c0 := h2.cell 0
    have c1 := h3.cell 0
    have c2 := h4.cell 0
    have f0 := h2.frozen 0
    have f1 := h3.frozen 0
    simp at c0 c1 c2
    gi_wp2
    have hD2 := HZ.out
    have hK2 : ((W.setCell ⟨w.heap.size, 0, none⟩ (.slice A l.length vc)).setCell ⟨w.heap.size + 1, 0, none⟩ (.bool true)).heap[D]? = some (.deferred (some [])) :=
      (Below.heap_setCell _ ⟨w.heap.size + 1, 0, none⟩ _ D (by simp only; omega)).trans ((Below.heap_setCell W ⟨w.heap.size, 0, none⟩ _ D (by simp only; omega)).trans hK)
    have ks : Kp (fun k => k = w.heap.size ∨ k = w.heap.size + 1) W ((W.setCell ⟨w.heap.size, 0, none⟩ (.slice A l.length vc)).setCell ⟨w.heap.size + 1, 0, none⟩ (.bool true)) := ((Kp.refl _ W).setCell (p := ⟨w.heap.size, 0, none⟩) (.inl (.inl rfl)) _).setCell (p := ⟨w.heap.size + 1, 0, none⟩) (.inl (.inr rfl)) _
    have bq : Blk ((W.setCell ⟨w.heap.size, 0, none⟩ (.slice A l.length vc)).setCell ⟨w.heap.size + 1, 0, none⟩ (.bool true)) w.heap.size 28 #[.slice A l.length vc] := (h2.put 0 _).kp (Kp.set1 _ _ _ _) (fun e => by have : w.heap.size = w.heap.size + 1 := e; omega)
    have bq1 : Blk ((W.setCell ⟨w.heap.size, 0, none⟩ (.slice A l.length vc)).setCell ⟨w.heap.size + 1, 0, none⟩ (.bool true)) (w.heap.size + 1) 4 #[.bool true] := (h3.kp (Kp.set1 _ _ _ _) (fun e => by have : w.heap.size + 1 = w.heap.size := e; omega)).put 0 _
    generalize (W.setCell ⟨w.heap.size, 0, none⟩ (.slice A l.length vc)).setCell ⟨w.heap.size + 1, 0, none⟩ (.bool true) = WF at hK2 ks bq bq1 ⊢
    have kp := Kp.put1 D WF (.deferred none)
    have e0 := (bq.kp kp (fun e => by have : w.heap.size = D := e; omega)).cell 0
    have e1 := (bq1.kp kp (fun e => by have : w.heap.size + 1 = D := e; omega)).cell 0
    simp at e0 e1
    refine ⟨by simp, .inl ⟨_, _, rfl, run_takeDeferred hK2, ?_⟩⟩
    refine ⟨.tuple #[.slice A l.length vc, .bool true], by simp [results, Try.results26, go_sem, e0, e1], _, rfl, ?_, ?_⟩
    · exact (h1.step ks fun i hi e => by omega).step kp fun i hi e => by have : i = D := e; omega
    · refine (h5.kpv ks fun i hi e => ?_).kpv kp fun i hi e => ?_
      · have := (h6 i hi).2
        omega
      · have : i = D := e
        subst this
        exact (h6 i hi).1 hO
  case round =>
    rintro l' O pre x rest W hx hOl hl1 hl2 ⟨v, h1, h2, h3, h4, h5, h6, h7, h8⟩
    have hx1 := en_split hx
    have hpl : pre.length < l.length := by
      have := congrArg List.length hx
      rw [← List.length_map (f := Prod.snd), en_snd] at this
      simp at this
      omega
    obtain ⟨xr, x⟩ := x
    simp only [Nat.zero_add] at hx1
    subst hx1
    obtain ⟨A, vc, rfl⟩ := h5.formN (m := pre.length) (by simp)
    clear hx
    dsimp only
    gi_wp2
    refine ⟨(Kp.refl _ _).alloc _, fun W2 hk2 => ?_⟩
    have hl3 := (h7 l' hOl).1
    have hOb : ∀ k, O k → W2.heap.size ≤ k → False := fun k ho hk => by have := (h7 k ho).2; have := hk2.size; simp at this; omega
    have h7' : ∀ k, O k → w.heap.size + 3 < k ∧ k < W2.heap.size := fun k ho => by have := h7 k ho; have := hk2.size; simp at this; omega
    have bX : Blk W2 W.heap.size 24 #[.int .i64 x.key, .int .i64 x.id] := (Blk.new W 24 _).kp hk2 (fun e => by have : W.heap.size = l' := e; omega)
    have kA : Kp (Only l') W W2 := ((Kp.refl (Only l') W).alloc _).trans hk2
    have g2 := h2.kp kA (fun e => by have : w.heap.size = l' := e; omega)
    have g3 := h3.kp kA (fun e => by have : w.heap.size + 1 = l' := e; omega)
    have g4 := h4.kp kA (fun e => by have : w.heap.size + 1 + 1 = l' := e; omega)
    have g5 := h5.kpv kA fun i hi e => (h6 i hi).1 (by have : i = l' := e; rw [this]; exact hOl)
    have g1 : Kp No w W2 := h1.step kA fun i hi e => by have : i = l' := e; omega
    have hW2 := kA.size
    have hw2 := g1.size
    have c4 := g4.cell 0
    have f4 := g4.frozen 0
    have x0 := bX.cell 0
    have x1 := bX.cell 1
    have hxl := bX.lt
    simp at c4 x0 x1
    have G5 := hid g5
    have G6 := hid h6
    clear h1 h2 h3 h4 h5 h6 kA hk2 bX
    gi_wp2_with (first
      | (gi_at_builtin
         refine wpIn_one usItem itc_one rfl (.tmp 15) (.tmp 17) rfl x _ (by rfl) (G5.out.kp0 ((Kp.refl No _).alloc _)) (by rfl) (fun i hi => by
           have hb := Blk.new W2 24 #[.int .i64 x.key, .int .i64 x.id]
           match i, hi with
           | 0, _ => exact hb.cell 0
           | 1, _ => exact hb.cell 1) (by simp; omega) (by simp [maxLen]; omega) (by simp; omega) ?_
         intro v1 w7 o7 q7 p7
         obtain ⟨A1, c1, rfl⟩ := o7.formN (m := pre.length + 1) (by simp)
         have K7 : Kp (OV (.slice A pre.length vc)) W2 w7 := ((Kp.refl _ W2).alloc _).grown q7 fun k hk => .inl hk
         have g47 := g4.kp K7 fun e => by have := (G6.out _ e).2; omega
         have c47 := g47.cell 0
         have f47 := g47.frozen 0
         simp at c47))
    have ks := Kp.set1 (w.heap.size + 1 + 1) 0 w7 (.slice A1 (pre.length + 1) c1)
    have hz := HZ.out
    have nR : ∀ k, Rd k → k = w.heap.size + 1 + 1 + 1 ∨ k < w.heap.size := fun k hk => (HRd.out k hk).2
    have ob : ∀ k, OV (.slice A1 (pre.length + 1) c1) k → ¬ O k ∧ w.heap.size + 3 < k := fun k hk => by
      rcases p7 with e | e
      · exact G6.out k (e.symm.trans hk)
      · have : k = W2.heap.size + 1 := by
          have := e.symm.trans hk
          simpa using this.symm
        exact ⟨fun ho => hOb k ho (by omega), by omega⟩
    have kk : Kp (Out O Rd) W2 (w7.setCell ⟨w.heap.size + 1 + 1, 0, none⟩ (.slice A1 (pre.length + 1) c1)) := by
      refine (K7.mono fun k _ hk => ⟨(G6.out k hk).1, fun hr => ?_⟩).setCell (p := ⟨w.heap.size + 1 + 1, 0, none⟩) (.inl ⟨fun ho => absurd (h7 _ ho).1 (by simp only; omega), fun hr => ?_⟩) _
      · have h9 := (G6.out k hk).2
        rcases nR k hr with e | e <;> omega
      · rcases nR _ hr with e | e <;> simp only at e <;> omega
    have hk7 := K7.size
    refine ⟨kk, _, ?_, ?_, ?_, g47.put 0 _, ?_, ob, (fun k ho => by have := h7' k ho; have := kk.size; omega), by have := kk.size; omega⟩
    · exact (g1.step K7 fun i hi e => absurd (G6.out i e).2 (by omega)).setCell (p := ⟨w.heap.size + 1 + 1, 0, none⟩) (.inr (by simp only; omega)) _
    · exact (g2.kp K7 fun e => absurd (G6.out _ e).2 (by omega)).kp ks (fun e => by have : w.heap.size = w.heap.size + 1 + 1 := e; omega)
    · exact (g3.kp K7 fun e => absurd (G6.out _ e).2 (by omega)).kp ks (fun e => by have : w.heap.size + 1 = w.heap.size + 1 + 1 := e; omega)
    · rw [List.map_append]
      exact o7.kpv ks fun i hi e => by
        have h9 := (ob i hi).2
        have : i = w.heap.size + 1 + 1 := e
        omega
end
end Go.Proofs.Ytpbnmfoecmhnnaa
