/-
  Contract of below.
-/
import Derived.Test.YtggmdgdgljlddaaNBelA
import Derived.Test.YtggmdgdgljlddaaRan2
import Derived.Test.YtggmdgdgljlddaaStill
namespace Go.Proofs.Ytggmdgdgljlddaa
open Go.RowKit Go.Shelf

attribute [local go_sem] Oper.semAt_some

theorem nil_or_snoc {α : Type} (l : List α) : l = [] ∨ ∃ p y, l = p ++ [y] := by
  cases h : l.reverse with
  | nil => exact .inl (by simpa using h)
  | cons y r => exact .inr ⟨r.reverse, y, by have := congrArg List.reverse h; simpa using this⟩
/-- What is still to be seen, the last one first, with all below. -/
def rs (T : Tre) (st : List (Int × Nat)) : List (Int × Nat) := st.reverse.flatMap fun p => Und T p.1 p.2
theorem rs_snoc (T : Tre) (st : List (Int × Nat)) (y : Int × Nat) : rs T (st ++ [y]) = Und T y.1 y.2 ++ rs T st := by simp [rs]
theorem rs_kids (T : Tre) (st : List (Int × Nat)) (ks : List Int) (d : Nat) : rs T (st ++ ks.reverse.map fun z => (z, d)) = ks.flatMap (fun z => Und T z d) ++ rs T st := by
  unfold rs
  rw [List.reverse_append, List.flatMap_append, ← List.map_reverse, List.reverse_reverse, List.flatMap_map]
theorem fl_len {α β : Type} (f : α → List β) : ∀ l : List α, (∀ y, 1 ≤ (f y).length) → l.length ≤ (l.flatMap f).length
  | [], _ => by simp
  | y :: l, h => by
    have := fl_len f l h
    have := h y
    rw [List.flatMap_cons, List.length_append, List.length_cons]
    omega
theorem wp_then_calm {P : Program} {c : Code} {K : Act → World → Prop} {Q : Exit → Act → World → Prop} {a : Act} {w : World} (h : c.wp P (Exit.then K fun _ _ _ => False) a w) : c.wp P (Exit.then K Q) a w :=
  Code.wp_mono (fun e a w h => by cases e <;> first | exact h | exact h.elim) h
theorem und_one (T : Tre) (x : Int) (d : Nat) : 1 ≤ (Und T x d).length := by
  show 1 ≤ (und T 17 x d).length
  unfold und
  simp
theorem und_self (T : Tre) (x : Int) (d : Nat) : (x, d) ∈ Und T x d := by
  show (x, d) ∈ und T 17 x d
  unfold und
  exact List.mem_cons_self
section
variable {T : Tre} {D : Int → Nat} {w : World} {S P : Nat → Prop} {g m cnt : Nat} {x : Int}
theorem place_in (W : WT T D) {p : Int × Nat} (h : p ∈ places T x) : (∃ q, T p.1 = some q) ∧ p.2 ≤ 16 := by
  unfold places at h
  cases hx : T x with
  | none => rw [hx] at h; cases h
  | some q =>
    rw [hx] at h
    obtain ⟨h1, _, h3, _⟩ := und_down W 17 x 0 ⟨q, hx⟩ p.1 p.2 h
    obtain ⟨q', hq'⟩ := h1
    have := W.d16 hq'
    exact ⟨⟨q', hq'⟩, by omega⟩
theorem places_len (W : WT T D) (x : Int) : (places T x).length ≤ 1048577 := by
  have := under_len W x
  unfold under at this
  rwa [List.length_map] at this
/-- append of one element onto what is owned, in a round. -/
theorem wpi_app1 {P : Program} {α : Type} {n bytes : Nat} {z : Value} {f : α → Nat → Value} {t e : TypeId} {base : Nat} {xs : List α} {y : α} {w : World} (u : Us P t e n bytes z) (hf : ∀ x i, (f x i).oneCell' = true) {ops : Array Oper} {rest : List Oper} {o : Oper} {a : Act} {Q : Exit → Act → World → Prop} {l0 d : Nat} (hw : Region.wanted o (yielded ops a.tmps) = true) (s x : Operand)
    (ho : o.op = .call { callee := .builtin .append, args := #[s, x], argTypes := #[t, t] }) {q : Nat} (hown : Ow w base e n f (a.eval s) xs) (hx : a.eval x = .slice (some ⟨q, 0, none⟩) 1 1) (hq : ∀ i, i < n → w.cell? ⟨q, i, none⟩ = some (f y i))
    (hle : (xs.length + 1) * bytes ≤ 140737488355328) (h63 : xs.length + 1 ≤ maxLen) (hbase : base ≤ w.heap.size)
    (h : ∀ v' w', Ow w' base e n f v' (xs ++ [y]) → w.grownBy w' (a.eval s).ownBlock → (v'.ownBlock = (a.eval s).ownBlock ∨ v'.ownBlock = some w.heap.size) → wpListIn (Fence.wide.inRound l0) d P ops Q rest (a.put o.dst v') w') : wpListIn (Fence.wide.inRound l0) d P ops Q (o :: rest) a w := by
  unfold wpListIn
  rw [if_pos hw]
  refine op_in l0 d (fun c hc => by rw [ho] at hc; cases hc) ?_
  obtain ⟨v', w', hrun, h2, h3, h5⟩ := run_app1 (P := P) (ty := o.type) u hf hown hq hle h63 hbase
  unfold Oper.wp execOp
  simp only [ho, hx, resolve, invoke, builtin, Sem.run_bind, Sem.run_pure, Result.andThen_ok, List.map_toArray, List.map_cons, List.map_nil, hrun]
  exact h v' w' h2 h3 h5
/-- Between two rounds over a place's kids. -/
structure BI (w : World) (v : Value) (al st : List (Int × Nat)) (ms : List Nat) (xb B b : Nat) (xcs : Array Value) (O : Nat → Prop) (sv : Value) (W : World) : Prop where
  j : BJ w w.heap.size v sv al st ms W
  x : Blk W xb 53 xcs
  xl : w.heap.size < xb
  nx : sv.ownBlock ≠ some xb
  no : ∀ k, (Mine w.heap.size v sv ms k ∨ k = xb) → ¬ O k ∧ k ≠ B ∧ k ≠ b
  ol : ∀ k, O k → w.heap.size ≤ k ∧ k < W.heap.size
theorem BI.ab {w : World} {v : Value} {al : List (Int × Nat)} {ms : List Nat} {xb B b : Nat} {xcs : Array Value} {β : Type} (st : β → List (Int × Nat)) : AbO (fun O (pre : β) W => ∃ sv, BI w v al (st pre) ms xb B b xcs O sv W) := by
  rintro O O' pre A A' ⟨sv, h⟩ hk hO
  refine ⟨sv, h.j.step hk (fun i hi => (h.no i (.inl hi)).1) fun i hi e => ?_, h.x.kp hk (h.no xb (.inr rfl)).1, h.xl, h.nx, fun k hk' => ⟨fun e => ?_, (h.no k hk').2⟩, fun k e => ?_⟩
  · have := (h.ol i e).1
    omega
  · rcases hO k e with e | e
    · exact (h.no k hk').1 e
    · rcases hk' with hk' | rfl
      · have := (h.j.mlt hk').2
        omega
      · have := h.x.lt
        omega
  · rcases hO k e with e | e
    · exact ⟨(h.ol k e).1, Nat.lt_of_lt_of_le (h.ol k e).2 hk.size⟩
    · exact ⟨Nat.le_trans h.j.kp.size e.1, e.2⟩
def BelPost (T : Tre) (x : Int) (w : World) (e : Ending) (w' : World) : Prop := ∃ v, e = .returned v ∧ Ow w' w.heap.size 53 2 pf v (places T x) ∧ Kp No w w'
def BelJ (w : World) (g : Nat) (x : Int) (T : Tre) (k : Nat) (a : Act) (w' : World) : Prop := ∃ (v sv : Value) (al st : List (Int × Nat)) (ms : List Nat) (u7 u8 u9 u10 u11 u12 u13 u14 u15 u16 u17 u18 u19 u20 u21 u22 u23 u24 u25 u26 u27 u28 u29 u30 u31 u32 u33 u34 u35 u36 u37 u38 u39 u40 u41 u42 u43 u44 u45 u46 u47 u48 u49 u50 u51 u52 u53 u54 : Value),
  a = { tmps := #[.pointer (some ⟨g, 0, none⟩), .int .i64 x, undef, undef, .slice none 0 0, v, .pointer (some ⟨w.heap.size, 0, none⟩), u7, u8, u9, u10, u11, u12, u13, u14, u15, u16, u17, u18, u19, u20, u21, u22, u23, u24, u25, u26, u27, u28, u29, u30, u31, u32, u33, u34, u35, u36, u37, u38, u39, u40, u41, u42, u43, u44, u45, u46, u47, u48, u49, u50, u51, u52, u53, u54], defers := ms.map mkD } ∧ BJ w w.heap.size v sv al st ms w' ∧ places T x = al ++ rs T st ∧ k = (rs T st).length
set_option maxRecDepth 100000 in
set_option maxHeartbeats 2000000 in
theorem below_any (W : WT T D) (h : Kn w S g m T cnt) (hx : I64 x) : Calls Try.prog 27 #[.pointer (some ⟨g, 0, none⟩), .int .i64 x] w (BelPost T x w) := by
  have HW := hid W
  have HK := hid h
  have HLT := hid h.lt
  have PI := hid (fun p (hp : p ∈ places T x) => place_in W hp)
  have PL := hid (places_len W x)
  clear W h
  refine (callsIn_wide (n := 5)).1 ?_
  refine callsIn_of_wp_marks Try.func27 rfl trivial ?_ rfl
  simp only [Try.ntmps27, List.size_toArray, List.length_cons, List.length_nil, Nat.reduceAdd, Nat.reduceSub, Array.replicate_succ, Array.replicate_zero, List.push_toArray, List.append_toArray, List.nil_append, List.cons_append]
  refine wpIn_wide.2 ?_
  go_wp2_with fail
  refine wp_scope_idx 0 (BelJ w g x T) rfl ?_ ?_
  · rintro k a W ⟨v, sv, al, st, ms, u7, u8, u9, u10, u11, u12, u13, u14, u15, u16, u17, u18, u19, u20, u21, u22, u23, u24, u25, u26, u27, u28, u29, u30, u31, u32, u33, u34, u35, u36, u37, u38, u39, u40, u41, u42, u43, u44, u45, u46, u47, u48, u49, u50, u51, u52, u53, u54, rfl, hJ, hpl, rfl⟩
    have HJ := hid hJ
    have HPL := hid hpl
    have hbx := hJ.bx.cell 0
    simp only [List.getElem?_toArray, List.getElem?_cons_zero] at hbx
    rcases nil_or_snoc st with rfl | ⟨st, y, rfl⟩
    · obtain ⟨A, c, rfl⟩ := hJ.st.formN rfl
      rw [List.length_nil] at hbx
      clear hJ hpl
      go_wp2_with fail
      refine marks_taken ms _ HJ.out.nd (fun D hD => (HJ.out.dm D hD).2) fun w2 k2 => ?_
      refine ⟨v, by simp [results, Try.results27, go_sem], v, rfl, ?_, HJ.out.kp.step k2 fun i hi e => by have := (HJ.out.dm i e).1; omega⟩
      have := HPL.out
      rw [show rs T [] = [] from rfl, List.append_nil] at this
      rw [this]
      exact HJ.out.al.kpx k2 fun i e hm => (HJ.out.md hm).2.1 e
    · obtain ⟨b, c, rfl, ho, hc1, hbl, hbs, hcm, hcell⟩ := hJ.st.pop
      have HO := hid ho
      have hpy : y ∈ places T x := by
        rw [hpl, rs_snoc]
        exact List.mem_append_right _ (List.mem_append_left _ (und_self T y.1 y.2))
      obtain ⟨⟨q, hq⟩, hy16⟩ := PI.out y hpy
      have hlow := HW.out.low hq
      have HQ := hid hq
      have hst : st.length ≤ (rs T st).length := by
        have := fl_len (fun p : Int × Nat => Und T p.1 p.2) st.reverse (fun y => und_one T y.1 y.2)
        rwa [List.length_reverse] at this
      have HE := hid (show places T x = (al ++ [y]) ++ (q.2.flatMap (fun z => Und T z (y.2 + 1)) ++ rs T st) by
        rw [hpl, rs_snoc, Und_eq HW.out hq, List.append_assoc]
        rfl)
      have hal : al.length + 1 + ((q.2.flatMap (fun z => Und T z (y.2 + 1))).length + (rs T st).length) ≤ 1048577 := by
        have := PL.out
        rw [HE.out, List.length_append, List.length_append, List.length_append, List.length_singleton] at this
        exact this
      have hks := fl_len (fun z => Und T z (y.2 + 1)) q.2 (fun z => und_one T z _)
      have HK1 := hid (show (rs T (st ++ [y])).length = (q.2.flatMap (fun z => Und T z (y.2 + 1)) ++ rs T st).length + 1 by
        rw [rs_snoc, Und_eq HW.out hq, List.length_append, List.length_cons, List.length_append]
        omega)
      obtain ⟨yi, yd⟩ := y
      obtain ⟨qp, ks⟩ := q
      simp only at hlow hy16 hks hal HQ HE HK1
      have hyi : I64 yi := by unfold I64; omega
      obtain ⟨n, hn⟩ : ∃ n, st.length = n := ⟨_, rfl⟩
      rw [hn] at hbx
      have hd0 := hcell 0 (by omega)
      have hd1 := hcell 1 (by omega)
      simp only [pf, if_true, Nat.one_ne_zero, if_false, Nat.add_zero, hn] at hd0 hd1
      have HN := hid hn
      rw [hn] at hc1 hst
      have hwn : IntKind.i64.wrap (((n + 1 : Nat) : Int) - 1) = (n : Int) := by rw [wrapI (by unfold I64; omega)]; omega
      have hng : decide ((n : Int) < 0) = false := by simp
      clear hJ hpl ho hcell hpy hq hn
      go_upto_region 8 with fail
      have k01 := (Kp.refl No W).alloc (.cells #[.int .i64 yi, .int .i64 (yd : Int)] 53)
      have J1 := hid (HJ.out.kp0 k01)
      have X1 := hid (Blk.new W 53 #[.int .i64 yi, .int .i64 (yd : Int)])
      have O1 := hid (HO.out.kp0 k01)
      have hsz1 := World.size_alloc W (.cells #[.int .i64 yi, .int .i64 (yd : Int)] 53)
      have hvx : ∀ i, v.ownBlock = some i → i < W.heap.size := fun i e => (HJ.out.al.blk e).2.1
      have hsx : w.heap.size < W.heap.size := HJ.out.bx.lt
      generalize W.alloc (.cells #[.int .i64 yi, .int .i64 (yd : Int)] 53) = W1 at k01 J1 X1 O1 hsz1 ⊢
      obtain ⟨xb, hxb⟩ : ∃ xb, W.heap.size = xb := ⟨_, rfl⟩
      rw [hxb] at X1 hsz1 hbs hvx hsx ⊢
      have HVX := hid hvx
      clear hbx hd0 hd1 hxb k01 hvx
      have hbx : W1.cell? ⟨w.heap.size, 0, none⟩ = some (.slice (some ⟨b, 0, none⟩) (n + 1) c) := by have := J1.out.bx.cell 0; rw [HN.out] at this; exact this
      have hx0 := X1.out.cell 0
      have hx1 := X1.out.cell 1
      simp only [List.getElem?_toArray, List.getElem?_cons_zero, List.getElem?_cons_succ] at hx0 hx1
      have hg3 : (n : Int) ≤ (c : Int) := by omega
      have kz := hid ((Kp.refl No W1).alloc (.cells #[.int .i64 yi, .int .i64 (yd : Int)] 53)).drew
      have JZ := hid (J1.out.kp0 kz.out)
      have XZ := hid (X1.out.kp kz.out fun e => e)
      have OZ := hid (O1.out.kp0 kz.out)
      have z0 := (Blk.new W1 53 #[.int .i64 yi, .int .i64 (yd : Int)]).cell 0
      have z1 := (Blk.new W1 53 #[.int .i64 yi, .int .i64 (yd : Int)]).cell 1
      simp only [List.getElem?_toArray, List.getElem?_cons_zero, List.getElem?_cons_succ] at z0 z1
      rw [hsz1] at z0 z1
      have HZ := hid (And.intro z0 z1)
      clear z0 z1
      have hbz : (W1.alloc (.cells #[.int .i64 yi, .int .i64 (yd : Int)] 53)).cell? ⟨w.heap.size, 0, none⟩ = some (.slice (some ⟨b, 0, none⟩) (n + 1) c) := by have := JZ.out.bx.cell 0; rw [HN.out] at this; exact this
      go_cut [5] from 29 to 35 (fun x wx => ∃ v', x = v' ∧ Hid (BJ w w.heap.size v' (.slice (some ⟨b, 0, none⟩) n c) (al ++ [(yi, yd)]) st ms wx ∧ Blk wx xb 53 #[.int .i64 yi, .int .i64 (yd : Int)]))
      case first =>
        refine wp_then_calm ?_
        go_region_law (first
          | (refine step_app1 usP pf_one (by rfl) (.tmp 29) (.tmp 31) (by rfl) (base := w.heap.size) (xs := al) (y := (yi, yd)) (by rfl) (by exact JZ.out.al) (by rfl) (by
               intro i hi
               match i, hi with
               | 0, _ => exact HZ.out.1
               | 1, _ => exact HZ.out.2) (by omega) (by simp [maxLen]; omega) (by exact JZ.out.kp.size) ?_
             intro v7 w7 o7 k7 p7
             have kA := (Kp.refl (fun i => v.ownBlock = some i) _).grown k7 fun k hk => .inl hk
             have b7 := JZ.out.bx.kp kA fun e => JZ.out.bv e
             have c7 := b7.cell 0
             have f7 := b7.frozen 0
             rw [HN.out] at c7
             simp only [List.getElem?_toArray, List.getElem?_cons_zero] at c7
             have J7 := hid (JZ.out.pop OZ.out o7 k7 p7)
             have X7 := hid ((XZ.out.kp kA fun e => by have := HVX.out _ e; omega).kp (Kp.set1 w.heap.size 0 w7 (.slice (some ⟨b, 0, none⟩) st.length c)) fun e => by have e : xb = w.heap.size := e; omega)
             clear o7 k7 p7 kA b7))
        all_goals
          go_wp2_with fail
          go_meet
          rw [HN.out] at J7 X7
          exact ⟨_, rfl, hid ⟨J7.out, X7.out⟩⟩
      case rest =>
        obtain ⟨_, rfl, HC⟩ := hcut
        have JC := hid HC.out.1
        have XC := hid HC.out.2
        obtain ⟨f, hkf0⟩ := HK.out
        have hkf := hkf0.kp0 (JC.out.kp.drew)
        have cg := hkf.cell
        obtain ⟨a, hp, hr, hf, hlk⟩ := hkf.look hyi false
        have hbb : a.b.getD g < w.heap.size := by
          rcases hf with hf | ⟨_, rfl⟩
          · obtain ⟨q', _, _, hr0⟩ := hkf0.fo.row _ a hf
            cases hab : a.b with
            | none => exact HLT.out.1
            | some k => rw [hab] at hr0; exact hr0.lt
          · exact HLT.out.1
        rw [kids_some HQ.out] at hr
        obtain ⟨ap, ab, an, ac⟩ := a
        simp only at hr hbb
        unfold gev gsl at hlk
        simp only [Bool.false_eq_true, if_false] at hlk
        have x0 := XC.out.cell 0
        simp only [List.getElem?_toArray, List.getElem?_cons_zero] at x0
        have x0d : wc.drew.cell? ⟨xb, 0, none⟩ = some (.int .i64 yi) := x0
        have RD := hid hr
        have hwcs := JC.out.kp.size
        have XD := hid (XC.out.kp0 ((Kp.refl No wc).drew))
        have JD := hid (JC.out.kp0 ((Kp.refl No wc).drew))
        clear hkf0 hkf hp hf hr hbx hx0 hx1 hbz x0 HC
        go_wp2_with fail
        have hds : wc.drew.heap.size = wc.heap.size := rfl
        refine region_tail 8 (by kernel_rfl) (by kernel_rfl) ?_
        simp only [List.take_succ_cons, List.take_zero, List.drop_succ_cons, List.drop_zero]
        generalize wc.drew = wd at cg hlk x0d RD XD JD hds ⊢
        repeat still_step
        refine wpStill_nil ?_
        go_wp2_with (first
          | (go_at_call 33
             refine (backward_any _ rfl wd).mono ?_
             rintro e w5 ⟨rfl, rfl⟩))
        have yb := Blk.new wd 37 #[.slice (ga ab) an ac]
        have k5 := (Kp.refl No wd).alloc (.cells #[.slice (ga ab) an ac] 37)
        have z5 := World.size_alloc wd (.cells #[.slice (ga ab) an ac] 37)
        generalize wd.alloc (.cells #[.slice (ga ab) an ac] 37) = w5 at yb k5 z5 ⊢
        rw [hds] at yb z5
        have hr5 := RD.out.kp0 k5
        have X5 := hid (XD.out.kp0 k5)
        have J5 := hid (JD.out.kp0 k5)
        have hsz := JD.out.kp.size
        rw [hds] at hsz
        have hxl := XD.out.lt
        rw [hds] at hxl
        have hn5 := hr5.1
        have SQ := hid (backward_seq wc.heap.size (ab.getD g) ac (ga ab) ks w5 (by omega) (by have := yb.cell 0; rw [← hn5]; exact this) (fun h0 => by
          cases hab : ab with
          | none =>
            rw [hab] at hr5
            obtain ⟨_, _, h2⟩ := hr5.none_nil
            rw [h2] at h0
            simp at h0
          | some k =>
            rw [hab] at hbb
            exact ⟨rfl, by have : k < w.heap.size := hbb; show k < _; omega⟩) (fun j i hj hi => by
          have hi0 : i = 0 := by omega
          subst hi0
          cases hab : ab with
          | none =>
            rw [hab] at hr5
            obtain ⟨_, _, h2⟩ := hr5.none_nil
            rw [h2] at hj
            simp at hj
          | some k =>
            rw [hab] at hr5
            have := hr5.cell hj
            simpa using this) (by omega))
        have I0 := hid (show BI w u5 (al ++ [(yi, yd)]) st ms xb wc.heap.size (ab.getD g) #[.int .i64 yi, .int .i64 (yd : Int)] No (.slice (some ⟨b, 0, none⟩) n c) w5 from
          ⟨J5.out, X5.out, by omega, (fun e => by have e : b = xb := Option.some.inj e; omega), fun k hk => ⟨fun e => e, by
            rcases hk with hk | rfl
            · have h1 := JD.out.mlt hk
              rw [hds] at h1
              exact ⟨by omega, by omega⟩
            · exact ⟨by omega, by omega⟩⟩, fun k e => e.elim⟩)
        clear hr5 yb k5 x0d hlk cg
        refine (wpIn_wide (n := 5)).1 ?_
        refine range_own (gf := 38) (lb := #[.pointer (some ⟨wc.heap.size, 0, none⟩)]) rfl (enters_of Try.func38 (by kernel_rfl) rfl)
          SQ.out (fun k hk => by rcases hk with e | e <;> omega) (fun _ => rfl)
          (fun O pre W => ∃ sv, BI w u5 (al ++ [(yi, yd)]) (st ++ pre.map fun z : Nat × Int => (z.2, yd + 1)) ms xb wc.heap.size (ab.getD g) #[.int .i64 yi, .int .i64 (yd : Int)] O sv W)
          (fun _ _ _ _ => False) (BI.ab fun pre : List (Nat × Int) => st ++ pre.map fun z : Nat × Int => (z.2, yd + 1)) (fun _ _ _ _ _ _ h _ _ => h) ⟨_, by have := I0.out; simpa using this⟩ ?round ?done ?stop
        case stop =>
          rintro D' O c' pre rest W' _ _ _ h _
          exact h.elim
        case done =>
          rintro D' O W8 hD hO ⟨sv, hI⟩ hKD
          have hmk := hI.j.mark (D := D') (by omega) hKD (fun hm => (hI.no D' (.inl (.inr (.inr (.inr hm))))).1 hO)
          have HM := hid hmk
          clear hI hmk
          go_wp2_with fail
          go_step3
          have hrs := rs_kids T st ks (yd + 1)
          have hmap : ((bk ks ks.length).map fun z : Nat × Int => (z.2, yd + 1)) = ks.reverse.map fun z => (z, yd + 1) := by
            rw [← bk_map, List.map_map]
            rfl
          rw [← hmap] at hrs
          refine ⟨rfl, (rs T (st ++ (bk ks ks.length).map fun z : Nat × Int => (z.2, yd + 1))).length, ?_, _, _, _, _, D' :: ms, _, _, _, _, _, _, _, _, _, _, _, _, _, _, _, _, _, _, _, _, _, _, _, _, _, _, _, _, _, _, _, _, _, _, _, _, _, _, _, _, _, _, _, _, _, _, _, _, rfl, HM.out, ?_, rfl⟩
          · rw [hrs, HK1.out]
            omega
          · rw [hrs]
            exact HE.out
        case round =>
          rintro l' O pre z rest W6 hx6 hOl hl1 hl2 ⟨sv, hI⟩
          have hpl6 : pre.length + 1 + rest.length = ks.length := by
            have := congrArg List.length hx6
            simp [bk] at this
            omega
          dsimp only
          gi_wp2
          refine ⟨Kp.refl _ _, fun W7 hk7 => ?_⟩
          have hL : ∀ i, Only l' i → O i := fun i e => by cases e; exact hOl
          have J7 := hid (hI.j.step hk7 (fun i hi e => (hI.no i (.inl hi)).1 (hL i e)) fun i hi e => by have := (hI.ol i (hL i e)).1; omega)
          have X7 := hid (hI.x.kp hk7 fun e => (hI.no xb (.inr rfl)).1 (hL _ e))
          have NO7 := hid hI.no
          have NX7 := hid hI.nx
          have OL7 := hid (fun k (e : O k) => show w.heap.size ≤ k ∧ k < W7.heap.size from ⟨(hI.ol k e).1, Nat.lt_of_lt_of_le (hI.ol k e).2 hk7.size⟩)
          have hz7 := hk7.size
          have hb0 := J7.out.bx.cell 0
          have hbf := J7.out.bx.frozen 0
          have hx1 := X7.out.cell 1
          simp only [List.getElem?_toArray, List.getElem?_cons_zero, List.getElem?_cons_succ] at hb0 hx1
          have hwd : IntKind.i64.wrap ((yd : Int) + 1) = (yd : Int) + 1 := wrapI (by unfold I64; omega)
          have hal2 : (st ++ pre.map fun z : Nat × Int => (z.2, yd + 1)).length + 1 ≤ 1048577 := by rw [List.length_append, List.length_map, HN.out]; omega
          obtain ⟨M, hM⟩ : ∃ M, (st ++ pre.map fun z : Nat × Int => (z.2, yd + 1)).length = M := ⟨_, rfl⟩
          have HM := hid hM
          rw [hM] at hal2
          clear hM
          have KA := hid ((Kp.refl No W7).alloc (.cells #[.int .i64 z.2, .int .i64 ((yd : Int) + 1)] 53))
          have JA := hid (J7.out.kp0 KA.out)
          have z0 := (Blk.new W7 53 #[.int .i64 z.2, .int .i64 ((yd : Int) + 1)]).cell 0
          have z1 := (Blk.new W7 53 #[.int .i64 z.2, .int .i64 ((yd : Int) + 1)]).cell 1
          simp only [List.getElem?_toArray, List.getElem?_cons_zero, List.getElem?_cons_succ] at z0 z1
          have HZ := hid (And.intro z0 z1)
          clear hI hk7 z0 z1
          refine wpIn_block ?_
          refine region_lit_in (by kernel_rfl) (fun ⟨_, _, h⟩ => h.elim) ?_
          go_wp2_with (first
            | (at_builtin
               refine wp_app1 usP pf_one rfl (.tmp 47) (.tmp 53) rfl (base := w.heap.size) (y := (z.2, yd + 1)) (by exact JA.out.st) rfl (by
                 intro i hi
                 match i, hi with
                 | 0, _ => exact HZ.out.1
                 | 1, _ => exact HZ.out.2) (by rw [HM.out]; omega) (by rw [HM.out]; simp only [maxLen]; omega) (by exact JA.out.kp.size) ?_
               intro v8 w8 o8 k8 p8
               have f8 : w8.frozen? ⟨w.heap.size, 0, none⟩ = false := (JA.out.bx.kp ((Kp.refl (fun i => sv.ownBlock = some i) _).grown k8 fun k hk => .inl hk) fun e => JA.out.bs e).frozen 0
               have c8 := (JA.out.bx.kp ((Kp.refl (fun i => sv.ownBlock = some i) _).grown k8 fun k hk => .inl hk) fun e => JA.out.bs e).cell 0
               simp only [List.getElem?_toArray, List.getElem?_cons_zero] at c8
               have PP8 := hid p8
               obtain ⟨A8, q8, rfl⟩ := o8.formN (m := M + 1) (by rw [List.length_append, HM.out]; rfl)
               have P8 := hid (JA.out.push o8 k8 p8)
               clear o8 k8 p8))
          obtain ⟨P9, K9⟩ := P8.out
          have hz8 := World.size_alloc W7 (.cells #[.int .i64 z.2, .int .i64 ((yd : Int) + 1)] 53)
          have hX9 := (X7.out.kp0 KA.out).kp K9 fun e => by
            rcases e with e | e
            · omega
            · exact NX7.out e
          have hm : ∀ i, (i = w.heap.size ∨ sv.ownBlock = some i) → Mine w.heap.size u5 sv ms i := fun i e => by
            rcases e with e | e
            · exact .inl e
            · exact .inr (.inr (.inl e))
          refine ⟨(KA.out.all).step K9 fun i hi e => ?_, .slice A8 (M + 1) q8, ⟨?_, hX9, by omega, fun e => ?_, fun k hk => ?_, fun k e => ?_⟩⟩
          · obtain ⟨h1, h2, h3⟩ := NO7.out i (.inl (hm i e))
            exact ⟨h1, fun h => by rcases h with h | h; exact h2 h; exact h3 h⟩
          · rw [List.map_append, ← List.append_assoc]
            exact P9
          · rcases PP8.out with p | p
            · exact NX7.out (p.symm.trans e)
            · rw [p] at e
              have e := Option.some.inj e
              have := X7.out.lt
              omega
          · rcases hk with hk | rfl
            · rcases hk with hk | hk | hk | hk
              · exact NO7.out k (.inl (.inl hk))
              · exact NO7.out k (.inl (.inr (.inl hk)))
              · rcases PP8.out with p | p
                · exact NO7.out k (.inl (hm k (.inr (p.symm.trans hk))))
                · rw [p] at hk
                  have e := Option.some.inj hk
                  exact ⟨fun ho => by have := (OL7.out k ho).2; omega, by omega, by omega⟩
              · exact NO7.out k (.inl (.inr (.inr (.inr hk))))
            · exact NO7.out _ (.inr rfl)
          · have h1 := OL7.out k e
            have h2 := K9.size
            exact ⟨h1.1, by omega⟩
  · intro pass
    have J0 := hid (show BJ w w.heap.size (.slice none 0 0) (.slice none 0 0) [] [] [] (w.alloc (.cells #[.slice none 0 0] 50)) from
      ⟨(Kp.refl No w).alloc _, Ow.nil _ _ _ _ _, Blk.new _ _ _, Nat.le_refl _, Ow.nil _ _ _ _ _, fun k h => (by cases h), List.nodup_nil, fun D h => (by cases h)⟩)
    cases hT : T x with
    | none =>
      go_wp2_with (first
        | (go_at_call 13
           refine (has_any (HK.out.kp0 ((Kp.refl No w).alloc _)) hx).mono ?_
           rintro e w2 ⟨rfl, k2⟩
           rw [hT]
           simp only [Option.isSome_none]
           have J2 := hid (J0.out.kp0 k2)
           clear k2))
      go_step3
      have go_on := ‹∀ (a : Act) (w : World), Code.wp _ _ _ a w → _›
      exact go_on _ _ (pass _ _ _ ⟨_, _, [], [], [], _, _, _, _, _, _, _, _, _, _, _, _, _, _, _, _, _, _, _, _, _, _, _, _, _, _, _, _, _, _, _, _, _, _, _, _, _, _, _, _, _, _, _, _, _, _, _, _, rfl, J2.out, by unfold places; rw [hT]; rfl, rfl⟩)
    | some q =>
      go_wp2_with (first
        | (go_at_call 13
           refine (has_any (HK.out.kp0 ((Kp.refl No w).alloc _)) hx).mono ?_
           rintro e w2 ⟨rfl, k2⟩
           rw [hT]
           simp only [Option.isSome_some]
           have J2 := hid (J0.out.kp0 k2)
           have b2 := J2.out.bx.cell 0
           simp only [List.getElem?_toArray, List.getElem?_cons_zero] at b2
           have JA := hid (J2.out.kp0 ((Kp.refl No w2).alloc (.cells #[.int .i64 x, .int .i64 0] 53)))
           have z0 := (Blk.new w2 53 #[.int .i64 x, .int .i64 0]).cell 0
           have z1 := (Blk.new w2 53 #[.int .i64 x, .int .i64 0]).cell 1
           simp only [List.getElem?_toArray, List.getElem?_cons_zero, List.getElem?_cons_succ] at z0 z1
           have HZ := hid (And.intro z0 z1)
           clear k2 z0 z1)
        | (at_builtin
           refine wp_app1 usP pf_one rfl (.tmp 14) (.tmp 17) rfl (base := w.heap.size) (xs := []) (y := (x, 0)) (by exact JA.out.st) rfl (by
             intro i hi
             match i, hi with
             | 0, _ => exact HZ.out.1
             | 1, _ => exact HZ.out.2) (by simp) (by simp [maxLen]) (by exact JA.out.kp.size) ?_
           intro v8 w8 o8 k8 p8
           obtain ⟨A8, q8, rfl⟩ := o8.formN (m := 1) rfl
           have P8 := hid (JA.out.push (y := (x, 0)) o8 k8 p8).1
           have B8 := JA.out.bx.kp ((Kp.refl (fun i => (Value.slice none 0 0).ownBlock = some i) _).grown k8 fun k hk => .inl hk) fun e => JA.out.bs e
           have f8 : w8.frozen? ⟨w.heap.size, 0, none⟩ = false := B8.frozen 0
           have c8 := B8.cell 0
           simp only [List.getElem?_toArray, List.getElem?_cons_zero] at c8
           clear o8 k8 p8 B8))
      go_step3
      have go_on := ‹∀ (a : Act) (w : World), Code.wp _ _ _ a w → _›
      exact go_on _ _ (pass _ _ _ ⟨_, _, [], [(x, 0)], [], _, _, _, _, _, _, _, _, _, _, _, _, _, _, _, _, _, _, _, _, _, _, _, _, _, _, _, _, _, _, _, _, _, _, _, _, _, _, _, _, _, _, _, _, _, _, _, _, rfl, P8.out, by unfold places; rw [hT]; simp [rs], rfl⟩)
end
end Go.Proofs.Ytggmdgdgljlddaa
