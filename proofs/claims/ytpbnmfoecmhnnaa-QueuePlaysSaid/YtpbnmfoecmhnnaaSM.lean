/-
  The iterator over places: places, and what it gives to any body.
-/
import Derived.Test.YtpbnmfoecmhnnaaSL
import Derived.Test.YtpbnmfoecmhnnaaRan2
import Derived.Deep.Cut
namespace Go.Proofs.Ytpbnmfoecmhnnaa
open Go.RowKit Go.Shelf

attribute [local go_sem] Oper.semAt_some

/-- append of one element onto what is owned. -/
theorem wp_one {P : Program} {t e : TypeId} {α : Type} {n bytes : Nat} {z : Value} {f : α → Nat → Value} (u : Us P t e n bytes z) (hf : ∀ x i, (f x i).oneCell' = true) {ops : Array Oper} {rest : List Oper} {o : Oper} {a : Act} {w : World} {Q : Exit → Act → World → Prop} (hw : Region.wanted o (yielded ops a.tmps) = true) (s x : Operand)
    (ho : o.op = .call { callee := .builtin .append, args := #[s, x], argTypes := #[t, t] }) {base : Nat} {xs : List α} (y : α) {q : Nat} (v : Value) (hv : a.eval s = v) (hown : Ow w base e n f v xs) (hx : a.eval x = .slice (some ⟨q, 0, none⟩) 1 1) (hy : ∀ i, i < n → w.cell? ⟨q, i, none⟩ = some (f y i))
    (hle : (xs.length + 1) * bytes ≤ 140737488355328) (h63 : xs.length + 1 ≤ maxLen) (hbase : base ≤ w.heap.size)
    (h : ∀ v' w', Ow w' base e n f v' (xs ++ [y]) → w.grownBy w' v.ownBlock → (v'.ownBlock = v.ownBlock ∨ v'.ownBlock = some w.heap.size) → wpList P ops Q rest (a.put o.dst v') w') : wpList P ops Q (o :: rest) a w := by
  refine BigFrame.wpList_want hw fun K hK => ?_
  obtain ⟨i, hi, hz, hs, hb⟩ := info_parts u.info
  obtain ⟨v', w', hrun, h2, h3, _, h5⟩ := run_append_own_at (P := P) w base t o.type e i z n bytes u.un hi hz hs hb u.zero u.pos v xs.length _ hown ⟨q, 0, none⟩ 1 1 (flat n f [y]) (flat_len [y]) (fun j p hp => by
      obtain ⟨k, i, hk, hi, rfl, rfl⟩ := flat_get (d := y) [y] hp
      have hk0 : k = 0 := by simpa using hk
      subst hk0
      have ha : (⟨q, 0, none⟩ : Addr).add (0 * n + i) = ⟨q, i, none⟩ := by unfold Addr.add; split <;> simp_all
      rw [ha, hy i hi]
      simp) (flat_one hf [y]) h63 hle hbase
  unfold Oper.wp execOp
  simp only [ho, resolve, invoke, builtin, Sem.run_bind, Sem.run_pure, Result.andThen_ok, List.map_toArray, List.map_cons, List.map_nil, hv, hx, hrun]
  refine hK _ _ (h v' w' ?_ h3 h5)
  unfold Ow
  rw [List.length_append, flat_app]
  exact h2

section
variable {w w' : World} {g b c n top : Nat} {nd nd' : Nat → Nd} {S : Nat → Prop}

theorem infoInt : (Try.prog.info? 3).map (fun i => (i.zero, i.size, i.bytes)) = some (some (.int .i64 0), 1, 8) := by kernel_rfl
theorem usInt : Us Try.prog 89 3 1 8 (.int .i64 0) := ⟨by kernel_rfl, infoInt, by kernel_rfl, by omega⟩
def ic (p : Nat) (_ : Nat) : Value := .int .i64 (p : Int)
theorem ic_one (p i : Nat) : (ic p i).oneCell' = true := rfl
/-- What a slice owns. -/
def OV (V : Value) : Nat → Prop := fun k => V.ownBlock = some k

theorem places_any (w : World) (g : Nat) :
    Calls Try.prog 63 #[.pointer (some ⟨g, 0, none⟩)] w fun e w' => e = .returned (.func (.func 84) #[] #[.pointer (some ⟨w.heap.size, 0, none⟩)]) ∧ w' = w.alloc (.cells #[.pointer (some ⟨g, 0, none⟩)] 26) := by
  go_enter Try.func63, Try.ntmps63
  go_wp2
  go_ret
  exact ⟨rfl, rfl⟩

/-- The last one of a slice, and the slice without it. -/
theorem Ow.pop {w : World} {base : Nat} {V : Value} {l : List Nat} {p : Nat} (h : Ow w base 3 1 ic V (l ++ [p])) : ∃ vb c, V = .slice (some ⟨vb, 0, none⟩) (l.length + 1) c ∧ l.length + 1 ≤ c ∧ c ≤ maxLen ∧ w.cell? ⟨vb, l.length, none⟩ = some (.int .i64 (p : Int)) ∧ Ow w base 3 1 ic (.slice (some ⟨vb, 0, none⟩) l.length c) l := by
  rcases h.2 with ⟨rfl, h0⟩ | ⟨vb, cap, cur, rfl, hb, hc, h1, h2, h3, h4⟩
  · simp at h0
  · rw [List.length_append, List.length_singleton] at h1 h4 ⊢
    refine ⟨vb, cap, rfl, h1, h2, ?_, ⟨by rw [flat_len], .inr ⟨vb, cap, cur, rfl, hb, hc, by omega, h2, h3, ?_⟩⟩⟩
    · have h5 := flat_at (f := ic) (n := 1) (d := 0) (l ++ [p]) (j := l.length) (i := 0) (by simp) (by omega)
      rw [← h4, Nat.mul_one, List.getElem?_take_of_lt (by omega), Array.getElem?_toList] at h5
      rw [cell_of_row w vb _ cur _ (0, 0) hc]
      simpa [ic, List.getD] using h5
    · have h6 := congrArg (List.take (l.length * 1)) h4
      rw [List.take_take, Nat.min_eq_left (by omega), flat_app, List.take_append_of_le_length (by rw [flat_len]; omega), show List.take (l.length * 1) (flat 1 ic l) = flat 1 ic l from List.take_of_length_le (by rw [flat_len]; omega)] at h6
      exact h6

def Zs (fs : List Fr) : Prop := ∀ f ∈ fs, f.s = 0
theorem rc_zs {f : Fr} {fs : List Fr} (h : f.s = 0) : rc (f :: fs) = f.p :: (f.o.pls ++ rc fs) := by simp [rc, h]
theorem zs_len {fs : List Fr} (h : Zs fs) : fs.length ≤ (rc fs).length := by
  induction fs with
  | nil => simp
  | cons f fs ih =>
    rw [rc_zs (h f (by simp))]
    have := ih fun x hx => h x (by simp [hx])
    simp only [List.length_cons, List.length_append]
    omega

set_option maxRecDepth 100000 in
set_option maxHeartbeats 1000000 in
theorem places_seq {T : BT} (B : Nat) (h : Sh w g b c n nd top) (hr : T.root = top) (hI : Inv nd n T) (hB : Blk w B 26 #[.pointer (some ⟨g, 0, none⟩)]) :
    SeqO Try.prog 84 #[.pointer (some ⟨B, 0, none⟩)] (fun p : Nat => #[.int .i64 (p : Int)]) (fun k => k = B ∨ k = g ∨ k = b) T.pls w := by
  intro l J Jx W hW hJ hJx hY h0
  subst hr
  have sW : Sh W g b c n nd T.root := h.kp hW (fun e => e (.inr (.inl rfl))) (fun e => e (.inr (.inr rfl)))
  have bW : Blk W B 26 #[.pointer (some ⟨g, 0, none⟩)] := hB.kp hW (fun e => e (.inl rfl))
  have hsm := h.small
  have hTl : T.pls.length = n := hI.len
  have HTl := hid hTl
  clear hTl h hB hW
  show Calls Try.prog 84 #[.func (.yield l) #[] #[], .pointer (some ⟨B, 0, none⟩)] W _
  go_enter Try.func84, Try.ntmps84
  go_wp2_with fail
  refine wp_scope_idx 0 (fun k a' w' => ∃ (pre : List Nat) (fs : List Fr) (t : BT) (V u5 u6 u7 u8 u9 u10 u11 u12 u13 u14 u15 u16 u17 u18 u19 u20 u21 u22 u23 u24 u25 u26 u27 u28 u29 u30 u31 u32 u33 u34 u35 u36 u37 u38 u39 u40 u41 u42 u43 u44 u45 u46 : Value), a' = { tmps := #[.func (.yield l) #[] #[], .pointer (some ⟨B, 0, none⟩), undef, V, .int .i64 (t.root : Int), u5, u6, u7, u8, u9, u10, u11, u12, u13, u14, u15, u16, u17, u18, u19, u20, u21, u22, u23, u24, u25, u26, u27, u28, u29, u30, u31, u32, u33, u34, u35, u36, u37, u38, u39, u40, u41, u42, u43, u44, u45, u46], defers := [] } ∧ Sh w' g b c n nd T.root ∧ Blk w' B 26 #[.pointer (some ⟨g, 0, none⟩)] ∧ J (OV V) pre w' ∧ Ow w' 0 3 1 ic V (fs.map Fr.p).reverse ∧ (∀ k, OV V k → k ≠ B ∧ k ≠ g ∧ k ≠ b) ∧
      T.pls = pre ++ (t.pls ++ rc fs) ∧ Tr nd t ∧ TrF nd fs ∧ Zs fs ∧ k + fs.length = 2 * (t.sz + (rc fs).length)) rfl ?_ ?_
  · rintro k a' w' ⟨pre, fs, t, V, u5, u6, u7, u8, u9, u10, u11, u12, u13, u14, u15, u16, u17, u18, u19, u20, u21, u22, u23, u24, u25, u26, u27, u28, u29, u30, u31, u32, u33, u34, u35, u36, u37, u38, u39, u40, u41, u42, u43, u44, u45, u46, rfl, s2, b2, hj, hv, hvd, hp, hTt, hTf, hZ, hk⟩
    have iT : In n t.pls := fun q hq => hI.ins q (by rw [hp]; simp [hq])
    have hzl := zs_len hZ
    have hln : pre.length + t.sz + (rc fs).length = n := by
      have := congrArg List.length hp
      rw [HTl.out] at this
      simp only [List.length_append] at this
      rw [BT.sz]
      omega
    have HP := hid hp
    have HT := hid hTt
    clear hp hTt
    have cB := b2.cell 0
    simp at cB
    cases t with
    | node p l1 r1 =>
      obtain ⟨p1, p2⟩ := iT.p
      have hb := nz' p1
      rw [BT.sz_node] at hln hk
      simp only [BT.root]
      go_wp2_with (first
        | (at_builtin
           refine wp_one usInt ic_one rfl (.tmp 11) (.tmp 13) rfl p V (by rfl) (hv.kp0 ((Kp.refl No _).alloc _)) (by rfl) (fun i hi => by
             have : i = 0 := by omega
             subst this
             exact (Blk.new w' 3 #[.int .i64 (p : Int)]).cell 0) (by simp; omega) (by simp [maxLen]; omega) (Nat.zero_le _) ?_
           intro v1 w7 hown1 hg1 hb1
           have K7 : Kp (OV V) w' w7 := ((Kp.refl (OV V) w').alloc _).grown hg1 fun k hk => .inl hk
           have s7 : Sh w7 g b c n nd T.root := s2.kp K7 (fun e => (hvd g e).2.1 rfl) (fun e => (hvd b e).2.2 rfl)
           have b7 : Blk w7 B 26 #[.pointer (some ⟨g, 0, none⟩)] := b2.kp K7 (fun e => (hvd B e).1 rfl)
           have cB7 := b7.cell 0
           simp at cB7))
      have cl := s7.lo p1 p2
      rw [HT.out.1] at cl
      have ob : ∀ k, OV v1 k → OV V k ∨ (w'.heap.size ≤ k ∧ k < w7.heap.size) := fun k hk => by
        rcases hb1 with e | e
        · exact .inl (e.symm.trans hk)
        · have : k = w'.heap.size + 1 := by
            have := e.symm.trans hk
            simpa using this.symm
          have := (World.ownsRow.lt hown1 k hk).2
          exact .inr (by omega)
      have j7 := hJ _ (OV v1) _ _ _ hj K7 ob
      have hg2 := s2.hd.lt
      have hg3 := s2.row.lt
      have hg4 := b2.lt
      have OB := hid ob
      clear ob hb1
      refine (node_any s7 p p1 p2).mono ?_
      rintro e w' ⟨rfl, rfl⟩
      go_wp2_with fail
      go_step3
      refine ⟨rfl, k - 1, by omega, pre, ⟨p, 0, r1⟩ :: fs, l1, v1, _, _, _, _, _, _, _, _, _, _, _, _, _, _, _, _, _, _, _, _, _, _, _, _, _, _, _, _, _, _, _, _, _, _, _, _, _, _, _, _, _, _, rfl, s7, b7, j7, by rw [List.map_cons, List.reverse_cons]; exact hown1, fun k hk => ?_, by rw [HP.out, rc_zs rfl]; simp [BT.pls], HT.out.2.2.2.2.1, ⟨.inl ⟨rfl, HT.out.2.1⟩, HT.out.2.2.2.2.2, hTf⟩, fun f hf => ?_, ?_⟩
      · rcases OB.out k hk with h1 | h1
        · exact hvd k h1
        · omega
      · rcases List.mem_cons.1 hf with rfl | hf
        · rfl
        · exact hZ f hf
      · rw [rc_zs rfl]
        simp only [List.length_cons, List.length_append]
        rw [← BT.sz]
        omega
    | nil =>
      rw [show ((BT.nil.root : Nat) : Int) = 0 from rfl]
      cases fs with
      | nil =>
        obtain ⟨A, vc, rfl⟩ := hv.formN (m := 0) rfl
        go_wp2_with fail
        simp only [Exit.jump]
        have e : T.pls = pre := by rw [HP.out]; simp [BT.pls, rc]
        have hj' : J (OV (.slice A 0 vc)) T.pls w' := by rw [e]; exact hj
        exact bodyPost_ret (results_none rfl _ _ _) rfl ⟨⟨_, rfl⟩, .inl ⟨_, hj'⟩⟩
      | cons f fs =>
        rw [List.map_cons, List.reverse_cons] at hv
        obtain ⟨vb, vc, rfl, hc1, hc2, hc3, hv2⟩ := hv.pop
        have hz := hZ f (by simp)
        obtain ⟨⟨_, hfo⟩, hTo, hTf2⟩ : (f.s = 0 ∧ (nd f.p).hi = f.o.root) ∧ Tr nd f.o ∧ TrF nd fs := by
          obtain ⟨t1, t2, t3⟩ := hTf
          refine ⟨?_, t2, t3⟩
          rcases t1 with t1 | t1
          · exact t1
          · omega
        have hfi : 1 ≤ f.p ∧ f.p ≤ n := hI.ins f.p (by rw [HP.out, rc_zs hz]; simp)
        obtain ⟨f1, f2⟩ := hfi
        rw [rc_zs hz] at hzl hln hk HP
        simp only [BT.sz, BT.pls, List.length_nil, List.length_cons, List.length_append, List.length_map, List.length_reverse, List.nil_append] at hzl hln hk hc1 hc3 hv2 HP ⊢
        simp only [maxLen] at hc2
        have hne0 : (((fs.length : Int) + 1) == 0) = false := by rw [beq_eq_false_iff_ne]; omega
        have hw1 : IntKind.i64.wrap ((fs.length : Int) + 1 - 1) = (fs.length : Int) := by rw [show (fs.length : Int) + 1 - 1 = (fs.length : Int) by omega]; exact wrapI ⟨by omega, by omega⟩
        go_upto_region 6 with (fail)
        go_quiet (fail)
        clear hw1
        have s3 := s2.kp0 ((Kp.refl No w').drewN nq)
        have b3 := b2.kp0 ((Kp.refl No w').drewN nq)
        have hv3 := hv2.kp0 ((Kp.refl No w').drewN nq)
        have j3 : J (OV (.slice (some ⟨vb, 0, none⟩) fs.length vc)) pre (w'.drewN nq) := hJ _ _ _ _ _ hj ((Kp.refl _ w').drewN nq) fun k hk => .inl hk
        clear hc3 cB
        generalize w'.drewN nq = w3 at s3 b3 hv3 j3 ⊢
        have cB := b3.cell 0
        simp at cB
        go_upto_region 7 with (fail)
        obtain ⟨fn, tmps, assign, body, hy, hR⟩ := hY _ pre f.p (f.o.pls ++ rc fs) w3 HP.out j3
        refine (wpIn_wide (n := 5)).1 ?_
        gi_wp2
        refine (RoundIn.any hR).mono ?_
        rintro e W4 (⟨rfl, hJ4, hk4⟩ | ⟨rfl, hx4, _⟩)
        · have s4 : Sh W4 g b c n nd T.root := s3.kp hk4 (fun e => e.2 (.inr (.inl rfl))) (fun e => e.2 (.inr (.inr rfl)))
          have b4 : Blk W4 B 26 #[.pointer (some ⟨g, 0, none⟩)] := b3.kp hk4 (fun e => e.2 (.inl rfl))
          have hv4 : Ow W4 0 3 1 ic (.slice (some ⟨vb, 0, none⟩) fs.length vc) (fs.map Fr.p).reverse := by
            refine ⟨hv3.1, ?_⟩
            rcases hv3.2 with hn | ⟨g', cap, cur, e1, hb, hg, r⟩
            · exact .inl hn
            · refine .inr ⟨g', cap, cur, e1, hb, ?_, r⟩
              refine (hk4.block g' (Array.getElem?_eq_some_iff.1 hg).1 fun e => e.1 ?_).trans hg
              rw [e1]
              rfl
          clear cB hy
          have cB := b4.cell 0
          have cH := s4.hi f1 f2
          rw [hfo] at cH
          simp at cB
          gi_wp2
          go_wp2_with fail
          refine (node_any s4 f.p f1 f2).mono ?_
          rintro e w' ⟨rfl, rfl⟩
          go_wp2_with fail
          go_step3
          refine ⟨rfl, k - 1, by omega, pre ++ [f.p], fs, f.o, _, _, _, _, _, _, _, _, _, _, _, _, _, _, _, _, _, _, _, _, _, _, _, _, _, _, _, _, _, _, _, _, _, _, _, _, _, _, _, _, _, _, _, rfl, s4, b4, hJ4, hv4, fun k hk => hvd k hk, by rw [HP.out]; simp, hTo, hTf2, fun f hf => hZ f (by simp [hf]), ?_⟩
          (try simp only [BT.sz])
          omega
        · gi_wp2
          go_wp2_with fail
          simp only [Exit.jump]
          exact bodyPost_ret (results_none rfl _ _ _) rfl ⟨⟨_, rfl⟩, .inr ⟨_, _, f.o.pls ++ rc fs, by rw [HP.out]; simp, hx4⟩⟩
  · intro pass
    have c1 := sW.head.2
    have cB := bW.cell 0
    simp at cB
    go_wp2_with fail
    go_step3
    have go_on := ‹∀ (a : Act) (w : World), Code.wp _ _ _ a w → _›
    refine go_on _ _ (pass (2 * T.sz) _ _ ⟨[], [], T, _, _, _, _, _, _, _, _, _, _, _, _, _, _, _, _, _, _, _, _, _, _, _, _, _, _, _, _, _, _, _, _, _, _, _, _, _, _, _, _, _, _, _, rfl, sW, bW, ?_, Ow.nil W 0 _ 1 ic, fun k hk => (by cases hk), by simp [rc], hI.tr, trivial, fun f hf => (by cases hf), by simp [rc]⟩)
    exact hJ _ _ _ _ _ h0 (Kp.refl No W) fun k hk => by cases hk
end
end Go.Proofs.Ytpbnmfoecmhnnaa
