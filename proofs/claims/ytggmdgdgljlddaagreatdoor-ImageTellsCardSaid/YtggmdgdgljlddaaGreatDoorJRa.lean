/-
  Contracts of the document's num and Encode.
-/
import Derived.Test.YtggmdgdgljlddaaGreatDoorJK
import Derived.Test.YtggmdgdgljlddaaGreatDoorZDg
import Derived.Test.YtggmdgdgljlddaaGreatDoorApp
import Derived.Deep.RegionHeldLaw
namespace Go.Proofs.YtggmdgdgljlddaaGreatDoor
open Go.RowKit Go.Shelf

theorem step_app2 {P : Program} {t e : TypeId} (u : U8 P t e) {ops : Array Oper} {o : Oper} {a : Act} {w : World} {K : Act → World → Prop} {Q : Exit → Act → World → Prop} {E : Prop} (hgd : o.guard = none) (s x : Operand)
    (ho : o.op = .call { callee := .builtin .append, args := #[s, x], argTypes := #[t, t] }) {base : Nat} {xs ys : List Int} {Pb : Nat → Prop} (v y : Value) (hv : a.eval s = v) (hy : a.eval x = y)
    (hown : Own w base e v xs) (hx : Byt w Pb y ys) (hle : xs.length + ys.length ≤ 140737488355328) (hbase : base ≤ w.heap.size)
    (h : ∀ v' w', Own w' base e v' (xs ++ ys) → Kp (fun k => v.ownBlock = some k) w w' → (v'.ownBlock = v.ownBlock ∨ v'.ownBlock = some w.heap.size) → K (a.put o.dst v') w') : if Region.wanted o (yielded ops a.tmps) = true then Oper.wp P o a w K Q else E := by
  have hw : Region.wanted o (yielded ops a.tmps) = true := by simp [Region.wanted, hgd]
  rw [if_pos hw]
  obtain ⟨v', w', hrun, h2, h3, h4⟩ := run_app2 (P := P) (ty := o.type) u w hown hx hle hbase
  unfold Oper.wp execOp
  simp only [ho, resolve, invoke, builtin, Sem.run_bind, Sem.run_pure, Result.andThen_ok, List.map_toArray, List.map_cons, List.map_nil, hv, hy, hrun]
  exact h v' w' h2 ((Kp.refl _ _).grown h3 fun k hk => .inl hk) h4
theorem rnum_any (n : Int) {k : Nat} (hk : k ≤ 8) (hh : hw (k : Int) = k) (w : World) : Calls Tryz.prog 18 #[.int .i64 n, .int .i64 (k : Int)] w fun e w' => ∃ v, e = .returned v ∧ Own w' w.heap.size 5 v (dg n k) ∧ Kp No w w' := by
  have HD := hid (digits_any (IntKind.u64.wrap n) (k : Int) w (u64_bd n))
  rw [hh, dg_u64 n hk] at HD
  clear hh
  go_enter Tryz.func18, Tryz.ntmps18
  go_wp2_with (first
    | (go_at_call 19
       with_reducible refine HD.out.mono ?_
       rintro e w1 ⟨v1, rfl, o1, k1⟩
       have O1 := hid o1
       have K1 := hid k1
       clear o1 k1))
  go_ret
  exact ⟨_, rfl, O1.out, K1.out⟩
theorem rnum3_any (n : Int) (w : World) : Calls Tryz.prog 18 #[.int .i64 n, .int .i64 3] w fun e w' => ∃ v, e = .returned v ∧ Own w' w.heap.size 5 v (dg n 3) ∧ Kp No w w' := rnum_any n (k := 3) (by decide) (by decide) w
theorem rnum6_any (n : Int) (w : World) : Calls Tryz.prog 18 #[.int .i64 n, .int .i64 6] w fun e w' => ∃ v, e = .returned v ∧ Own w' w.heap.size 5 v (dg n 6) ∧ Kp No w w' := rnum_any n (k := 6) (by decide) (by decide) w
theorem rnum8_any (n : Int) (w : World) : Calls Tryz.prog 18 #[.int .i64 n, .int .i64 8] w fun e w' => ∃ v, e = .returned v ∧ Own w' w.heap.size 5 v (dg n 8) ∧ Kp No w w' := rnum_any n (k := 8) (by decide) (by decide) w
theorem rdig8_any (n : Int) (hn : 0 ≤ n ∧ n ≤ 18446744073709551615) (w : World) : Calls Tryz.prog 19 #[.int .u64 n, .int .i64 8] w fun e w' => ∃ v, e = .returned v ∧ Own w' w.heap.size 5 v (dg n 8) ∧ Kp No w w' := digits_any n 8 w hn

/-- One of four turned. -/
def up4 {α : Type} (V : Nat → α) (i : Nat) (u : α) : Nat → α := fun j => if j = i then u else V j
def X4 (a b c d : List Int) : Nat → List Int
  | 0 => a
  | 1 => b
  | 2 => c
  | 3 => d
  | _ + 4 => []
section
variable {a b c d x : List Int}
theorem X4_0 : up4 (X4 a b c d) 0 x = X4 x b c d := by
  funext i
  match i with
  | 0 => rfl
  | 1 => rfl
  | 2 => rfl
  | 3 => rfl
  | n + 4 => simp [up4, X4]
theorem X4_1 : up4 (X4 a b c d) 1 x = X4 a x c d := by
  funext i
  match i with
  | 0 => rfl
  | 1 => rfl
  | 2 => rfl
  | 3 => rfl
  | n + 4 => simp [up4, X4]
theorem X4_2 : up4 (X4 a b c d) 2 x = X4 a b x d := by
  funext i
  match i with
  | 0 => rfl
  | 1 => rfl
  | 2 => rfl
  | 3 => rfl
  | n + 4 => simp [up4, X4]
theorem X4_3 : up4 (X4 a b c d) 3 x = X4 a b c x := by
  funext i
  match i with
  | 0 => rfl
  | 1 => rfl
  | 2 => rfl
  | 3 => rfl
  | n + 4 => simp [up4, X4]
end
def scells (V : Nat → Value) : Array Value := #[.int .i64 1, V 0, .int .i64 2, V 1, .int .i64 3, V 2, .int .i64 4, V 3]
theorem scells_up (V : Nat → Value) (u : Value) {i : Nat} (h : i < 4) : (scells V).setIfInBounds (2 * i + 1) u = scells (up4 V i u) := by
  match i, h with
  | 0, _ => rfl
  | 1, _ => rfl
  | 2, _ => rfl
  | 3, _ => rfl
/-- The document's four sections, in block q, their bodies in blocks of their own. -/
structure Sx (w W : World) (q : Nat) (V : Nat → Value) (X : Nat → List Int) : Prop where
  kp : Kp No w W
  q0 : w.heap.size ≤ q
  bx : Blk W q 36 (scells V)
  ow : ∀ j, j < 4 → Own W (q + 1) 5 (V j) (X j)
  ne : ∀ i j, i < 4 → j < 4 → i ≠ j → ∀ k, (V i).ownBlock = some k → (V j).ownBlock ≠ some k
/-- The same beside a block g. -/
structure Sz (w W : World) (q g : Nat) (V : Nat → Value) (X : Nat → List Int) (t : TypeId) (cs : Array Value) : Prop where
  sx : Sx w W q V X
  gx : Blk W g t cs
  gq : q < g
  ng : ∀ j, j < 4 → ∀ k, (V j).ownBlock = some k → k ≠ g
/-- The same while row i grows. -/
structure Sy (w W : World) (q g i : Nat) (V : Nat → Value) (X : Nat → List Int) (t : TypeId) (cs : Array Value) (u : Value) (xs : List Int) : Prop where
  kp : Kp No w W
  q0 : w.heap.size ≤ q
  bx : Blk W q 36 (scells V)
  gx : Blk W g t cs
  gq : q < g
  il : i < 4
  ow : ∀ j, j < 4 → j ≠ i → Own W (q + 1) 5 (V j) (X j)
  ne : ∀ i j, i < 4 → j < 4 → i ≠ j → ∀ k, (V i).ownBlock = some k → (V j).ownBlock ≠ some k
  ng : ∀ j, j < 4 → ∀ k, (V j).ownBlock = some k → k ≠ g
  uo : Own W (q + 1) 5 u xs
  un : ∀ j, j < 4 → j ≠ i → ∀ k, u.ownBlock = some k → (V j).ownBlock ≠ some k
  ug : ∀ k, u.ownBlock = some k → k ≠ g
section
variable {w W W' : World} {q g i : Nat} {V : Nat → Value} {X : Nat → List Int} {t : TypeId} {cs : Array Value} {u u' : Value} {xs zs : List Int}
theorem Sx.kp0 (h : Sx w W q V X) (k : Kp No W W') : Sx w W' q V X := ⟨h.kp.trans k, h.q0, h.bx.kp0 k, fun j hj => (h.ow j hj).kp k fun _ _ e => e, h.ne⟩
theorem Sx.sz (h : Sx w W q V X) (t : TypeId) (cs : Array Value) : Sz w (W.alloc (.cells cs t)) q W.heap.size V X t cs :=
  ⟨h.kp0 ((Kp.refl No W).alloc _), Blk.new W t cs, h.bx.lt, fun j hj k hk => by have := ((h.ow j hj).1.lt k hk).2; omega⟩
theorem Sz.sy (h : Sz w W q g V X t cs) (i : Nat) (hi : i < 4) : Sy w W q g i V X t cs (V i) (X i) :=
  ⟨h.sx.kp, h.sx.q0, h.sx.bx, h.gx, h.gq, hi, fun j hj _ => h.sx.ow j hj, h.sx.ne, h.ng, h.sx.ow i hi, fun j hj hji k hk => h.sx.ne i j hi hj (fun e => hji e.symm) k hk, h.ng i hi⟩
theorem Sy.both (h : Sy w W q g i V X t cs u xs) : Blk W g t cs ∧ Blk W q 36 (scells V) := ⟨h.gx, h.bx⟩
theorem Sz.kp0 (h : Sz w W q g V X t cs) (k : Kp No W W') : Sz w W' q g V X t cs := ⟨h.sx.kp0 k, h.gx.kp0 k, h.gq, h.ng⟩
theorem Sy.kp0 (h : Sy w W q g i V X t cs u xs) (k : Kp No W W') : Sy w W' q g i V X t cs u xs :=
  ⟨h.kp.trans k, h.q0, h.bx.kp0 k, h.gx.kp0 k, h.gq, h.il, fun j hj hji => (h.ow j hj hji).kp k fun _ _ e => e, h.ne, h.ng, h.uo.kp k fun _ _ e => e, h.un, h.ug⟩
theorem Sy.app (h : Sy w W q g i V X t cs u xs) (o : Own W' (q + 1) 5 u' zs) (k : Kp (fun b => u.ownBlock = some b) W W') (p : u'.ownBlock = u.ownBlock ∨ u'.ownBlock = some W.heap.size) : Sy w W' q g i V X t cs u' zs := by
  refine ⟨h.kp.step k fun b hb e => ?_, h.q0, h.bx.kp k fun e => ?_, h.gx.kp k fun e => h.ug g e rfl, h.gq, h.il, fun j hj hji => (h.ow j hj hji).kpx k fun b hb e => h.un j hj hji b e hb, h.ne, h.ng, o, fun j hj hji b hb => ?_, fun b hb => ?_⟩
  · have := h.uo.at_ b e
    have := h.q0
    omega
  · have := h.uo.at_ q e
    omega
  · rcases p with p | p
    · exact h.un j hj hji b (p ▸ hb)
    · rw [p] at hb
      cases hb
      intro e
      have := ((h.ow j hj hji).1.lt _ e).2
      omega
  · rcases p with p | p
    · exact h.ug b (p ▸ hb)
    · rw [p] at hb
      cases hb
      have := h.gx.lt
      omega
theorem Sy.put (h : Sy w W q g i V X t cs u xs) : Sz w (W.setCell ⟨q, 2 * i + 1, none⟩ u) q g (up4 V i u) (up4 X i xs) t cs := by
  have k := Kp.set1 q (2 * i + 1) W u
  have hq : ∀ b, q + 1 ≤ b → ¬ Only q b := fun b hb e => by have e : b = q := e; omega
  refine ⟨⟨h.kp.step k fun b hb e => ?_, h.q0, ?_, fun j hj => ?_, fun a b ha hb hab c hc => ?_⟩, h.gx.kp k fun e => ?_, h.gq, fun j hj c hc => ?_⟩
  · have e : b = q := e
    have := h.q0
    omega
  · have := h.bx.put (2 * i + 1) u
    rwa [scells_up V u h.il] at this
  · by_cases hji : j = i
    · subst hji
      simp only [up4, if_true]
      exact h.uo.kp k hq
    · simp only [up4, if_neg hji]
      exact (h.ow j hj hji).kp k hq
  · by_cases hai : a = i
    · subst hai
      have hba : b ≠ a := fun e => hab e.symm
      simp only [up4, if_true, if_neg hba] at hc ⊢
      exact h.un b hb hba c hc
    · by_cases hbi : b = i
      · subst hbi
        simp only [up4, if_true, if_neg hai] at hc ⊢
        exact fun e => h.un a ha hai c e hc
      · simp only [up4, if_neg hai, if_neg hbi] at hc ⊢
        exact h.ne a b ha hb hab c hc
  · have e : g = q := e
    have := h.gq
    omega
  · by_cases hji : j = i
    · subst hji
      simp only [up4, if_true] at hc
      exact h.ug c hc
    · simp only [up4, if_neg hji] at hc
      exact h.ng j hj c hc
/-- The sections as they are read. -/
theorem Sx.ps (h : Sx w W q V X) : ∃ ss, ss.map sn = [⟨1, X 0⟩, ⟨2, X 1⟩, ⟨3, X 2⟩, ⟨4, X 3⟩] ∧ Ps W Anyb (.slice (some ⟨q, 0, none⟩) 4 4) ss := by
  obtain ⟨A0, c0, e0⟩ := (h.ow 0 (by omega)).form
  obtain ⟨A1, c1, e1⟩ := (h.ow 1 (by omega)).form
  obtain ⟨A2, c2, e2⟩ := (h.ow 2 (by omega)).form
  obtain ⟨A3, c3, e3⟩ := (h.ow 3 (by omega)).form
  have b0 := (h.ow 0 (by omega)).byt (P := Anyb) fun _ _ => trivial
  have b1 := (h.ow 1 (by omega)).byt (P := Anyb) fun _ _ => trivial
  have b2 := (h.ow 2 (by omega)).byt (P := Anyb) fun _ _ => trivial
  have b3 := (h.ow 3 (by omega)).byt (P := Anyb) fun _ _ => trivial
  have hb := h.bx
  rw [e0] at b0
  rw [e1] at b1
  rw [e2] at b2
  rw [e3] at b3
  unfold scells at hb
  rw [e0, e1, e2, e3] at hb
  refine ⟨[⟨1, A0, c0, X 0⟩, ⟨2, A1, c1, X 1⟩, ⟨3, A2, c2, X 2⟩, ⟨4, A3, c3, X 3⟩], rfl, ⟨some ⟨q, 0, none⟩, 4, rfl, by simp, by simp [maxLen], fun _ => ⟨q, 0, rfl, hb.lt, trivial, fun j i hj hi => ?_⟩⟩, fun s hs => ?_⟩
  · have hj : j < 4 := hj
    rw [hb.cell]
    match j, i, hj, hi with
    | 0, 0, _, _ => rfl
    | 0, 1, _, _ => rfl
    | 1, 0, _, _ => rfl
    | 1, 1, _, _ => rfl
    | 2, 0, _, _ => rfl
    | 2, 1, _, _ => rfl
    | 3, 0, _, _ => rfl
    | 3, 1, _, _ => rfl
  · simp only [List.mem_cons, List.not_mem_nil, or_false] at hs
    rcases hs with rfl | rfl | rfl | rfl
    · exact ⟨by show I64 1; unfold I64; omega, b0⟩
    · exact ⟨by show I64 2; unfold I64; omega, b1⟩
    · exact ⟨by show I64 3; unfold I64; omega, b2⟩
    · exact ⟨by show I64 4; unfold I64; omega, b3⟩
end
set_option maxRecDepth 100000 in
set_option maxHeartbeats 8000000 in
theorem rencode_any {w : World} {P : Nat → Prop} {v : Value} {gs : List GS} {ts : List TS} (h : Sce w P v gs ts) (hco : ∀ t ∈ ts, 0 ≤ t.co ∧ t.co ≤ 18446744073709551615) (hl : gs.length ≤ 1000000) (hlt : ts.length ≤ 1000000) :
    Calls Tryz.prog 8 #[v] w (EncPost gs ts w) := by
  obtain ⟨vg, vt, rfl, hg, ht⟩ := h
  have k1 := (Kp.refl No w).alloc (.cells #[vg, vt] 25)
  have b1 := Blk.new w 25 #[vg, vt]
  obtain ⟨w1, hw1⟩ : ∃ w1, w.alloc (.cells #[vg, vt] 25) = w1 := ⟨_, rfl⟩
  rw [hw1] at k1 b1
  have K1 := hid k1
  have HG := hid (hg.kp0 k1)
  have HT := hid (ht.kp0 k1)
  have HCO := hid hco
  obtain ⟨x, hx⟩ : ∃ x, checkS gs ts = x := ⟨_, rfl⟩
  have HC := hid (rcheck_any (show Sce w1 P (.agg #[vg, vt]) gs ts from ⟨vg, vt, rfl, hg.kp0 k1, ht.kp0 k1⟩))
  rw [hx] at HC
  have HX := hid hx
  obtain ⟨A, c, rfl, _⟩ := hg
  obtain ⟨A2, c2, rfl, _⟩ := ht
  obtain ⟨n, hn⟩ : ∃ n, gs.length = n := ⟨_, rfl⟩
  obtain ⟨m, hm⟩ : ∃ m, ts.length = m := ⟨_, rfl⟩
  rw [hn] at HG HC b1 hw1 hl ⊢
  rw [hm] at HT HC b1 hw1 hlt ⊢
  have HN := hid hn
  have HM := hid hm
  have B1 := hid b1
  have s0 := b1.cell 0
  have s1 := b1.cell 1
  simp only [List.getElem?_toArray, List.getElem?_cons_zero, List.getElem?_cons_succ] at s0 s1
  clear k1 b1 hn hm hco hx
  by_cases h0 : x = 0
  · subst h0
    go_enter Tryz.func8, Tryz.ntmps8
    go_upto_region 1 with fail
    clear hw1
    go_upto_region 6 with (first
      | (go_at_call 17
         refine HC.out.mono ?_
         rintro e w2 ⟨rfl, k2⟩
         have K2 := hid (K1.out.trans k2)
         have G2 := hid (HG.out.kp0 k2)
         have T2 := hid (HT.out.kp0 k2)
         have B2 := hid (B1.out.kp0 k2)
         have z2 := k2.size
         have Z2 := hid z2
         clear k2))
    have SX0 := hid (show Sx w2 (w2.alloc (.cells #[.int .i64 1, .slice none 0 0, .int .i64 2, .slice none 0 0, .int .i64 3, .slice none 0 0, .int .i64 4, .slice none 0 0] 36)) w2.heap.size (fun _ => .slice none 0 0) (X4 (bod1 (gs.take 0)) (bod2 (gs.take 0)) [] []) from
      ⟨(Kp.refl No w2).alloc _, Nat.le_refl _, Blk.new w2 36 _, fun j hj => by
        match j, hj with
        | 0, _ => exact Own.nil _ _ _
        | 1, _ => exact Own.nil _ _ _
        | 2, _ => exact Own.nil _ _ _
        | 3, _ => exact Own.nil _ _ _, fun i j _ _ _ k hk => by cases hk⟩)
    obtain ⟨q, hq⟩ : ∃ q, w2.heap.size = q := ⟨_, rfl⟩
    have HQ := hid hq
    rw [hq] at SX0 ⊢
    generalize w2.alloc (.cells #[.int .i64 1, .slice none 0 0, .int .i64 2, .slice none 0 0, .int .i64 3, .slice none 0 0, .int .i64 4, .slice none 0 0] 36) = w3 at SX0 ⊢
    clear hq s0 s1
    have b3 := B2.out.kp0 SX0.out.kp
    have s0 := b3.cell 0
    have s1 := b3.cell 1
    simp only [List.getElem?_toArray, List.getElem?_cons_zero, List.getElem?_cons_succ] at s0 s1
    clear b3
    go_wp2_with fail
    go_loopw [6] (fun i wr => ∃ (k : Nat) (V : Nat → Value), k ≤ n ∧ i = .int .i64 (k : Int) ∧ Hid (Sx w2 wr q V (X4 (bod1 (gs.take k)) (bod2 (gs.take k)) [] []))) (fun i _ => n - (vI i).toNat)
    case atStart => exact ⟨0, _, Nat.zero_le _, rfl, SX0⟩
    case round =>
      obtain ⟨k, V, hk, rfl, SX⟩ := hrel
      clear s0 s1
      have b3 := B2.out.kp0 SX.out.kp
      have s0 := b3.cell 0
      have s1 := b3.cell 1
      simp only [List.getElem?_toArray, List.getElem?_cons_zero, List.getElem?_cons_succ] at s0 s1
      by_cases hkn : k < n
      · have hkl : k < gs.length := by rw [HN.out]; assumption
        have gk : (k : Int) < (n : Int) := by omega
        have hwk := wrapI (x := (k : Int) + 1) (by unfold I64; omega)
        have Rk := G2.out.kp0 SX.out.kp
        obtain ⟨b, o, rfl⟩ := Rk.there (by omega)
        have q0 := Rk.cell (j := k) (i := 0) (Kp.refl No _) hkl (by omega) rfl
        have q1 := Rk.cell (j := k) (i := 1) (Kp.refl No _) hkl (by omega) rfl
        have q2 := Rk.cell (j := k) (i := 2) (Kp.refl No _) hkl (by omega) rfl
        have q3 := Rk.cell (j := k) (i := 3) (Kp.refl No _) hkl (by omega) rfl
        have q4 := Rk.cell (j := k) (i := 4) (Kp.refl No _) hkl (by omega) rfl
        have q5 := Rk.cell (j := k) (i := 5) (Kp.refl No _) hkl (by omega) rfl
        have H1 := hid (bod1_snoc hkl)
        have H2 := hid (bod2_snoc hkl)
        have hlen : (gs.take k).length = k := by rw [List.length_take]; omega
        have HL1 := hid (show (bod1 (gs.take k)).length ≤ 1000000000 by rw [bod1_len, hlen]; omega)
        have HL2 := hid (show (bod2 (gs.take k)).length ≤ 1000000000 by rw [bod2_len, hlen]; omega)
        obtain ⟨x, hx⟩ : ∃ x, gs.getD k gs0 = x := ⟨_, rfl⟩
        rw [hx] at q0 q1 q2 q3 q4 q5 H1 H2
        obtain ⟨xid, xpar, xwt, xpd, xqt, xus⟩ := x
        simp only [gc, ge, List.getD_cons_zero, List.getD_cons_succ, Nat.add_zero] at q0 q1 q2 q3 q4 q5
        simp only [← Nat.add_assoc] at q1 q2 q3 q4 q5
        have SA := hid (SX.out.sz 45 #[.int .i64 xid, .int .i64 xpar, .int .i64 xwt, .int .i64 xpd, .int .i64 xqt, .int .i64 xus])
        clear Rk hx hlen
        go_upto_region 9 with fail
        obtain ⟨g, hgg⟩ : ∃ g, wr.heap.size = g := ⟨_, rfl⟩
        rw [hgg] at SA ⊢
        generalize wr.alloc (.cells #[.int .i64 xid, .int .i64 xpar, .int .i64 xwt, .int .i64 xpd, .int .i64 xqt, .int .i64 xus] 45) = wg at SA ⊢
        clear hgg SX s0 s1 q0 q1 q2 q3 q4 q5
        have SB := hid (SA.out.sy 0 (by omega))
        clear SA
        refine wp_region_any (by kernel_rfl) ?_
        show wpAny _ _ _ _ _ _ _ (World.drew wg)
        have Fd1 := hid (SB.out.kp0 (Kp.refl No wg).drew)
        generalize World.drew wg = Wd1 at Fd1 ⊢
        have HS5 := Fd1.out.gx
        clear SB
        refine wpAny_of_held (S := (fun w' => Blk w' g 45 #[.int .i64 xid, .int .i64 xpar, .int .i64 xwt, .int .i64 xpd, .int .i64 xqt, .int .i64 xus])) _ _ _ _ ?_
        simp only [List.size_toArray, List.length_cons, List.length_nil, Nat.reduceAdd, Array.replicate_succ, Array.replicate_zero, List.push_toArray, List.nil_append, List.cons_append]
        refine wpAnyH_take (i := 0) (v := ?_) rfl (by kernel_rfl) (by kernel_rfl) (by kernel_rfl) (fun _ _ _ h => h) (Or.inl ⟨by rfl, ?_⟩) HS5 ?_
        rotate_left
        · (intro w6 hS6; have z0 := Blk.cell hS6 0; have z1 := Blk.cell hS6 1; have z2 := Blk.cell hS6 2; simp only [List.getElem?_toArray, List.getElem?_cons_zero, List.getElem?_cons_succ] at z0 z1 z2; (try go_simp); (try with_reducible rfl))
        simp only [List.getElem_toArray, List.getElem_cons_zero, Act.put, List.setIfInBounds_toArray, List.set_cons_zero, List.set_cons_succ]
        refine wpAnyH_take (i := 1) (v := ?_) rfl (by kernel_rfl) (by kernel_rfl) (by kernel_rfl) (fun _ _ _ h => h) (Or.inl ⟨by rfl, ?_⟩) HS5 ?_
        rotate_left
        · (intro w6 hS6; have z0 := Blk.cell hS6 0; have z1 := Blk.cell hS6 1; have z2 := Blk.cell hS6 2; simp only [List.getElem?_toArray, List.getElem?_cons_zero, List.getElem?_cons_succ] at z0 z1 z2; (try go_simp); (try with_reducible rfl))
        simp only [List.getElem_toArray, List.getElem_cons_zero, List.getElem_cons_succ, Act.put, List.setIfInBounds_toArray, List.set_cons_zero, List.set_cons_succ]
        refine wpAnyH_take (i := 2) (v := ?_) rfl (by kernel_rfl) (by kernel_rfl) (by kernel_rfl) (fun _ _ _ h => h) (Or.inl ⟨by rfl, ?_⟩) HS5 ?_
        rotate_left
        · (intro w6 hS6; have z0 := Blk.cell hS6 0; have z1 := Blk.cell hS6 1; have z2 := Blk.cell hS6 2; simp only [List.getElem?_toArray, List.getElem?_cons_zero, List.getElem?_cons_succ] at z0 z1 z2; (try go_simp); (try with_reducible rfl))
        simp only [List.getElem_toArray, List.getElem_cons_zero, List.getElem_cons_succ, Act.put, List.setIfInBounds_toArray, List.set_cons_zero, List.set_cons_succ]
        refine wpAnyH_take (i := 3) (v := ?_) rfl (by kernel_rfl) (by kernel_rfl) (by kernel_rfl) (fun _ _ _ h => h) (Or.inl ⟨by rfl, ?_⟩) HS5 ?_
        rotate_left
        · (intro w6 hS6; have z0 := Blk.cell hS6 0; have z1 := Blk.cell hS6 1; have z2 := Blk.cell hS6 2; simp only [List.getElem?_toArray, List.getElem?_cons_zero, List.getElem?_cons_succ] at z0 z1 z2; (try go_simp); (try with_reducible rfl))
        simp only [List.getElem_toArray, List.getElem_cons_zero, List.getElem_cons_succ, Act.put, List.setIfInBounds_toArray, List.set_cons_zero, List.set_cons_succ]
        refine wpAnyH_take (i := 5) (v := ?_) rfl (by kernel_rfl) (by kernel_rfl) (by kernel_rfl) (fun _ _ _ h => h) (Or.inl ⟨by rfl, ?_⟩) HS5 ?_
        rotate_left
        · (intro w6 hS6; have z0 := Blk.cell hS6 0; have z1 := Blk.cell hS6 1; have z2 := Blk.cell hS6 2; simp only [List.getElem?_toArray, List.getElem?_cons_zero, List.getElem?_cons_succ] at z0 z1 z2; (try go_simp); (try with_reducible rfl))
        simp only [List.getElem_toArray, List.getElem_cons_zero, List.getElem_cons_succ, Act.put, List.setIfInBounds_toArray, List.set_cons_zero, List.set_cons_succ]
        refine wpAnyH_take (i := 6) (v := ?_) rfl (by kernel_rfl) (by kernel_rfl) (by kernel_rfl) (fun _ _ _ h => h) (Or.inl ⟨by rfl, ?_⟩) HS5 ?_
        rotate_left
        · (intro w6 hS6; have z0 := Blk.cell hS6 0; have z1 := Blk.cell hS6 1; have z2 := Blk.cell hS6 2; simp only [List.getElem?_toArray, List.getElem?_cons_zero, List.getElem?_cons_succ] at z0 z1 z2; (try go_simp); (try with_reducible rfl))
        simp only [List.getElem_toArray, List.getElem_cons_zero, List.getElem_cons_succ, Act.put, List.setIfInBounds_toArray, List.set_cons_zero, List.set_cons_succ]
        refine wpAnyH_take (i := 9) (v := ?_) rfl (by kernel_rfl) (by kernel_rfl) (by kernel_rfl) (fun _ _ _ h => h) (Or.inl ⟨by rfl, ?_⟩) HS5 ?_
        rotate_left
        · (intro w6 hS6; have z0 := Blk.cell hS6 0; have z1 := Blk.cell hS6 1; have z2 := Blk.cell hS6 2; simp only [List.getElem?_toArray, List.getElem?_cons_zero, List.getElem?_cons_succ] at z0 z1 z2; (try go_simp); (try with_reducible rfl))
        simp only [List.getElem_toArray, List.getElem_cons_zero, List.getElem_cons_succ, Act.put, List.setIfInBounds_toArray, List.set_cons_zero, List.set_cons_succ]
        refine wpAnyH_take (i := 10) (v := ?_) rfl (by kernel_rfl) (by kernel_rfl) (by kernel_rfl) (fun _ _ _ h => h) (Or.inl ⟨by rfl, ?_⟩) HS5 ?_
        rotate_left
        · (intro w6 hS6; have z0 := Blk.cell hS6 0; have z1 := Blk.cell hS6 1; have z2 := Blk.cell hS6 2; simp only [List.getElem?_toArray, List.getElem?_cons_zero, List.getElem?_cons_succ] at z0 z1 z2; (try go_simp); (try with_reducible rfl))
        simp only [List.getElem_toArray, List.getElem_cons_zero, List.getElem_cons_succ, Act.put, List.setIfInBounds_toArray, List.set_cons_zero, List.set_cons_succ]
        refine wpAnyH_take (i := 13) (v := ?_) rfl (by kernel_rfl) (by kernel_rfl) (by kernel_rfl) (fun _ _ _ h => h) (Or.inl ⟨by rfl, ?_⟩) HS5 ?_
        rotate_left
        · (intro w6 hS6; have z0 := Blk.cell hS6 0; have z1 := Blk.cell hS6 1; have z2 := Blk.cell hS6 2; simp only [List.getElem?_toArray, List.getElem?_cons_zero, List.getElem?_cons_succ] at z0 z1 z2; (try go_simp); (try with_reducible rfl))
        simp only [List.getElem_toArray, List.getElem_cons_zero, List.getElem_cons_succ, Act.put, List.setIfInBounds_toArray, List.set_cons_zero, List.set_cons_succ]
        refine wpAnyH_take (i := 14) (v := ?_) rfl (by kernel_rfl) (by kernel_rfl) (by kernel_rfl) (fun _ _ _ h => h) (Or.inl ⟨by rfl, ?_⟩) HS5 ?_
        rotate_left
        · (intro w6 hS6; have z0 := Blk.cell hS6 0; have z1 := Blk.cell hS6 1; have z2 := Blk.cell hS6 2; simp only [List.getElem?_toArray, List.getElem?_cons_zero, List.getElem?_cons_succ] at z0 z1 z2; (try go_simp); (try with_reducible rfl))
        simp only [List.getElem_toArray, List.getElem_cons_zero, List.getElem_cons_succ, Act.put, List.setIfInBounds_toArray, List.set_cons_zero, List.set_cons_succ]
        clear HS5
        refine wpAnyH_ready (rs := [4, 7]) (by kernel_rfl) (by simp) (AllReadyH.cons rfl (fun K hK => ?_) (AllReadyH.cons rfl (fun K hK => ?_) AllReadyH.nil))
        · simp only [List.getElem_toArray, List.getElem_cons_zero, List.getElem_cons_succ]
          have c0 := Fd1.out.bx.cell 1
          simp only [scells, List.getElem?_toArray, List.getElem?_cons_zero, List.getElem?_cons_succ] at c0
          go_simp
          clear c0
          refine hK.out _ _ (Fd1.out.gx) (fun hS => ?_)
          clear hK
          simp only [List.setIfInBounds_toArray, List.set_cons_zero, List.set_cons_succ]
          clear hS
          refine wpAnyH_ready (rs := [7]) (by kernel_rfl) (by simp) (AllReadyH.cons rfl (fun K hK => ?_) AllReadyH.nil)
          refine step_callx (by rfl) (by go_simp) (rnum3_any xid _) ?_
          intro vn3 wn3 hR
          have Fn3 := hid (Fd1.out.kp0 hR.2)
          have On3 := hid (hR.1.byt (P := Anyb) fun _ _ => trivial)
          clear hR Fd1
          refine hK.out _ _ (Fn3.out.gx) (fun hS => ?_)
          clear hK
          simp only [List.setIfInBounds_toArray, List.set_cons_zero, List.set_cons_succ, Act.put]
          clear hS
          refine wpAnyH_ready (rs := [8]) (by kernel_rfl) (by simp) (AllReadyH.cons rfl (fun K hK => ?_) AllReadyH.nil)
          refine step_app2 isU8 (by rfl) (.tmp 40) (.tmp 43) (by rfl) (base := q + 1) (xs := bod1 (gs.take k)) (ys := dg xid 3) (V 0) vn3 (by rfl) (by rfl) Fn3.out.uo On3.out (by have h1 := HL1.out; simp only [dg_len]; omega) (by have := Fn3.out.bx.lt; omega) ?_
          intro un4 wn4 o8 k8 p8
          have Fn4 := hid (Fn3.out.app o8 k8 p8)
          clear o8 k8 p8 Fn3 On3
          refine hK.out _ _ (Fn4.out.gx) (fun hS => ?_)
          clear hK
          simp only [List.setIfInBounds_toArray, List.set_cons_zero, List.set_cons_succ, Act.put]
          clear hS
          refine wpAnyH_ready (rs := [11]) (by kernel_rfl) (by simp) (AllReadyH.cons rfl (fun K hK => ?_) AllReadyH.nil)
          refine step_callx (by rfl) (by go_simp) (rnum3_any xpar _) ?_
          intro vn5 wn5 hR
          have Fn5 := hid (Fn4.out.kp0 hR.2)
          have On5 := hid (hR.1.byt (P := Anyb) fun _ _ => trivial)
          clear hR Fn4
          refine hK.out _ _ (Fn5.out.gx) (fun hS => ?_)
          clear hK
          simp only [List.setIfInBounds_toArray, List.set_cons_zero, List.set_cons_succ, Act.put]
          clear hS
          refine wpAnyH_ready (rs := [12]) (by kernel_rfl) (by simp) (AllReadyH.cons rfl (fun K hK => ?_) AllReadyH.nil)
          refine step_app2 isU8 (by rfl) (.tmp 44) (.tmp 47) (by rfl) (base := q + 1) (xs := (bod1 (gs.take k) ++ dg xid 3)) (ys := dg xpar 3) (un4) vn5 (by rfl) (by rfl) Fn5.out.uo On5.out (by have h1 := HL1.out; simp only [List.length_append, dg_len]; omega) (by have := Fn5.out.bx.lt; omega) ?_
          intro un6 wn6 o8 k8 p8
          have Fn6 := hid (Fn5.out.app o8 k8 p8)
          clear o8 k8 p8 Fn5 On5
          refine hK.out _ _ (Fn6.out.gx) (fun hS => ?_)
          clear hK
          simp only [List.setIfInBounds_toArray, List.set_cons_zero, List.set_cons_succ, Act.put]
          clear hS
          refine wpAnyH_ready (rs := [15]) (by kernel_rfl) (by simp) (AllReadyH.cons rfl (fun K hK => ?_) AllReadyH.nil)
          refine step_callx (by rfl) (by go_simp) (rnum3_any xwt _) ?_
          intro vn7 wn7 hR
          have Fn7 := hid (Fn6.out.kp0 hR.2)
          have On7 := hid (hR.1.byt (P := Anyb) fun _ _ => trivial)
          clear hR Fn6
          refine hK.out _ _ (Fn7.out.gx) (fun hS => ?_)
          clear hK
          simp only [List.setIfInBounds_toArray, List.set_cons_zero, List.set_cons_succ, Act.put]
          clear hS
          refine wpAnyH_ready (rs := [16]) (by kernel_rfl) (by simp) (AllReadyH.cons rfl (fun K hK => ?_) AllReadyH.nil)
          refine step_app2 isU8 (by rfl) (.tmp 48) (.tmp 51) (by rfl) (base := q + 1) (xs := ((bod1 (gs.take k) ++ dg xid 3) ++ dg xpar 3)) (ys := dg xwt 3) (un6) vn7 (by rfl) (by rfl) Fn7.out.uo On7.out (by have h1 := HL1.out; simp only [List.length_append, dg_len]; omega) (by have := Fn7.out.bx.lt; omega) ?_
          intro un8 wn8 o8 k8 p8
          have Fn8 := hid (Fn7.out.app o8 k8 p8)
          obtain ⟨mn8, hmn⟩ : ∃ m, (((bod1 (gs.take k) ++ dg xid 3) ++ dg xpar 3) ++ dg xwt 3).length = m := ⟨_, rfl⟩
          obtain ⟨An8, cn8, rfl⟩ := o8.formN hmn
          clear hmn
          clear o8 k8 p8 Fn7 On7
          refine hK.out _ _ (Fn8.out.gx) (fun hS => ?_)
          clear hK
          simp only [List.setIfInBounds_toArray, List.set_cons_zero, List.set_cons_succ, Act.put]
          refine wpAnyH_take (i := 17) (v := ?_) rfl (by kernel_rfl) (by kernel_rfl) (by kernel_rfl) (fun _ _ _ h => h) (Or.inl ⟨by rfl, ?_⟩) hS ?_
          rotate_left
          · (intro w6 hS6; have z0 := Blk.cell hS6 0; have z1 := Blk.cell hS6 1; have z2 := Blk.cell hS6 2; simp only [List.getElem?_toArray, List.getElem?_cons_zero, List.getElem?_cons_succ] at z0 z1 z2; (try go_simp); (try with_reducible rfl))
          simp only [List.getElem_toArray, List.getElem_cons_zero, List.getElem_cons_succ, Act.put, List.setIfInBounds_toArray, List.set_cons_zero, List.set_cons_succ]
          refine wpAnyH_take (i := 18) (v := ?_) rfl (by kernel_rfl) (by kernel_rfl) (by kernel_rfl) (fun _ _ _ h => h) (Or.inl ⟨by rfl, ?_⟩) hS ?_
          rotate_left
          · (intro w6 hS6; have z0 := Blk.cell hS6 0; have z1 := Blk.cell hS6 1; have z2 := Blk.cell hS6 2; simp only [List.getElem?_toArray, List.getElem?_cons_zero, List.getElem?_cons_succ] at z0 z1 z2; (try go_simp); (try with_reducible rfl))
          simp only [List.getElem_toArray, List.getElem_cons_zero, List.getElem_cons_succ, Act.put, List.setIfInBounds_toArray, List.set_cons_zero, List.set_cons_succ]
          clear hS
          refine wpAnyH_ready (rs := [19]) (by kernel_rfl) (by simp) (AllReadyH.cons rfl (fun K hK => ?_) AllReadyH.nil)
          simp only [List.getElem_toArray, List.getElem_cons_zero, List.getElem_cons_succ]
          have c0 := Fn8.out.bx.cell 1
          have f0 : wn8.frozen? ⟨q, 1, none⟩ = false := Fn8.out.bx.frozen 1
          simp only [scells, List.getElem?_toArray, List.getElem?_cons_zero, List.getElem?_cons_succ] at c0
          have Fz9 := hid Fn8.out.put
          go_simp
          generalize wn8.setCell ⟨q, 1, none⟩ (.slice An8 mn8 cn8) = wz9 at Fz9 ⊢
          clear c0 f0 Fn8
          refine hK.out _ _ (Fz9.out.gx) (fun hS => ?_)
          clear hK
          simp only [List.setIfInBounds_toArray, List.set_cons_zero, List.set_cons_succ]
          clear hS
          refine wpAnyH_done (by kernel_rfl) ?_ _
          rw [X4_0] at Fz9
          obtain ⟨V1, hV1⟩ : ∃ V1, up4 V 0 (.slice An8 mn8 cn8) = V1 := ⟨_, rfl⟩
          rw [hV1] at Fz9
          clear hV1
          go_upto_region 10 with fail
          have SB := hid (Fz9.out.sy 1 (by omega))
          clear Fz9
          refine wp_region_any (by kernel_rfl) ?_
          show wpAny _ _ _ _ _ _ _ (World.drew wz9)
          have Fd10 := hid (SB.out.kp0 (Kp.refl No wz9).drew)
          generalize World.drew wz9 = Wd10 at Fd10 ⊢
          have HS5 := Fd10.out.gx
          clear SB
          refine wpAny_of_held (S := (fun w' => Blk w' g 45 #[.int .i64 xid, .int .i64 xpar, .int .i64 xwt, .int .i64 xpd, .int .i64 xqt, .int .i64 xus])) _ _ _ _ ?_
          simp only [List.size_toArray, List.length_cons, List.length_nil, Nat.reduceAdd, Array.replicate_succ, Array.replicate_zero, List.push_toArray, List.nil_append, List.cons_append]
          refine wpAnyH_take (i := 0) (v := ?_) rfl (by kernel_rfl) (by kernel_rfl) (by kernel_rfl) (fun _ _ _ h => h) (Or.inl ⟨by rfl, ?_⟩) HS5 ?_
          rotate_left
          · (intro w6 hS6; have z3 := Blk.cell hS6 3; have z4 := Blk.cell hS6 4; have z5 := Blk.cell hS6 5; simp only [List.getElem?_toArray, List.getElem?_cons_zero, List.getElem?_cons_succ] at z3 z4 z5; (try go_simp); (try with_reducible rfl))
          simp only [List.getElem_toArray, List.getElem_cons_zero, Act.put, List.setIfInBounds_toArray, List.set_cons_zero, List.set_cons_succ]
          refine wpAnyH_take (i := 1) (v := ?_) rfl (by kernel_rfl) (by kernel_rfl) (by kernel_rfl) (fun _ _ _ h => h) (Or.inl ⟨by rfl, ?_⟩) HS5 ?_
          rotate_left
          · (intro w6 hS6; have z3 := Blk.cell hS6 3; have z4 := Blk.cell hS6 4; have z5 := Blk.cell hS6 5; simp only [List.getElem?_toArray, List.getElem?_cons_zero, List.getElem?_cons_succ] at z3 z4 z5; (try go_simp); (try with_reducible rfl))
          simp only [List.getElem_toArray, List.getElem_cons_zero, List.getElem_cons_succ, Act.put, List.setIfInBounds_toArray, List.set_cons_zero, List.set_cons_succ]
          refine wpAnyH_take (i := 2) (v := ?_) rfl (by kernel_rfl) (by kernel_rfl) (by kernel_rfl) (fun _ _ _ h => h) (Or.inl ⟨by rfl, ?_⟩) HS5 ?_
          rotate_left
          · (intro w6 hS6; have z3 := Blk.cell hS6 3; have z4 := Blk.cell hS6 4; have z5 := Blk.cell hS6 5; simp only [List.getElem?_toArray, List.getElem?_cons_zero, List.getElem?_cons_succ] at z3 z4 z5; (try go_simp); (try with_reducible rfl))
          simp only [List.getElem_toArray, List.getElem_cons_zero, List.getElem_cons_succ, Act.put, List.setIfInBounds_toArray, List.set_cons_zero, List.set_cons_succ]
          refine wpAnyH_take (i := 3) (v := ?_) rfl (by kernel_rfl) (by kernel_rfl) (by kernel_rfl) (fun _ _ _ h => h) (Or.inl ⟨by rfl, ?_⟩) HS5 ?_
          rotate_left
          · (intro w6 hS6; have z3 := Blk.cell hS6 3; have z4 := Blk.cell hS6 4; have z5 := Blk.cell hS6 5; simp only [List.getElem?_toArray, List.getElem?_cons_zero, List.getElem?_cons_succ] at z3 z4 z5; (try go_simp); (try with_reducible rfl))
          simp only [List.getElem_toArray, List.getElem_cons_zero, List.getElem_cons_succ, Act.put, List.setIfInBounds_toArray, List.set_cons_zero, List.set_cons_succ]
          refine wpAnyH_take (i := 5) (v := ?_) rfl (by kernel_rfl) (by kernel_rfl) (by kernel_rfl) (fun _ _ _ h => h) (Or.inl ⟨by rfl, ?_⟩) HS5 ?_
          rotate_left
          · (intro w6 hS6; have z3 := Blk.cell hS6 3; have z4 := Blk.cell hS6 4; have z5 := Blk.cell hS6 5; simp only [List.getElem?_toArray, List.getElem?_cons_zero, List.getElem?_cons_succ] at z3 z4 z5; (try go_simp); (try with_reducible rfl))
          simp only [List.getElem_toArray, List.getElem_cons_zero, List.getElem_cons_succ, Act.put, List.setIfInBounds_toArray, List.set_cons_zero, List.set_cons_succ]
          refine wpAnyH_take (i := 6) (v := ?_) rfl (by kernel_rfl) (by kernel_rfl) (by kernel_rfl) (fun _ _ _ h => h) (Or.inl ⟨by rfl, ?_⟩) HS5 ?_
          rotate_left
          · (intro w6 hS6; have z3 := Blk.cell hS6 3; have z4 := Blk.cell hS6 4; have z5 := Blk.cell hS6 5; simp only [List.getElem?_toArray, List.getElem?_cons_zero, List.getElem?_cons_succ] at z3 z4 z5; (try go_simp); (try with_reducible rfl))
          simp only [List.getElem_toArray, List.getElem_cons_zero, List.getElem_cons_succ, Act.put, List.setIfInBounds_toArray, List.set_cons_zero, List.set_cons_succ]
          refine wpAnyH_take (i := 7) (v := ?_) rfl (by kernel_rfl) (by kernel_rfl) (by kernel_rfl) (fun _ _ _ h => h) (Or.inl ⟨by rfl, ?_⟩) HS5 ?_
          rotate_left
          · (intro w6 hS6; have z3 := Blk.cell hS6 3; have z4 := Blk.cell hS6 4; have z5 := Blk.cell hS6 5; simp only [List.getElem?_toArray, List.getElem?_cons_zero, List.getElem?_cons_succ] at z3 z4 z5; (try go_simp); (try with_reducible rfl))
          simp only [List.getElem_toArray, List.getElem_cons_zero, List.getElem_cons_succ, Act.put, List.setIfInBounds_toArray, List.set_cons_zero, List.set_cons_succ]
          refine wpAnyH_take (i := 10) (v := ?_) rfl (by kernel_rfl) (by kernel_rfl) (by kernel_rfl) (fun _ _ _ h => h) (Or.inl ⟨by rfl, ?_⟩) HS5 ?_
          rotate_left
          · (intro w6 hS6; have z3 := Blk.cell hS6 3; have z4 := Blk.cell hS6 4; have z5 := Blk.cell hS6 5; simp only [List.getElem?_toArray, List.getElem?_cons_zero, List.getElem?_cons_succ] at z3 z4 z5; (try go_simp); (try with_reducible rfl))
          simp only [List.getElem_toArray, List.getElem_cons_zero, List.getElem_cons_succ, Act.put, List.setIfInBounds_toArray, List.set_cons_zero, List.set_cons_succ]
          refine wpAnyH_take (i := 11) (v := ?_) rfl (by kernel_rfl) (by kernel_rfl) (by kernel_rfl) (fun _ _ _ h => h) (Or.inl ⟨by rfl, ?_⟩) HS5 ?_
          rotate_left
          · (intro w6 hS6; have z3 := Blk.cell hS6 3; have z4 := Blk.cell hS6 4; have z5 := Blk.cell hS6 5; simp only [List.getElem?_toArray, List.getElem?_cons_zero, List.getElem?_cons_succ] at z3 z4 z5; (try go_simp); (try with_reducible rfl))
          simp only [List.getElem_toArray, List.getElem_cons_zero, List.getElem_cons_succ, Act.put, List.setIfInBounds_toArray, List.set_cons_zero, List.set_cons_succ]
          refine wpAnyH_take (i := 12) (v := ?_) rfl (by kernel_rfl) (by kernel_rfl) (by kernel_rfl) (fun _ _ _ h => h) (Or.inl ⟨by rfl, ?_⟩) HS5 ?_
          rotate_left
          · (intro w6 hS6; have z3 := Blk.cell hS6 3; have z4 := Blk.cell hS6 4; have z5 := Blk.cell hS6 5; simp only [List.getElem?_toArray, List.getElem?_cons_zero, List.getElem?_cons_succ] at z3 z4 z5; (try go_simp); (try with_reducible rfl))
          simp only [List.getElem_toArray, List.getElem_cons_zero, List.getElem_cons_succ, Act.put, List.setIfInBounds_toArray, List.set_cons_zero, List.set_cons_succ]
          refine wpAnyH_take (i := 15) (v := ?_) rfl (by kernel_rfl) (by kernel_rfl) (by kernel_rfl) (fun _ _ _ h => h) (Or.inl ⟨by rfl, ?_⟩) HS5 ?_
          rotate_left
          · (intro w6 hS6; have z3 := Blk.cell hS6 3; have z4 := Blk.cell hS6 4; have z5 := Blk.cell hS6 5; simp only [List.getElem?_toArray, List.getElem?_cons_zero, List.getElem?_cons_succ] at z3 z4 z5; (try go_simp); (try with_reducible rfl))
          simp only [List.getElem_toArray, List.getElem_cons_zero, List.getElem_cons_succ, Act.put, List.setIfInBounds_toArray, List.set_cons_zero, List.set_cons_succ]
          refine wpAnyH_take (i := 16) (v := ?_) rfl (by kernel_rfl) (by kernel_rfl) (by kernel_rfl) (fun _ _ _ h => h) (Or.inl ⟨by rfl, ?_⟩) HS5 ?_
          rotate_left
          · (intro w6 hS6; have z3 := Blk.cell hS6 3; have z4 := Blk.cell hS6 4; have z5 := Blk.cell hS6 5; simp only [List.getElem?_toArray, List.getElem?_cons_zero, List.getElem?_cons_succ] at z3 z4 z5; (try go_simp); (try with_reducible rfl))
          simp only [List.getElem_toArray, List.getElem_cons_zero, List.getElem_cons_succ, Act.put, List.setIfInBounds_toArray, List.set_cons_zero, List.set_cons_succ]
          refine wpAnyH_take (i := 17) (v := ?_) rfl (by kernel_rfl) (by kernel_rfl) (by kernel_rfl) (fun _ _ _ h => h) (Or.inl ⟨by rfl, ?_⟩) HS5 ?_
          rotate_left
          · (intro w6 hS6; have z3 := Blk.cell hS6 3; have z4 := Blk.cell hS6 4; have z5 := Blk.cell hS6 5; simp only [List.getElem?_toArray, List.getElem?_cons_zero, List.getElem?_cons_succ] at z3 z4 z5; (try go_simp); (try with_reducible rfl))
          simp only [List.getElem_toArray, List.getElem_cons_zero, List.getElem_cons_succ, Act.put, List.setIfInBounds_toArray, List.set_cons_zero, List.set_cons_succ]
          clear HS5
          refine wpAnyH_ready (rs := [4, 8]) (by kernel_rfl) (by simp) (AllReadyH.cons rfl (fun K hK => ?_) (AllReadyH.cons rfl (fun K hK => ?_) AllReadyH.nil))
          · simp only [List.getElem_toArray, List.getElem_cons_zero, List.getElem_cons_succ]
            have c0 := Fd10.out.bx.cell 3
            simp only [scells, List.getElem?_toArray, List.getElem?_cons_zero, List.getElem?_cons_succ] at c0
            go_simp
            clear c0
            refine hK.out _ _ (Fd10.out.gx) (fun hS => ?_)
            clear hK
            simp only [List.setIfInBounds_toArray, List.set_cons_zero, List.set_cons_succ]
            clear hS
            refine wpAnyH_ready (rs := [8]) (by kernel_rfl) (by simp) (AllReadyH.cons rfl (fun K hK => ?_) AllReadyH.nil)
            refine step_callx (by rfl) (by go_simp) (rnum3_any xpd _) ?_
            intro vn12 wn12 hR
            have Fn12 := hid (Fd10.out.kp0 hR.2)
            have On12 := hid (hR.1.byt (P := Anyb) fun _ _ => trivial)
            clear hR Fd10
            refine hK.out _ _ (Fn12.out.gx) (fun hS => ?_)
            clear hK
            simp only [List.setIfInBounds_toArray, List.set_cons_zero, List.set_cons_succ, Act.put]
            clear hS
            refine wpAnyH_ready (rs := [9]) (by kernel_rfl) (by simp) (AllReadyH.cons rfl (fun K hK => ?_) AllReadyH.nil)
            refine step_app2 isU8 (by rfl) (.tmp 59) (.tmp 63) (by rfl) (base := q + 1) (xs := bod2 (gs.take k)) (ys := dg xpd 3) (V1 1) vn12 (by rfl) (by rfl) Fn12.out.uo On12.out (by have h1 := HL2.out; simp only [dg_len]; omega) (by have := Fn12.out.bx.lt; omega) ?_
            intro un13 wn13 o8 k8 p8
            have Fn13 := hid (Fn12.out.app o8 k8 p8)
            clear o8 k8 p8 Fn12 On12
            refine hK.out _ _ (Fn13.out.gx) (fun hS => ?_)
            clear hK
            simp only [List.setIfInBounds_toArray, List.set_cons_zero, List.set_cons_succ, Act.put]
            clear hS
            refine wpAnyH_ready (rs := [13]) (by kernel_rfl) (by simp) (AllReadyH.cons rfl (fun K hK => ?_) AllReadyH.nil)
            refine step_callx (by rfl) (by go_simp) (rnum3_any xqt _) ?_
            intro vn14 wn14 hR
            have Fn14 := hid (Fn13.out.kp0 hR.2)
            have On14 := hid (hR.1.byt (P := Anyb) fun _ _ => trivial)
            clear hR Fn13
            refine hK.out _ _ (Fn14.out.gx) (fun hS => ?_)
            clear hK
            simp only [List.setIfInBounds_toArray, List.set_cons_zero, List.set_cons_succ, Act.put]
            clear hS
            refine wpAnyH_ready (rs := [14]) (by kernel_rfl) (by simp) (AllReadyH.cons rfl (fun K hK => ?_) AllReadyH.nil)
            refine step_app2 isU8 (by rfl) (.tmp 64) (.tmp 68) (by rfl) (base := q + 1) (xs := (bod2 (gs.take k) ++ dg xpd 3)) (ys := dg xqt 3) (un13) vn14 (by rfl) (by rfl) Fn14.out.uo On14.out (by have h1 := HL2.out; simp only [List.length_append, dg_len]; omega) (by have := Fn14.out.bx.lt; omega) ?_
            intro un15 wn15 o8 k8 p8
            have Fn15 := hid (Fn14.out.app o8 k8 p8)
            clear o8 k8 p8 Fn14 On14
            refine hK.out _ _ (Fn15.out.gx) (fun hS => ?_)
            clear hK
            simp only [List.setIfInBounds_toArray, List.set_cons_zero, List.set_cons_succ, Act.put]
            clear hS
            refine wpAnyH_ready (rs := [18]) (by kernel_rfl) (by simp) (AllReadyH.cons rfl (fun K hK => ?_) AllReadyH.nil)
            refine step_callx (by rfl) (by go_simp) (rnum6_any xus _) ?_
            intro vn16 wn16 hR
            have Fn16 := hid (Fn15.out.kp0 hR.2)
            have On16 := hid (hR.1.byt (P := Anyb) fun _ _ => trivial)
            clear hR Fn15
            refine hK.out _ _ (Fn16.out.gx) (fun hS => ?_)
            clear hK
            simp only [List.setIfInBounds_toArray, List.set_cons_zero, List.set_cons_succ, Act.put]
            clear hS
            refine wpAnyH_ready (rs := [19]) (by kernel_rfl) (by simp) (AllReadyH.cons rfl (fun K hK => ?_) AllReadyH.nil)
            refine step_app2 isU8 (by rfl) (.tmp 69) (.tmp 73) (by rfl) (base := q + 1) (xs := ((bod2 (gs.take k) ++ dg xpd 3) ++ dg xqt 3)) (ys := dg xus 6) (un15) vn16 (by rfl) (by rfl) Fn16.out.uo On16.out (by have h1 := HL2.out; simp only [List.length_append, dg_len]; omega) (by have := Fn16.out.bx.lt; omega) ?_
            intro un17 wn17 o8 k8 p8
            have Fn17 := hid (Fn16.out.app o8 k8 p8)
            obtain ⟨mn17, hmn⟩ : ∃ m, (((bod2 (gs.take k) ++ dg xpd 3) ++ dg xqt 3) ++ dg xus 6).length = m := ⟨_, rfl⟩
            obtain ⟨An17, cn17, rfl⟩ := o8.formN hmn
            clear hmn
            clear o8 k8 p8 Fn16 On16
            refine hK.out _ _ (Fn17.out.gx) (fun hS => ?_)
            clear hK
            simp only [List.setIfInBounds_toArray, List.set_cons_zero, List.set_cons_succ, Act.put]
            refine wpAnyH_take (i := 20) (v := ?_) rfl (by kernel_rfl) (by kernel_rfl) (by kernel_rfl) (fun _ _ _ h => h) (Or.inl ⟨by rfl, ?_⟩) hS ?_
            rotate_left
            · (intro w6 hS6; have z3 := Blk.cell hS6 3; have z4 := Blk.cell hS6 4; have z5 := Blk.cell hS6 5; simp only [List.getElem?_toArray, List.getElem?_cons_zero, List.getElem?_cons_succ] at z3 z4 z5; (try go_simp); (try with_reducible rfl))
            simp only [List.getElem_toArray, List.getElem_cons_zero, List.getElem_cons_succ, Act.put, List.setIfInBounds_toArray, List.set_cons_zero, List.set_cons_succ]
            refine wpAnyH_take (i := 21) (v := ?_) rfl (by kernel_rfl) (by kernel_rfl) (by kernel_rfl) (fun _ _ _ h => h) (Or.inl ⟨by rfl, ?_⟩) hS ?_
            rotate_left
            · (intro w6 hS6; have z3 := Blk.cell hS6 3; have z4 := Blk.cell hS6 4; have z5 := Blk.cell hS6 5; simp only [List.getElem?_toArray, List.getElem?_cons_zero, List.getElem?_cons_succ] at z3 z4 z5; (try go_simp); (try with_reducible rfl))
            simp only [List.getElem_toArray, List.getElem_cons_zero, List.getElem_cons_succ, Act.put, List.setIfInBounds_toArray, List.set_cons_zero, List.set_cons_succ]
            clear hS
            refine wpAnyH_ready (rs := [22]) (by kernel_rfl) (by simp) (AllReadyH.cons rfl (fun K hK => ?_) AllReadyH.nil)
            simp only [List.getElem_toArray, List.getElem_cons_zero, List.getElem_cons_succ]
            have c0 := Fn17.out.bx.cell 3
            have f0 : wn17.frozen? ⟨q, 3, none⟩ = false := Fn17.out.bx.frozen 3
            simp only [scells, List.getElem?_toArray, List.getElem?_cons_zero, List.getElem?_cons_succ] at c0
            have Fz18 := hid Fn17.out.put
            go_simp
            generalize wn17.setCell ⟨q, 3, none⟩ (.slice An17 mn17 cn17) = wz18 at Fz18 ⊢
            clear c0 f0 Fn17
            refine hK.out _ _ (Fz18.out.gx) (fun hS => ?_)
            clear hK
            simp only [List.setIfInBounds_toArray, List.set_cons_zero, List.set_cons_succ]
            clear hS
            refine wpAnyH_done (by kernel_rfl) ?_ _
            have SX9 := hid (Fz18.out.sx)
            rw [X4_1] at SX9
            go_wp2_with fail
            go_roundw
            case rel => exact ⟨k + 1, _, by omega, by go_num, hid (by rw [H1.out, H2.out]; simpa [grow, brow] using SX9.out)⟩
            case measure => simp [vI]; omega
          · refine step_callx (by rfl) (by go_simp) (rnum3_any xpd _) ?_
            intro vn19 wn19 hR
            have Fn19 := hid (Fd10.out.kp0 hR.2)
            have On19 := hid (hR.1.byt (P := Anyb) fun _ _ => trivial)
            clear hR Fd10
            refine hK.out _ _ (Fn19.out.gx) (fun hS => ?_)
            clear hK
            simp only [List.setIfInBounds_toArray, List.set_cons_zero, List.set_cons_succ, Act.put]
            clear hS
            refine wpAnyH_ready (rs := [4]) (by kernel_rfl) (by simp) (AllReadyH.cons rfl (fun K hK => ?_) AllReadyH.nil)
            simp only [List.getElem_toArray, List.getElem_cons_zero, List.getElem_cons_succ]
            have c0 := Fn19.out.bx.cell 3
            simp only [scells, List.getElem?_toArray, List.getElem?_cons_zero, List.getElem?_cons_succ] at c0
            go_simp
            clear c0
            refine hK.out _ _ (Fn19.out.gx) (fun hS => ?_)
            clear hK
            simp only [List.setIfInBounds_toArray, List.set_cons_zero, List.set_cons_succ]
            clear hS
            refine wpAnyH_ready (rs := [9]) (by kernel_rfl) (by simp) (AllReadyH.cons rfl (fun K hK => ?_) AllReadyH.nil)
            refine step_app2 isU8 (by rfl) (.tmp 59) (.tmp 63) (by rfl) (base := q + 1) (xs := bod2 (gs.take k)) (ys := dg xpd 3) (V1 1) vn19 (by rfl) (by rfl) Fn19.out.uo On19.out (by have h1 := HL2.out; simp only [dg_len]; omega) (by have := Fn19.out.bx.lt; omega) ?_
            intro un21 wn21 o8 k8 p8
            have Fn21 := hid (Fn19.out.app o8 k8 p8)
            clear o8 k8 p8 Fn19 On19
            refine hK.out _ _ (Fn21.out.gx) (fun hS => ?_)
            clear hK
            simp only [List.setIfInBounds_toArray, List.set_cons_zero, List.set_cons_succ, Act.put]
            clear hS
            refine wpAnyH_ready (rs := [13]) (by kernel_rfl) (by simp) (AllReadyH.cons rfl (fun K hK => ?_) AllReadyH.nil)
            refine step_callx (by rfl) (by go_simp) (rnum3_any xqt _) ?_
            intro vn22 wn22 hR
            have Fn22 := hid (Fn21.out.kp0 hR.2)
            have On22 := hid (hR.1.byt (P := Anyb) fun _ _ => trivial)
            clear hR Fn21
            refine hK.out _ _ (Fn22.out.gx) (fun hS => ?_)
            clear hK
            simp only [List.setIfInBounds_toArray, List.set_cons_zero, List.set_cons_succ, Act.put]
            clear hS
            refine wpAnyH_ready (rs := [14]) (by kernel_rfl) (by simp) (AllReadyH.cons rfl (fun K hK => ?_) AllReadyH.nil)
            refine step_app2 isU8 (by rfl) (.tmp 64) (.tmp 68) (by rfl) (base := q + 1) (xs := (bod2 (gs.take k) ++ dg xpd 3)) (ys := dg xqt 3) (un21) vn22 (by rfl) (by rfl) Fn22.out.uo On22.out (by have h1 := HL2.out; simp only [List.length_append, dg_len]; omega) (by have := Fn22.out.bx.lt; omega) ?_
            intro un23 wn23 o8 k8 p8
            have Fn23 := hid (Fn22.out.app o8 k8 p8)
            clear o8 k8 p8 Fn22 On22
            refine hK.out _ _ (Fn23.out.gx) (fun hS => ?_)
            clear hK
            simp only [List.setIfInBounds_toArray, List.set_cons_zero, List.set_cons_succ, Act.put]
            clear hS
            refine wpAnyH_ready (rs := [18]) (by kernel_rfl) (by simp) (AllReadyH.cons rfl (fun K hK => ?_) AllReadyH.nil)
            refine step_callx (by rfl) (by go_simp) (rnum6_any xus _) ?_
            intro vn24 wn24 hR
            have Fn24 := hid (Fn23.out.kp0 hR.2)
            have On24 := hid (hR.1.byt (P := Anyb) fun _ _ => trivial)
            clear hR Fn23
            refine hK.out _ _ (Fn24.out.gx) (fun hS => ?_)
            clear hK
            simp only [List.setIfInBounds_toArray, List.set_cons_zero, List.set_cons_succ, Act.put]
            clear hS
            refine wpAnyH_ready (rs := [19]) (by kernel_rfl) (by simp) (AllReadyH.cons rfl (fun K hK => ?_) AllReadyH.nil)
            refine step_app2 isU8 (by rfl) (.tmp 69) (.tmp 73) (by rfl) (base := q + 1) (xs := ((bod2 (gs.take k) ++ dg xpd 3) ++ dg xqt 3)) (ys := dg xus 6) (un23) vn24 (by rfl) (by rfl) Fn24.out.uo On24.out (by have h1 := HL2.out; simp only [List.length_append, dg_len]; omega) (by have := Fn24.out.bx.lt; omega) ?_
            intro un25 wn25 o8 k8 p8
            have Fn25 := hid (Fn24.out.app o8 k8 p8)
            obtain ⟨mn25, hmn⟩ : ∃ m, (((bod2 (gs.take k) ++ dg xpd 3) ++ dg xqt 3) ++ dg xus 6).length = m := ⟨_, rfl⟩
            obtain ⟨An25, cn25, rfl⟩ := o8.formN hmn
            clear hmn
            clear o8 k8 p8 Fn24 On24
            refine hK.out _ _ (Fn25.out.gx) (fun hS => ?_)
            clear hK
            simp only [List.setIfInBounds_toArray, List.set_cons_zero, List.set_cons_succ, Act.put]
            refine wpAnyH_take (i := 20) (v := ?_) rfl (by kernel_rfl) (by kernel_rfl) (by kernel_rfl) (fun _ _ _ h => h) (Or.inl ⟨by rfl, ?_⟩) hS ?_
            rotate_left
            · (intro w6 hS6; have z3 := Blk.cell hS6 3; have z4 := Blk.cell hS6 4; have z5 := Blk.cell hS6 5; simp only [List.getElem?_toArray, List.getElem?_cons_zero, List.getElem?_cons_succ] at z3 z4 z5; (try go_simp); (try with_reducible rfl))
            simp only [List.getElem_toArray, List.getElem_cons_zero, List.getElem_cons_succ, Act.put, List.setIfInBounds_toArray, List.set_cons_zero, List.set_cons_succ]
            refine wpAnyH_take (i := 21) (v := ?_) rfl (by kernel_rfl) (by kernel_rfl) (by kernel_rfl) (fun _ _ _ h => h) (Or.inl ⟨by rfl, ?_⟩) hS ?_
            rotate_left
            · (intro w6 hS6; have z3 := Blk.cell hS6 3; have z4 := Blk.cell hS6 4; have z5 := Blk.cell hS6 5; simp only [List.getElem?_toArray, List.getElem?_cons_zero, List.getElem?_cons_succ] at z3 z4 z5; (try go_simp); (try with_reducible rfl))
            simp only [List.getElem_toArray, List.getElem_cons_zero, List.getElem_cons_succ, Act.put, List.setIfInBounds_toArray, List.set_cons_zero, List.set_cons_succ]
            clear hS
            refine wpAnyH_ready (rs := [22]) (by kernel_rfl) (by simp) (AllReadyH.cons rfl (fun K hK => ?_) AllReadyH.nil)
            simp only [List.getElem_toArray, List.getElem_cons_zero, List.getElem_cons_succ]
            have c0 := Fn25.out.bx.cell 3
            have f0 : wn25.frozen? ⟨q, 3, none⟩ = false := Fn25.out.bx.frozen 3
            simp only [scells, List.getElem?_toArray, List.getElem?_cons_zero, List.getElem?_cons_succ] at c0
            have Fz26 := hid Fn25.out.put
            go_simp
            generalize wn25.setCell ⟨q, 3, none⟩ (.slice An25 mn25 cn25) = wz26 at Fz26 ⊢
            clear c0 f0 Fn25
            refine hK.out _ _ (Fz26.out.gx) (fun hS => ?_)
            clear hK
            simp only [List.setIfInBounds_toArray, List.set_cons_zero, List.set_cons_succ]
            clear hS
            refine wpAnyH_done (by kernel_rfl) ?_ _
            have SX9 := hid (Fz26.out.sx)
            rw [X4_1] at SX9
            go_wp2_with fail
            go_roundw
            case rel => exact ⟨k + 1, _, by omega, by go_num, hid (by rw [H1.out, H2.out]; simpa [grow, brow] using SX9.out)⟩
            case measure => simp [vI]; omega
        · refine step_callx (by rfl) (by go_simp) (rnum3_any xid _) ?_
          intro vn27 wn27 hR
          have Fn27 := hid (Fd1.out.kp0 hR.2)
          have On27 := hid (hR.1.byt (P := Anyb) fun _ _ => trivial)
          clear hR Fd1
          refine hK.out _ _ (Fn27.out.gx) (fun hS => ?_)
          clear hK
          simp only [List.setIfInBounds_toArray, List.set_cons_zero, List.set_cons_succ, Act.put]
          clear hS
          refine wpAnyH_ready (rs := [4]) (by kernel_rfl) (by simp) (AllReadyH.cons rfl (fun K hK => ?_) AllReadyH.nil)
          simp only [List.getElem_toArray, List.getElem_cons_zero, List.getElem_cons_succ]
          have c0 := Fn27.out.bx.cell 1
          simp only [scells, List.getElem?_toArray, List.getElem?_cons_zero, List.getElem?_cons_succ] at c0
          go_simp
          clear c0
          refine hK.out _ _ (Fn27.out.gx) (fun hS => ?_)
          clear hK
          simp only [List.setIfInBounds_toArray, List.set_cons_zero, List.set_cons_succ]
          clear hS
          refine wpAnyH_ready (rs := [8]) (by kernel_rfl) (by simp) (AllReadyH.cons rfl (fun K hK => ?_) AllReadyH.nil)
          refine step_app2 isU8 (by rfl) (.tmp 40) (.tmp 43) (by rfl) (base := q + 1) (xs := bod1 (gs.take k)) (ys := dg xid 3) (V 0) vn27 (by rfl) (by rfl) Fn27.out.uo On27.out (by have h1 := HL1.out; simp only [dg_len]; omega) (by have := Fn27.out.bx.lt; omega) ?_
          intro un29 wn29 o8 k8 p8
          have Fn29 := hid (Fn27.out.app o8 k8 p8)
          clear o8 k8 p8 Fn27 On27
          refine hK.out _ _ (Fn29.out.gx) (fun hS => ?_)
          clear hK
          simp only [List.setIfInBounds_toArray, List.set_cons_zero, List.set_cons_succ, Act.put]
          clear hS
          refine wpAnyH_ready (rs := [11]) (by kernel_rfl) (by simp) (AllReadyH.cons rfl (fun K hK => ?_) AllReadyH.nil)
          refine step_callx (by rfl) (by go_simp) (rnum3_any xpar _) ?_
          intro vn30 wn30 hR
          have Fn30 := hid (Fn29.out.kp0 hR.2)
          have On30 := hid (hR.1.byt (P := Anyb) fun _ _ => trivial)
          clear hR Fn29
          refine hK.out _ _ (Fn30.out.gx) (fun hS => ?_)
          clear hK
          simp only [List.setIfInBounds_toArray, List.set_cons_zero, List.set_cons_succ, Act.put]
          clear hS
          refine wpAnyH_ready (rs := [12]) (by kernel_rfl) (by simp) (AllReadyH.cons rfl (fun K hK => ?_) AllReadyH.nil)
          refine step_app2 isU8 (by rfl) (.tmp 44) (.tmp 47) (by rfl) (base := q + 1) (xs := (bod1 (gs.take k) ++ dg xid 3)) (ys := dg xpar 3) (un29) vn30 (by rfl) (by rfl) Fn30.out.uo On30.out (by have h1 := HL1.out; simp only [List.length_append, dg_len]; omega) (by have := Fn30.out.bx.lt; omega) ?_
          intro un31 wn31 o8 k8 p8
          have Fn31 := hid (Fn30.out.app o8 k8 p8)
          clear o8 k8 p8 Fn30 On30
          refine hK.out _ _ (Fn31.out.gx) (fun hS => ?_)
          clear hK
          simp only [List.setIfInBounds_toArray, List.set_cons_zero, List.set_cons_succ, Act.put]
          clear hS
          refine wpAnyH_ready (rs := [15]) (by kernel_rfl) (by simp) (AllReadyH.cons rfl (fun K hK => ?_) AllReadyH.nil)
          refine step_callx (by rfl) (by go_simp) (rnum3_any xwt _) ?_
          intro vn32 wn32 hR
          have Fn32 := hid (Fn31.out.kp0 hR.2)
          have On32 := hid (hR.1.byt (P := Anyb) fun _ _ => trivial)
          clear hR Fn31
          refine hK.out _ _ (Fn32.out.gx) (fun hS => ?_)
          clear hK
          simp only [List.setIfInBounds_toArray, List.set_cons_zero, List.set_cons_succ, Act.put]
          clear hS
          refine wpAnyH_ready (rs := [16]) (by kernel_rfl) (by simp) (AllReadyH.cons rfl (fun K hK => ?_) AllReadyH.nil)
          refine step_app2 isU8 (by rfl) (.tmp 48) (.tmp 51) (by rfl) (base := q + 1) (xs := ((bod1 (gs.take k) ++ dg xid 3) ++ dg xpar 3)) (ys := dg xwt 3) (un31) vn32 (by rfl) (by rfl) Fn32.out.uo On32.out (by have h1 := HL1.out; simp only [List.length_append, dg_len]; omega) (by have := Fn32.out.bx.lt; omega) ?_
          intro un33 wn33 o8 k8 p8
          have Fn33 := hid (Fn32.out.app o8 k8 p8)
          obtain ⟨mn33, hmn⟩ : ∃ m, (((bod1 (gs.take k) ++ dg xid 3) ++ dg xpar 3) ++ dg xwt 3).length = m := ⟨_, rfl⟩
          obtain ⟨An33, cn33, rfl⟩ := o8.formN hmn
          clear hmn
          clear o8 k8 p8 Fn32 On32
          refine hK.out _ _ (Fn33.out.gx) (fun hS => ?_)
          clear hK
          simp only [List.setIfInBounds_toArray, List.set_cons_zero, List.set_cons_succ, Act.put]
          refine wpAnyH_take (i := 17) (v := ?_) rfl (by kernel_rfl) (by kernel_rfl) (by kernel_rfl) (fun _ _ _ h => h) (Or.inl ⟨by rfl, ?_⟩) hS ?_
          rotate_left
          · (intro w6 hS6; have z0 := Blk.cell hS6 0; have z1 := Blk.cell hS6 1; have z2 := Blk.cell hS6 2; simp only [List.getElem?_toArray, List.getElem?_cons_zero, List.getElem?_cons_succ] at z0 z1 z2; (try go_simp); (try with_reducible rfl))
          simp only [List.getElem_toArray, List.getElem_cons_zero, List.getElem_cons_succ, Act.put, List.setIfInBounds_toArray, List.set_cons_zero, List.set_cons_succ]
          refine wpAnyH_take (i := 18) (v := ?_) rfl (by kernel_rfl) (by kernel_rfl) (by kernel_rfl) (fun _ _ _ h => h) (Or.inl ⟨by rfl, ?_⟩) hS ?_
          rotate_left
          · (intro w6 hS6; have z0 := Blk.cell hS6 0; have z1 := Blk.cell hS6 1; have z2 := Blk.cell hS6 2; simp only [List.getElem?_toArray, List.getElem?_cons_zero, List.getElem?_cons_succ] at z0 z1 z2; (try go_simp); (try with_reducible rfl))
          simp only [List.getElem_toArray, List.getElem_cons_zero, List.getElem_cons_succ, Act.put, List.setIfInBounds_toArray, List.set_cons_zero, List.set_cons_succ]
          clear hS
          refine wpAnyH_ready (rs := [19]) (by kernel_rfl) (by simp) (AllReadyH.cons rfl (fun K hK => ?_) AllReadyH.nil)
          simp only [List.getElem_toArray, List.getElem_cons_zero, List.getElem_cons_succ]
          have c0 := Fn33.out.bx.cell 1
          have f0 : wn33.frozen? ⟨q, 1, none⟩ = false := Fn33.out.bx.frozen 1
          simp only [scells, List.getElem?_toArray, List.getElem?_cons_zero, List.getElem?_cons_succ] at c0
          have Fz34 := hid Fn33.out.put
          go_simp
          generalize wn33.setCell ⟨q, 1, none⟩ (.slice An33 mn33 cn33) = wz34 at Fz34 ⊢
          clear c0 f0 Fn33
          refine hK.out _ _ (Fz34.out.gx) (fun hS => ?_)
          clear hK
          simp only [List.setIfInBounds_toArray, List.set_cons_zero, List.set_cons_succ]
          clear hS
          refine wpAnyH_done (by kernel_rfl) ?_ _
          rw [X4_0] at Fz34
          obtain ⟨V1, hV1⟩ : ∃ V1, up4 V 0 (.slice An33 mn33 cn33) = V1 := ⟨_, rfl⟩
          rw [hV1] at Fz34
          clear hV1
          go_upto_region 10 with fail
          have SB := hid (Fz34.out.sy 1 (by omega))
          clear Fz34
          refine wp_region_any (by kernel_rfl) ?_
          show wpAny _ _ _ _ _ _ _ (World.drew wz34)
          have Fd35 := hid (SB.out.kp0 (Kp.refl No wz34).drew)
          generalize World.drew wz34 = Wd35 at Fd35 ⊢
          have HS5 := Fd35.out.gx
          clear SB
          refine wpAny_of_held (S := (fun w' => Blk w' g 45 #[.int .i64 xid, .int .i64 xpar, .int .i64 xwt, .int .i64 xpd, .int .i64 xqt, .int .i64 xus])) _ _ _ _ ?_
          simp only [List.size_toArray, List.length_cons, List.length_nil, Nat.reduceAdd, Array.replicate_succ, Array.replicate_zero, List.push_toArray, List.nil_append, List.cons_append]
          refine wpAnyH_take (i := 0) (v := ?_) rfl (by kernel_rfl) (by kernel_rfl) (by kernel_rfl) (fun _ _ _ h => h) (Or.inl ⟨by rfl, ?_⟩) HS5 ?_
          rotate_left
          · (intro w6 hS6; have z3 := Blk.cell hS6 3; have z4 := Blk.cell hS6 4; have z5 := Blk.cell hS6 5; simp only [List.getElem?_toArray, List.getElem?_cons_zero, List.getElem?_cons_succ] at z3 z4 z5; (try go_simp); (try with_reducible rfl))
          simp only [List.getElem_toArray, List.getElem_cons_zero, Act.put, List.setIfInBounds_toArray, List.set_cons_zero, List.set_cons_succ]
          refine wpAnyH_take (i := 1) (v := ?_) rfl (by kernel_rfl) (by kernel_rfl) (by kernel_rfl) (fun _ _ _ h => h) (Or.inl ⟨by rfl, ?_⟩) HS5 ?_
          rotate_left
          · (intro w6 hS6; have z3 := Blk.cell hS6 3; have z4 := Blk.cell hS6 4; have z5 := Blk.cell hS6 5; simp only [List.getElem?_toArray, List.getElem?_cons_zero, List.getElem?_cons_succ] at z3 z4 z5; (try go_simp); (try with_reducible rfl))
          simp only [List.getElem_toArray, List.getElem_cons_zero, List.getElem_cons_succ, Act.put, List.setIfInBounds_toArray, List.set_cons_zero, List.set_cons_succ]
          refine wpAnyH_take (i := 2) (v := ?_) rfl (by kernel_rfl) (by kernel_rfl) (by kernel_rfl) (fun _ _ _ h => h) (Or.inl ⟨by rfl, ?_⟩) HS5 ?_
          rotate_left
          · (intro w6 hS6; have z3 := Blk.cell hS6 3; have z4 := Blk.cell hS6 4; have z5 := Blk.cell hS6 5; simp only [List.getElem?_toArray, List.getElem?_cons_zero, List.getElem?_cons_succ] at z3 z4 z5; (try go_simp); (try with_reducible rfl))
          simp only [List.getElem_toArray, List.getElem_cons_zero, List.getElem_cons_succ, Act.put, List.setIfInBounds_toArray, List.set_cons_zero, List.set_cons_succ]
          refine wpAnyH_take (i := 3) (v := ?_) rfl (by kernel_rfl) (by kernel_rfl) (by kernel_rfl) (fun _ _ _ h => h) (Or.inl ⟨by rfl, ?_⟩) HS5 ?_
          rotate_left
          · (intro w6 hS6; have z3 := Blk.cell hS6 3; have z4 := Blk.cell hS6 4; have z5 := Blk.cell hS6 5; simp only [List.getElem?_toArray, List.getElem?_cons_zero, List.getElem?_cons_succ] at z3 z4 z5; (try go_simp); (try with_reducible rfl))
          simp only [List.getElem_toArray, List.getElem_cons_zero, List.getElem_cons_succ, Act.put, List.setIfInBounds_toArray, List.set_cons_zero, List.set_cons_succ]
          refine wpAnyH_take (i := 5) (v := ?_) rfl (by kernel_rfl) (by kernel_rfl) (by kernel_rfl) (fun _ _ _ h => h) (Or.inl ⟨by rfl, ?_⟩) HS5 ?_
          rotate_left
          · (intro w6 hS6; have z3 := Blk.cell hS6 3; have z4 := Blk.cell hS6 4; have z5 := Blk.cell hS6 5; simp only [List.getElem?_toArray, List.getElem?_cons_zero, List.getElem?_cons_succ] at z3 z4 z5; (try go_simp); (try with_reducible rfl))
          simp only [List.getElem_toArray, List.getElem_cons_zero, List.getElem_cons_succ, Act.put, List.setIfInBounds_toArray, List.set_cons_zero, List.set_cons_succ]
          refine wpAnyH_take (i := 6) (v := ?_) rfl (by kernel_rfl) (by kernel_rfl) (by kernel_rfl) (fun _ _ _ h => h) (Or.inl ⟨by rfl, ?_⟩) HS5 ?_
          rotate_left
          · (intro w6 hS6; have z3 := Blk.cell hS6 3; have z4 := Blk.cell hS6 4; have z5 := Blk.cell hS6 5; simp only [List.getElem?_toArray, List.getElem?_cons_zero, List.getElem?_cons_succ] at z3 z4 z5; (try go_simp); (try with_reducible rfl))
          simp only [List.getElem_toArray, List.getElem_cons_zero, List.getElem_cons_succ, Act.put, List.setIfInBounds_toArray, List.set_cons_zero, List.set_cons_succ]
          refine wpAnyH_take (i := 7) (v := ?_) rfl (by kernel_rfl) (by kernel_rfl) (by kernel_rfl) (fun _ _ _ h => h) (Or.inl ⟨by rfl, ?_⟩) HS5 ?_
          rotate_left
          · (intro w6 hS6; have z3 := Blk.cell hS6 3; have z4 := Blk.cell hS6 4; have z5 := Blk.cell hS6 5; simp only [List.getElem?_toArray, List.getElem?_cons_zero, List.getElem?_cons_succ] at z3 z4 z5; (try go_simp); (try with_reducible rfl))
          simp only [List.getElem_toArray, List.getElem_cons_zero, List.getElem_cons_succ, Act.put, List.setIfInBounds_toArray, List.set_cons_zero, List.set_cons_succ]
          refine wpAnyH_take (i := 10) (v := ?_) rfl (by kernel_rfl) (by kernel_rfl) (by kernel_rfl) (fun _ _ _ h => h) (Or.inl ⟨by rfl, ?_⟩) HS5 ?_
          rotate_left
          · (intro w6 hS6; have z3 := Blk.cell hS6 3; have z4 := Blk.cell hS6 4; have z5 := Blk.cell hS6 5; simp only [List.getElem?_toArray, List.getElem?_cons_zero, List.getElem?_cons_succ] at z3 z4 z5; (try go_simp); (try with_reducible rfl))
          simp only [List.getElem_toArray, List.getElem_cons_zero, List.getElem_cons_succ, Act.put, List.setIfInBounds_toArray, List.set_cons_zero, List.set_cons_succ]
          refine wpAnyH_take (i := 11) (v := ?_) rfl (by kernel_rfl) (by kernel_rfl) (by kernel_rfl) (fun _ _ _ h => h) (Or.inl ⟨by rfl, ?_⟩) HS5 ?_
          rotate_left
          · (intro w6 hS6; have z3 := Blk.cell hS6 3; have z4 := Blk.cell hS6 4; have z5 := Blk.cell hS6 5; simp only [List.getElem?_toArray, List.getElem?_cons_zero, List.getElem?_cons_succ] at z3 z4 z5; (try go_simp); (try with_reducible rfl))
          simp only [List.getElem_toArray, List.getElem_cons_zero, List.getElem_cons_succ, Act.put, List.setIfInBounds_toArray, List.set_cons_zero, List.set_cons_succ]
          refine wpAnyH_take (i := 12) (v := ?_) rfl (by kernel_rfl) (by kernel_rfl) (by kernel_rfl) (fun _ _ _ h => h) (Or.inl ⟨by rfl, ?_⟩) HS5 ?_
          rotate_left
          · (intro w6 hS6; have z3 := Blk.cell hS6 3; have z4 := Blk.cell hS6 4; have z5 := Blk.cell hS6 5; simp only [List.getElem?_toArray, List.getElem?_cons_zero, List.getElem?_cons_succ] at z3 z4 z5; (try go_simp); (try with_reducible rfl))
          simp only [List.getElem_toArray, List.getElem_cons_zero, List.getElem_cons_succ, Act.put, List.setIfInBounds_toArray, List.set_cons_zero, List.set_cons_succ]
          refine wpAnyH_take (i := 15) (v := ?_) rfl (by kernel_rfl) (by kernel_rfl) (by kernel_rfl) (fun _ _ _ h => h) (Or.inl ⟨by rfl, ?_⟩) HS5 ?_
          rotate_left
          · (intro w6 hS6; have z3 := Blk.cell hS6 3; have z4 := Blk.cell hS6 4; have z5 := Blk.cell hS6 5; simp only [List.getElem?_toArray, List.getElem?_cons_zero, List.getElem?_cons_succ] at z3 z4 z5; (try go_simp); (try with_reducible rfl))
          simp only [List.getElem_toArray, List.getElem_cons_zero, List.getElem_cons_succ, Act.put, List.setIfInBounds_toArray, List.set_cons_zero, List.set_cons_succ]
          refine wpAnyH_take (i := 16) (v := ?_) rfl (by kernel_rfl) (by kernel_rfl) (by kernel_rfl) (fun _ _ _ h => h) (Or.inl ⟨by rfl, ?_⟩) HS5 ?_
          rotate_left
          · (intro w6 hS6; have z3 := Blk.cell hS6 3; have z4 := Blk.cell hS6 4; have z5 := Blk.cell hS6 5; simp only [List.getElem?_toArray, List.getElem?_cons_zero, List.getElem?_cons_succ] at z3 z4 z5; (try go_simp); (try with_reducible rfl))
          simp only [List.getElem_toArray, List.getElem_cons_zero, List.getElem_cons_succ, Act.put, List.setIfInBounds_toArray, List.set_cons_zero, List.set_cons_succ]
          refine wpAnyH_take (i := 17) (v := ?_) rfl (by kernel_rfl) (by kernel_rfl) (by kernel_rfl) (fun _ _ _ h => h) (Or.inl ⟨by rfl, ?_⟩) HS5 ?_
          rotate_left
          · (intro w6 hS6; have z3 := Blk.cell hS6 3; have z4 := Blk.cell hS6 4; have z5 := Blk.cell hS6 5; simp only [List.getElem?_toArray, List.getElem?_cons_zero, List.getElem?_cons_succ] at z3 z4 z5; (try go_simp); (try with_reducible rfl))
          simp only [List.getElem_toArray, List.getElem_cons_zero, List.getElem_cons_succ, Act.put, List.setIfInBounds_toArray, List.set_cons_zero, List.set_cons_succ]
          clear HS5
          refine wpAnyH_ready (rs := [4, 8]) (by kernel_rfl) (by simp) (AllReadyH.cons rfl (fun K hK => ?_) (AllReadyH.cons rfl (fun K hK => ?_) AllReadyH.nil))
          · simp only [List.getElem_toArray, List.getElem_cons_zero, List.getElem_cons_succ]
            have c0 := Fd35.out.bx.cell 3
            simp only [scells, List.getElem?_toArray, List.getElem?_cons_zero, List.getElem?_cons_succ] at c0
            go_simp
            clear c0
            refine hK.out _ _ (Fd35.out.gx) (fun hS => ?_)
            clear hK
            simp only [List.setIfInBounds_toArray, List.set_cons_zero, List.set_cons_succ]
            clear hS
            refine wpAnyH_ready (rs := [8]) (by kernel_rfl) (by simp) (AllReadyH.cons rfl (fun K hK => ?_) AllReadyH.nil)
            refine step_callx (by rfl) (by go_simp) (rnum3_any xpd _) ?_
            intro vn37 wn37 hR
            have Fn37 := hid (Fd35.out.kp0 hR.2)
            have On37 := hid (hR.1.byt (P := Anyb) fun _ _ => trivial)
            clear hR Fd35
            refine hK.out _ _ (Fn37.out.gx) (fun hS => ?_)
            clear hK
            simp only [List.setIfInBounds_toArray, List.set_cons_zero, List.set_cons_succ, Act.put]
            clear hS
            refine wpAnyH_ready (rs := [9]) (by kernel_rfl) (by simp) (AllReadyH.cons rfl (fun K hK => ?_) AllReadyH.nil)
            refine step_app2 isU8 (by rfl) (.tmp 59) (.tmp 63) (by rfl) (base := q + 1) (xs := bod2 (gs.take k)) (ys := dg xpd 3) (V1 1) vn37 (by rfl) (by rfl) Fn37.out.uo On37.out (by have h1 := HL2.out; simp only [dg_len]; omega) (by have := Fn37.out.bx.lt; omega) ?_
            intro un38 wn38 o8 k8 p8
            have Fn38 := hid (Fn37.out.app o8 k8 p8)
            clear o8 k8 p8 Fn37 On37
            refine hK.out _ _ (Fn38.out.gx) (fun hS => ?_)
            clear hK
            simp only [List.setIfInBounds_toArray, List.set_cons_zero, List.set_cons_succ, Act.put]
            clear hS
            refine wpAnyH_ready (rs := [13]) (by kernel_rfl) (by simp) (AllReadyH.cons rfl (fun K hK => ?_) AllReadyH.nil)
            refine step_callx (by rfl) (by go_simp) (rnum3_any xqt _) ?_
            intro vn39 wn39 hR
            have Fn39 := hid (Fn38.out.kp0 hR.2)
            have On39 := hid (hR.1.byt (P := Anyb) fun _ _ => trivial)
            clear hR Fn38
            refine hK.out _ _ (Fn39.out.gx) (fun hS => ?_)
            clear hK
            simp only [List.setIfInBounds_toArray, List.set_cons_zero, List.set_cons_succ, Act.put]
            clear hS
            refine wpAnyH_ready (rs := [14]) (by kernel_rfl) (by simp) (AllReadyH.cons rfl (fun K hK => ?_) AllReadyH.nil)
            refine step_app2 isU8 (by rfl) (.tmp 64) (.tmp 68) (by rfl) (base := q + 1) (xs := (bod2 (gs.take k) ++ dg xpd 3)) (ys := dg xqt 3) (un38) vn39 (by rfl) (by rfl) Fn39.out.uo On39.out (by have h1 := HL2.out; simp only [List.length_append, dg_len]; omega) (by have := Fn39.out.bx.lt; omega) ?_
            intro un40 wn40 o8 k8 p8
            have Fn40 := hid (Fn39.out.app o8 k8 p8)
            clear o8 k8 p8 Fn39 On39
            refine hK.out _ _ (Fn40.out.gx) (fun hS => ?_)
            clear hK
            simp only [List.setIfInBounds_toArray, List.set_cons_zero, List.set_cons_succ, Act.put]
            clear hS
            refine wpAnyH_ready (rs := [18]) (by kernel_rfl) (by simp) (AllReadyH.cons rfl (fun K hK => ?_) AllReadyH.nil)
            refine step_callx (by rfl) (by go_simp) (rnum6_any xus _) ?_
            intro vn41 wn41 hR
            have Fn41 := hid (Fn40.out.kp0 hR.2)
            have On41 := hid (hR.1.byt (P := Anyb) fun _ _ => trivial)
            clear hR Fn40
            refine hK.out _ _ (Fn41.out.gx) (fun hS => ?_)
            clear hK
            simp only [List.setIfInBounds_toArray, List.set_cons_zero, List.set_cons_succ, Act.put]
            clear hS
            refine wpAnyH_ready (rs := [19]) (by kernel_rfl) (by simp) (AllReadyH.cons rfl (fun K hK => ?_) AllReadyH.nil)
            refine step_app2 isU8 (by rfl) (.tmp 69) (.tmp 73) (by rfl) (base := q + 1) (xs := ((bod2 (gs.take k) ++ dg xpd 3) ++ dg xqt 3)) (ys := dg xus 6) (un40) vn41 (by rfl) (by rfl) Fn41.out.uo On41.out (by have h1 := HL2.out; simp only [List.length_append, dg_len]; omega) (by have := Fn41.out.bx.lt; omega) ?_
            intro un42 wn42 o8 k8 p8
            have Fn42 := hid (Fn41.out.app o8 k8 p8)
            obtain ⟨mn42, hmn⟩ : ∃ m, (((bod2 (gs.take k) ++ dg xpd 3) ++ dg xqt 3) ++ dg xus 6).length = m := ⟨_, rfl⟩
            obtain ⟨An42, cn42, rfl⟩ := o8.formN hmn
            clear hmn
            clear o8 k8 p8 Fn41 On41
            refine hK.out _ _ (Fn42.out.gx) (fun hS => ?_)
            clear hK
            simp only [List.setIfInBounds_toArray, List.set_cons_zero, List.set_cons_succ, Act.put]
            refine wpAnyH_take (i := 20) (v := ?_) rfl (by kernel_rfl) (by kernel_rfl) (by kernel_rfl) (fun _ _ _ h => h) (Or.inl ⟨by rfl, ?_⟩) hS ?_
            rotate_left
            · (intro w6 hS6; have z3 := Blk.cell hS6 3; have z4 := Blk.cell hS6 4; have z5 := Blk.cell hS6 5; simp only [List.getElem?_toArray, List.getElem?_cons_zero, List.getElem?_cons_succ] at z3 z4 z5; (try go_simp); (try with_reducible rfl))
            simp only [List.getElem_toArray, List.getElem_cons_zero, List.getElem_cons_succ, Act.put, List.setIfInBounds_toArray, List.set_cons_zero, List.set_cons_succ]
            refine wpAnyH_take (i := 21) (v := ?_) rfl (by kernel_rfl) (by kernel_rfl) (by kernel_rfl) (fun _ _ _ h => h) (Or.inl ⟨by rfl, ?_⟩) hS ?_
            rotate_left
            · (intro w6 hS6; have z3 := Blk.cell hS6 3; have z4 := Blk.cell hS6 4; have z5 := Blk.cell hS6 5; simp only [List.getElem?_toArray, List.getElem?_cons_zero, List.getElem?_cons_succ] at z3 z4 z5; (try go_simp); (try with_reducible rfl))
            simp only [List.getElem_toArray, List.getElem_cons_zero, List.getElem_cons_succ, Act.put, List.setIfInBounds_toArray, List.set_cons_zero, List.set_cons_succ]
            clear hS
            refine wpAnyH_ready (rs := [22]) (by kernel_rfl) (by simp) (AllReadyH.cons rfl (fun K hK => ?_) AllReadyH.nil)
            simp only [List.getElem_toArray, List.getElem_cons_zero, List.getElem_cons_succ]
            have c0 := Fn42.out.bx.cell 3
            have f0 : wn42.frozen? ⟨q, 3, none⟩ = false := Fn42.out.bx.frozen 3
            simp only [scells, List.getElem?_toArray, List.getElem?_cons_zero, List.getElem?_cons_succ] at c0
            have Fz43 := hid Fn42.out.put
            go_simp
            generalize wn42.setCell ⟨q, 3, none⟩ (.slice An42 mn42 cn42) = wz43 at Fz43 ⊢
            clear c0 f0 Fn42
            refine hK.out _ _ (Fz43.out.gx) (fun hS => ?_)
            clear hK
            simp only [List.setIfInBounds_toArray, List.set_cons_zero, List.set_cons_succ]
            clear hS
            refine wpAnyH_done (by kernel_rfl) ?_ _
            have SX9 := hid (Fz43.out.sx)
            rw [X4_1] at SX9
            go_wp2_with fail
            go_roundw
            case rel => exact ⟨k + 1, _, by omega, by go_num, hid (by rw [H1.out, H2.out]; simpa [grow, brow] using SX9.out)⟩
            case measure => simp [vI]; omega
          · refine step_callx (by rfl) (by go_simp) (rnum3_any xpd _) ?_
            intro vn44 wn44 hR
            have Fn44 := hid (Fd35.out.kp0 hR.2)
            have On44 := hid (hR.1.byt (P := Anyb) fun _ _ => trivial)
            clear hR Fd35
            refine hK.out _ _ (Fn44.out.gx) (fun hS => ?_)
            clear hK
            simp only [List.setIfInBounds_toArray, List.set_cons_zero, List.set_cons_succ, Act.put]
            clear hS
            refine wpAnyH_ready (rs := [4]) (by kernel_rfl) (by simp) (AllReadyH.cons rfl (fun K hK => ?_) AllReadyH.nil)
            simp only [List.getElem_toArray, List.getElem_cons_zero, List.getElem_cons_succ]
            have c0 := Fn44.out.bx.cell 3
            simp only [scells, List.getElem?_toArray, List.getElem?_cons_zero, List.getElem?_cons_succ] at c0
            go_simp
            clear c0
            refine hK.out _ _ (Fn44.out.gx) (fun hS => ?_)
            clear hK
            simp only [List.setIfInBounds_toArray, List.set_cons_zero, List.set_cons_succ]
            clear hS
            refine wpAnyH_ready (rs := [9]) (by kernel_rfl) (by simp) (AllReadyH.cons rfl (fun K hK => ?_) AllReadyH.nil)
            refine step_app2 isU8 (by rfl) (.tmp 59) (.tmp 63) (by rfl) (base := q + 1) (xs := bod2 (gs.take k)) (ys := dg xpd 3) (V1 1) vn44 (by rfl) (by rfl) Fn44.out.uo On44.out (by have h1 := HL2.out; simp only [dg_len]; omega) (by have := Fn44.out.bx.lt; omega) ?_
            intro un46 wn46 o8 k8 p8
            have Fn46 := hid (Fn44.out.app o8 k8 p8)
            clear o8 k8 p8 Fn44 On44
            refine hK.out _ _ (Fn46.out.gx) (fun hS => ?_)
            clear hK
            simp only [List.setIfInBounds_toArray, List.set_cons_zero, List.set_cons_succ, Act.put]
            clear hS
            refine wpAnyH_ready (rs := [13]) (by kernel_rfl) (by simp) (AllReadyH.cons rfl (fun K hK => ?_) AllReadyH.nil)
            refine step_callx (by rfl) (by go_simp) (rnum3_any xqt _) ?_
            intro vn47 wn47 hR
            have Fn47 := hid (Fn46.out.kp0 hR.2)
            have On47 := hid (hR.1.byt (P := Anyb) fun _ _ => trivial)
            clear hR Fn46
            refine hK.out _ _ (Fn47.out.gx) (fun hS => ?_)
            clear hK
            simp only [List.setIfInBounds_toArray, List.set_cons_zero, List.set_cons_succ, Act.put]
            clear hS
            refine wpAnyH_ready (rs := [14]) (by kernel_rfl) (by simp) (AllReadyH.cons rfl (fun K hK => ?_) AllReadyH.nil)
            refine step_app2 isU8 (by rfl) (.tmp 64) (.tmp 68) (by rfl) (base := q + 1) (xs := (bod2 (gs.take k) ++ dg xpd 3)) (ys := dg xqt 3) (un46) vn47 (by rfl) (by rfl) Fn47.out.uo On47.out (by have h1 := HL2.out; simp only [List.length_append, dg_len]; omega) (by have := Fn47.out.bx.lt; omega) ?_
            intro un48 wn48 o8 k8 p8
            have Fn48 := hid (Fn47.out.app o8 k8 p8)
            clear o8 k8 p8 Fn47 On47
            refine hK.out _ _ (Fn48.out.gx) (fun hS => ?_)
            clear hK
            simp only [List.setIfInBounds_toArray, List.set_cons_zero, List.set_cons_succ, Act.put]
            clear hS
            refine wpAnyH_ready (rs := [18]) (by kernel_rfl) (by simp) (AllReadyH.cons rfl (fun K hK => ?_) AllReadyH.nil)
            refine step_callx (by rfl) (by go_simp) (rnum6_any xus _) ?_
            intro vn49 wn49 hR
            have Fn49 := hid (Fn48.out.kp0 hR.2)
            have On49 := hid (hR.1.byt (P := Anyb) fun _ _ => trivial)
            clear hR Fn48
            refine hK.out _ _ (Fn49.out.gx) (fun hS => ?_)
            clear hK
            simp only [List.setIfInBounds_toArray, List.set_cons_zero, List.set_cons_succ, Act.put]
            clear hS
            refine wpAnyH_ready (rs := [19]) (by kernel_rfl) (by simp) (AllReadyH.cons rfl (fun K hK => ?_) AllReadyH.nil)
            refine step_app2 isU8 (by rfl) (.tmp 69) (.tmp 73) (by rfl) (base := q + 1) (xs := ((bod2 (gs.take k) ++ dg xpd 3) ++ dg xqt 3)) (ys := dg xus 6) (un48) vn49 (by rfl) (by rfl) Fn49.out.uo On49.out (by have h1 := HL2.out; simp only [List.length_append, dg_len]; omega) (by have := Fn49.out.bx.lt; omega) ?_
            intro un50 wn50 o8 k8 p8
            have Fn50 := hid (Fn49.out.app o8 k8 p8)
            obtain ⟨mn50, hmn⟩ : ∃ m, (((bod2 (gs.take k) ++ dg xpd 3) ++ dg xqt 3) ++ dg xus 6).length = m := ⟨_, rfl⟩
            obtain ⟨An50, cn50, rfl⟩ := o8.formN hmn
            clear hmn
            clear o8 k8 p8 Fn49 On49
            refine hK.out _ _ (Fn50.out.gx) (fun hS => ?_)
            clear hK
            simp only [List.setIfInBounds_toArray, List.set_cons_zero, List.set_cons_succ, Act.put]
            refine wpAnyH_take (i := 20) (v := ?_) rfl (by kernel_rfl) (by kernel_rfl) (by kernel_rfl) (fun _ _ _ h => h) (Or.inl ⟨by rfl, ?_⟩) hS ?_
            rotate_left
            · (intro w6 hS6; have z3 := Blk.cell hS6 3; have z4 := Blk.cell hS6 4; have z5 := Blk.cell hS6 5; simp only [List.getElem?_toArray, List.getElem?_cons_zero, List.getElem?_cons_succ] at z3 z4 z5; (try go_simp); (try with_reducible rfl))
            simp only [List.getElem_toArray, List.getElem_cons_zero, List.getElem_cons_succ, Act.put, List.setIfInBounds_toArray, List.set_cons_zero, List.set_cons_succ]
            refine wpAnyH_take (i := 21) (v := ?_) rfl (by kernel_rfl) (by kernel_rfl) (by kernel_rfl) (fun _ _ _ h => h) (Or.inl ⟨by rfl, ?_⟩) hS ?_
            rotate_left
            · (intro w6 hS6; have z3 := Blk.cell hS6 3; have z4 := Blk.cell hS6 4; have z5 := Blk.cell hS6 5; simp only [List.getElem?_toArray, List.getElem?_cons_zero, List.getElem?_cons_succ] at z3 z4 z5; (try go_simp); (try with_reducible rfl))
            simp only [List.getElem_toArray, List.getElem_cons_zero, List.getElem_cons_succ, Act.put, List.setIfInBounds_toArray, List.set_cons_zero, List.set_cons_succ]
            clear hS
            refine wpAnyH_ready (rs := [22]) (by kernel_rfl) (by simp) (AllReadyH.cons rfl (fun K hK => ?_) AllReadyH.nil)
            simp only [List.getElem_toArray, List.getElem_cons_zero, List.getElem_cons_succ]
            have c0 := Fn50.out.bx.cell 3
            have f0 : wn50.frozen? ⟨q, 3, none⟩ = false := Fn50.out.bx.frozen 3
            simp only [scells, List.getElem?_toArray, List.getElem?_cons_zero, List.getElem?_cons_succ] at c0
            have Fz51 := hid Fn50.out.put
            go_simp
            generalize wn50.setCell ⟨q, 3, none⟩ (.slice An50 mn50 cn50) = wz51 at Fz51 ⊢
            clear c0 f0 Fn50
            refine hK.out _ _ (Fz51.out.gx) (fun hS => ?_)
            clear hK
            simp only [List.setIfInBounds_toArray, List.set_cons_zero, List.set_cons_succ]
            clear hS
            refine wpAnyH_done (by kernel_rfl) ?_ _
            have SX9 := hid (Fz51.out.sx)
            rw [X4_1] at SX9
            go_wp2_with fail
            go_roundw
            case rel => exact ⟨k + 1, _, by omega, by go_num, hid (by rw [H1.out, H2.out]; simpa [grow, brow] using SX9.out)⟩
            case measure => simp [vI]; omega
      · have hkk : k = n := by omega
        subst hkk
        have hng : ¬ (k : Int) < (k : Int) := by omega
        have sx := SX.out
        rw [List.take_of_length_le (by rw [HN.out]; exact Nat.le_refl _)] at sx
        have SX1 := hid sx
        clear sx SX SX0
        generalize wr = wb at SX1 s0 s1 ⊢
        go_wp2_with fail
        go_loopw [8] (fun i wr => ∃ (j : Nat) (V : Nat → Value), j ≤ m ∧ i = .int .i64 (j : Int) ∧ Hid (Sx w2 wr q V (X4 (bod1 gs) (bod2 gs) (bod3 (ts.take j)) (bod4 (ts.take j))))) (fun i _ => m - (vI i).toNat)
        case atStart => exact ⟨0, _, Nat.zero_le _, rfl, SX1⟩
        case round =>
          obtain ⟨j, V2, hj, rfl, SX⟩ := hrel
          clear s0 s1 SX1
          have b3 := B2.out.kp0 SX.out.kp
          have s0 := b3.cell 0
          have s1 := b3.cell 1
          simp only [List.getElem?_toArray, List.getElem?_cons_zero, List.getElem?_cons_succ] at s0 s1
          clear b3
          by_cases hjm : j < m
          · have hkl : j < ts.length := by rw [HM.out]; assumption
            have gj : (j : Int) < (m : Int) := by omega
            have hwj := wrapI (x := (j : Int) + 1) (by unfold I64; omega)
            have Rk := T2.out.kp0 SX.out.kp
            obtain ⟨b, o, rfl⟩ := Rk.there (by omega)
            have q0 := Rk.cell (j := j) (i := 0) (Kp.refl No _) hkl (by omega) rfl
            have q1 := Rk.cell (j := j) (i := 1) (Kp.refl No _) hkl (by omega) rfl
            have q2 := Rk.cell (j := j) (i := 2) (Kp.refl No _) hkl (by omega) rfl
            have q3 := Rk.cell (j := j) (i := 3) (Kp.refl No _) hkl (by omega) rfl
            have q4 := Rk.cell (j := j) (i := 4) (Kp.refl No _) hkl (by omega) rfl
            have q5 := Rk.cell (j := j) (i := 5) (Kp.refl No _) hkl (by omega) rfl
            have q6 := Rk.cell (j := j) (i := 6) (Kp.refl No _) hkl (by omega) rfl
            have q7 := Rk.cell (j := j) (i := 7) (Kp.refl No _) hkl (by omega) rfl
            have H1 := hid (bod3_snoc hkl)
            have H2 := hid (bod4_snoc hkl)
            have hlen : (ts.take j).length = j := by rw [List.length_take]; omega
            have HL1 := hid (show (bod3 (ts.take j)).length ≤ 1000000000 by rw [bod3_len, hlen]; omega)
            have HL2 := hid (show (bod4 (ts.take j)).length ≤ 1000000000 by rw [bod4_len, hlen]; omega)
            have hmem : ts.getD j ts0 ∈ ts := by simp [List.getD, hkl]
            have HMEM := hid (HCO.out _ hmem)
            clear hmem
            obtain ⟨x, hx⟩ : ∃ x, ts.getD j ts0 = x := ⟨_, rfl⟩
            rw [hx] at q0 q1 q2 q3 q4 q5 q6 q7 H1 H2 HMEM
            obtain ⟨xid, xgr, xwt, xco, xsl, xra, xlv, xlr⟩ := x
            simp only [tc, te, List.getD_cons_zero, List.getD_cons_succ, Nat.add_zero] at q0 q1 q2 q3 q4 q5 q6 q7
            simp only [← Nat.add_assoc] at q1 q2 q3 q4 q5 q6 q7
            have SA := hid (SX.out.sz 53 #[.int .i64 xid, .int .i64 xgr, .int .i64 xwt, .int .u64 xco, .bool xsl, .int .i64 xra, .int .i64 xlv, .int .i64 xlr])
            clear Rk hx hlen
            cases xsl
            · go_upto_region 15 with fail
              obtain ⟨g, hgg⟩ : ∃ g, wr.heap.size = g := ⟨_, rfl⟩
              rw [hgg] at SA ⊢
              generalize wr.alloc (.cells #[.int .i64 xid, .int .i64 xgr, .int .i64 xwt, .int .u64 xco, .bool false, .int .i64 xra, .int .i64 xlv, .int .i64 xlr] 53) = wg at SA ⊢
              clear hgg SX s0 s1 q0 q1 q2 q3 q4 q5 q6 q7
              have z4 : wg.cell? ⟨g, 4, none⟩ = some (.bool false) := SA.out.gx.cell 4
              go_upto_region 18 with fail
              clear z4
              have SB := hid (SA.out.sy 2 (by omega))
              clear SA
              refine wp_region_any (by kernel_rfl) ?_
              show wpAny _ _ _ _ _ _ _ (World.drew wg)
              have Fd52 := hid (SB.out.kp0 (Kp.refl No wg).drew)
              generalize World.drew wg = Wd52 at Fd52 ⊢
              have HS5 := Fd52.out.both
              clear SB
              refine wpAny_of_held (S := (fun w' => Blk w' g 53 #[.int .i64 xid, .int .i64 xgr, .int .i64 xwt, .int .u64 xco, .bool false, .int .i64 xra, .int .i64 xlv, .int .i64 xlr] ∧ Blk w' q 36 (scells V2))) _ _ _ _ ?_
              simp only [List.size_toArray, List.length_cons, List.length_nil, Nat.reduceAdd, Array.replicate_succ, Array.replicate_zero, List.push_toArray, List.nil_append, List.cons_append]
              refine wpAnyH_take (i := 0) (v := ?_) rfl (by kernel_rfl) (by kernel_rfl) (by kernel_rfl) (fun _ _ _ h => h) (Or.inl ⟨by rfl, ?_⟩) HS5 ?_
              rotate_left
              · (intro w6 hS6; have z0 := hS6.1.cell 0; have z1 := hS6.1.cell 1; have z2 := hS6.1.cell 2; have zq := hS6.2.cell 5; simp only [scells, List.getElem?_toArray, List.getElem?_cons_zero, List.getElem?_cons_succ] at zq z0 z1 z2; (try go_simp); (try with_reducible rfl))
              simp only [List.getElem_toArray, List.getElem_cons_zero, Act.put, List.setIfInBounds_toArray, List.set_cons_zero, List.set_cons_succ]
              refine wpAnyH_take (i := 1) (v := ?_) rfl (by kernel_rfl) (by kernel_rfl) (by kernel_rfl) (fun _ _ _ h => h) (Or.inl ⟨by rfl, ?_⟩) HS5 ?_
              rotate_left
              · (intro w6 hS6; have z0 := hS6.1.cell 0; have z1 := hS6.1.cell 1; have z2 := hS6.1.cell 2; have zq := hS6.2.cell 5; simp only [scells, List.getElem?_toArray, List.getElem?_cons_zero, List.getElem?_cons_succ] at zq z0 z1 z2; (try go_simp); (try with_reducible rfl))
              simp only [List.getElem_toArray, List.getElem_cons_zero, List.getElem_cons_succ, Act.put, List.setIfInBounds_toArray, List.set_cons_zero, List.set_cons_succ]
              refine wpAnyH_take (i := 2) (v := ?_) rfl (by kernel_rfl) (by kernel_rfl) (by kernel_rfl) (fun _ _ _ h => h) (Or.inl ⟨by rfl, ?_⟩) HS5 ?_
              rotate_left
              · (intro w6 hS6; have z0 := hS6.1.cell 0; have z1 := hS6.1.cell 1; have z2 := hS6.1.cell 2; have zq := hS6.2.cell 5; simp only [scells, List.getElem?_toArray, List.getElem?_cons_zero, List.getElem?_cons_succ] at zq z0 z1 z2; (try go_simp); (try with_reducible rfl))
              simp only [List.getElem_toArray, List.getElem_cons_zero, List.getElem_cons_succ, Act.put, List.setIfInBounds_toArray, List.set_cons_zero, List.set_cons_succ]
              refine wpAnyH_take (i := 3) (v := ?_) rfl (by kernel_rfl) (by kernel_rfl) (by kernel_rfl) (fun _ _ _ h => h) (Or.inl ⟨by rfl, ?_⟩) HS5 ?_
              rotate_left
              · (intro w6 hS6; have z0 := hS6.1.cell 0; have z1 := hS6.1.cell 1; have z2 := hS6.1.cell 2; have zq := hS6.2.cell 5; simp only [scells, List.getElem?_toArray, List.getElem?_cons_zero, List.getElem?_cons_succ] at zq z0 z1 z2; (try go_simp); (try with_reducible rfl))
              simp only [List.getElem_toArray, List.getElem_cons_zero, List.getElem_cons_succ, Act.put, List.setIfInBounds_toArray, List.set_cons_zero, List.set_cons_succ]
              refine wpAnyH_take (i := 4) (v := ?_) rfl (by kernel_rfl) (by kernel_rfl) (by kernel_rfl) (fun _ _ _ h => h) (Or.inl ⟨by rfl, ?_⟩) HS5 ?_
              rotate_left
              · (intro w6 hS6; have z0 := hS6.1.cell 0; have z1 := hS6.1.cell 1; have z2 := hS6.1.cell 2; have zq := hS6.2.cell 5; simp only [scells, List.getElem?_toArray, List.getElem?_cons_zero, List.getElem?_cons_succ] at zq z0 z1 z2; (try go_simp); (try with_reducible rfl))
              simp only [List.getElem_toArray, List.getElem_cons_zero, List.getElem_cons_succ, Act.put, List.setIfInBounds_toArray, List.set_cons_zero, List.set_cons_succ]
              refine wpAnyH_take (i := 5) (v := ?_) rfl (by kernel_rfl) (by kernel_rfl) (by kernel_rfl) (fun _ _ _ h => h) (Or.inl ⟨by rfl, ?_⟩) HS5 ?_
              rotate_left
              · (intro w6 hS6; have z0 := hS6.1.cell 0; have z1 := hS6.1.cell 1; have z2 := hS6.1.cell 2; have zq := hS6.2.cell 5; simp only [scells, List.getElem?_toArray, List.getElem?_cons_zero, List.getElem?_cons_succ] at zq z0 z1 z2; (try go_simp); (try with_reducible rfl))
              simp only [List.getElem_toArray, List.getElem_cons_zero, List.getElem_cons_succ, Act.put, List.setIfInBounds_toArray, List.set_cons_zero, List.set_cons_succ]
              refine wpAnyH_take (i := 8) (v := ?_) rfl (by kernel_rfl) (by kernel_rfl) (by kernel_rfl) (fun _ _ _ h => h) (Or.inl ⟨by rfl, ?_⟩) HS5 ?_
              rotate_left
              · (intro w6 hS6; have z0 := hS6.1.cell 0; have z1 := hS6.1.cell 1; have z2 := hS6.1.cell 2; have zq := hS6.2.cell 5; simp only [scells, List.getElem?_toArray, List.getElem?_cons_zero, List.getElem?_cons_succ] at zq z0 z1 z2; (try go_simp); (try with_reducible rfl))
              simp only [List.getElem_toArray, List.getElem_cons_zero, List.getElem_cons_succ, Act.put, List.setIfInBounds_toArray, List.set_cons_zero, List.set_cons_succ]
              refine wpAnyH_take (i := 9) (v := ?_) rfl (by kernel_rfl) (by kernel_rfl) (by kernel_rfl) (fun _ _ _ h => h) (Or.inl ⟨by rfl, ?_⟩) HS5 ?_
              rotate_left
              · (intro w6 hS6; have z0 := hS6.1.cell 0; have z1 := hS6.1.cell 1; have z2 := hS6.1.cell 2; have zq := hS6.2.cell 5; simp only [scells, List.getElem?_toArray, List.getElem?_cons_zero, List.getElem?_cons_succ] at zq z0 z1 z2; (try go_simp); (try with_reducible rfl))
              simp only [List.getElem_toArray, List.getElem_cons_zero, List.getElem_cons_succ, Act.put, List.setIfInBounds_toArray, List.set_cons_zero, List.set_cons_succ]
              refine wpAnyH_take (i := 12) (v := ?_) rfl (by kernel_rfl) (by kernel_rfl) (by kernel_rfl) (fun _ _ _ h => h) (Or.inl ⟨by rfl, ?_⟩) HS5 ?_
              rotate_left
              · (intro w6 hS6; have z0 := hS6.1.cell 0; have z1 := hS6.1.cell 1; have z2 := hS6.1.cell 2; have zq := hS6.2.cell 5; simp only [scells, List.getElem?_toArray, List.getElem?_cons_zero, List.getElem?_cons_succ] at zq z0 z1 z2; (try go_simp); (try with_reducible rfl))
              simp only [List.getElem_toArray, List.getElem_cons_zero, List.getElem_cons_succ, Act.put, List.setIfInBounds_toArray, List.set_cons_zero, List.set_cons_succ]
              refine wpAnyH_take (i := 13) (v := ?_) rfl (by kernel_rfl) (by kernel_rfl) (by kernel_rfl) (fun _ _ _ h => h) (Or.inl ⟨by rfl, ?_⟩) HS5 ?_
              rotate_left
              · (intro w6 hS6; have z0 := hS6.1.cell 0; have z1 := hS6.1.cell 1; have z2 := hS6.1.cell 2; have zq := hS6.2.cell 5; simp only [scells, List.getElem?_toArray, List.getElem?_cons_zero, List.getElem?_cons_succ] at zq z0 z1 z2; (try go_simp); (try with_reducible rfl))
              simp only [List.getElem_toArray, List.getElem_cons_zero, List.getElem_cons_succ, Act.put, List.setIfInBounds_toArray, List.set_cons_zero, List.set_cons_succ]
              clear HS5
              refine wpAnyH_ready (rs := [6]) (by kernel_rfl) (by simp) (AllReadyH.cons rfl (fun K hK => ?_) AllReadyH.nil)
              refine step_callx (by rfl) (by go_simp) (rnum3_any xid _) ?_
              intro vn53 wn53 hR
              have Fn53 := hid (Fd52.out.kp0 hR.2)
              have On53 := hid (hR.1.byt (P := Anyb) fun _ _ => trivial)
              clear hR Fd52
              refine hK.out _ _ (Fn53.out.both) (fun hS => ?_)
              clear hK
              simp only [List.setIfInBounds_toArray, List.set_cons_zero, List.set_cons_succ, Act.put]
              clear hS
              refine wpAnyH_ready (rs := [7]) (by kernel_rfl) (by simp) (AllReadyH.cons rfl (fun K hK => ?_) AllReadyH.nil)
              refine step_app2 isU8 (by rfl) (.tmp 94) (.tmp 97) (by rfl) (base := q + 1) (xs := bod3 (ts.take j)) (ys := dg xid 3) (V2 2) vn53 (by rfl) (by rfl) Fn53.out.uo On53.out (by have h1 := HL1.out; simp only [dg_len]; omega) (by have := Fn53.out.bx.lt; omega) ?_
              intro un54 wn54 o8 k8 p8
              have Fn54 := hid (Fn53.out.app o8 k8 p8)
              clear o8 k8 p8 Fn53 On53
              refine hK.out _ _ (Fn54.out.both) (fun hS => ?_)
              clear hK
              simp only [List.setIfInBounds_toArray, List.set_cons_zero, List.set_cons_succ, Act.put]
              clear hS
              refine wpAnyH_ready (rs := [10]) (by kernel_rfl) (by simp) (AllReadyH.cons rfl (fun K hK => ?_) AllReadyH.nil)
              refine step_callx (by rfl) (by go_simp) (rnum3_any xgr _) ?_
              intro vn55 wn55 hR
              have Fn55 := hid (Fn54.out.kp0 hR.2)
              have On55 := hid (hR.1.byt (P := Anyb) fun _ _ => trivial)
              clear hR Fn54
              refine hK.out _ _ (Fn55.out.both) (fun hS => ?_)
              clear hK
              simp only [List.setIfInBounds_toArray, List.set_cons_zero, List.set_cons_succ, Act.put]
              clear hS
              refine wpAnyH_ready (rs := [11]) (by kernel_rfl) (by simp) (AllReadyH.cons rfl (fun K hK => ?_) AllReadyH.nil)
              refine step_app2 isU8 (by rfl) (.tmp 98) (.tmp 101) (by rfl) (base := q + 1) (xs := (bod3 (ts.take j) ++ dg xid 3)) (ys := dg xgr 3) (un54) vn55 (by rfl) (by rfl) Fn55.out.uo On55.out (by have h1 := HL1.out; simp only [List.length_append, dg_len]; omega) (by have := Fn55.out.bx.lt; omega) ?_
              intro un56 wn56 o8 k8 p8
              have Fn56 := hid (Fn55.out.app o8 k8 p8)
              clear o8 k8 p8 Fn55 On55
              refine hK.out _ _ (Fn56.out.both) (fun hS => ?_)
              clear hK
              simp only [List.setIfInBounds_toArray, List.set_cons_zero, List.set_cons_succ, Act.put]
              clear hS
              refine wpAnyH_ready (rs := [14]) (by kernel_rfl) (by simp) (AllReadyH.cons rfl (fun K hK => ?_) AllReadyH.nil)
              refine step_callx (by rfl) (by go_simp) (rnum3_any xwt _) ?_
              intro vn57 wn57 hR
              have Fn57 := hid (Fn56.out.kp0 hR.2)
              have On57 := hid (hR.1.byt (P := Anyb) fun _ _ => trivial)
              clear hR Fn56
              refine hK.out _ _ (Fn57.out.both) (fun hS => ?_)
              clear hK
              simp only [List.setIfInBounds_toArray, List.set_cons_zero, List.set_cons_succ, Act.put]
              clear hS
              refine wpAnyH_ready (rs := [15]) (by kernel_rfl) (by simp) (AllReadyH.cons rfl (fun K hK => ?_) AllReadyH.nil)
              refine step_app2 isU8 (by rfl) (.tmp 102) (.tmp 105) (by rfl) (base := q + 1) (xs := ((bod3 (ts.take j) ++ dg xid 3) ++ dg xgr 3)) (ys := dg xwt 3) (un56) vn57 (by rfl) (by rfl) Fn57.out.uo On57.out (by have h1 := HL1.out; simp only [List.length_append, dg_len]; omega) (by have := Fn57.out.bx.lt; omega) ?_
              intro un58 wn58 o8 k8 p8
              have Fn58 := hid (Fn57.out.app o8 k8 p8)
              obtain ⟨mn58, hmn⟩ : ∃ m, (((bod3 (ts.take j) ++ dg xid 3) ++ dg xgr 3) ++ dg xwt 3).length = m := ⟨_, rfl⟩
              obtain ⟨An58, cn58, rfl⟩ := o8.formN hmn
              clear hmn
              clear o8 k8 p8 Fn57 On57
              refine hK.out _ _ (Fn58.out.both) (fun hS => ?_)
              clear hK
              simp only [List.setIfInBounds_toArray, List.set_cons_zero, List.set_cons_succ, Act.put]
              refine wpAnyH_take (i := 16) (v := ?_) rfl (by kernel_rfl) (by kernel_rfl) (by kernel_rfl) (fun _ _ _ h => h) (Or.inl ⟨by rfl, ?_⟩) hS ?_
              rotate_left
              · (intro w6 hS6; have z0 := hS6.1.cell 0; have z1 := hS6.1.cell 1; have z2 := hS6.1.cell 2; have zq := hS6.2.cell 5; simp only [scells, List.getElem?_toArray, List.getElem?_cons_zero, List.getElem?_cons_succ] at zq z0 z1 z2; (try go_simp); (try with_reducible rfl))
              simp only [List.getElem_toArray, List.getElem_cons_zero, List.getElem_cons_succ, Act.put, List.setIfInBounds_toArray, List.set_cons_zero, List.set_cons_succ]
              clear hS
              refine wpAnyH_done (by kernel_rfl) ?_ _
              go_upto_region 19 with fail
              refine wp_region_any (by kernel_rfl) ?_
              show wpAny _ _ _ _ _ _ _ (World.drew wn58)
              have Fd59 := hid (Fn58.out.kp0 (Kp.refl No wn58).drew)
              generalize World.drew wn58 = Wd59 at Fd59 ⊢
              have HS5 := Fd59.out.gx
              clear Fn58
              refine wpAny_of_held (S := (fun w' => Blk w' g 53 #[.int .i64 xid, .int .i64 xgr, .int .i64 xwt, .int .u64 xco, .bool false, .int .i64 xra, .int .i64 xlv, .int .i64 xlr])) _ _ _ _ ?_
              simp only [List.size_toArray, List.length_cons, List.length_nil, Nat.reduceAdd, Array.replicate_succ, Array.replicate_zero, List.push_toArray, List.nil_append, List.cons_append]
              refine wpAnyH_take (i := 0) (v := ?_) rfl (by kernel_rfl) (by kernel_rfl) (by kernel_rfl) (fun _ _ _ h => h) (Or.inl ⟨by rfl, ?_⟩) HS5 ?_
              rotate_left
              · (intro w6 hS6; have z5 := Blk.cell hS6 5; have z6 := Blk.cell hS6 6; simp only [List.getElem?_toArray, List.getElem?_cons_zero, List.getElem?_cons_succ] at z5 z6; (try go_simp); (try with_reducible rfl))
              simp only [List.getElem_toArray, List.getElem_cons_zero, Act.put, List.setIfInBounds_toArray, List.set_cons_zero, List.set_cons_succ]
              refine wpAnyH_take (i := 1) (v := ?_) rfl (by kernel_rfl) (by kernel_rfl) (by kernel_rfl) (fun _ _ _ h => h) (Or.inl ⟨by rfl, ?_⟩) HS5 ?_
              rotate_left
              · (intro w6 hS6; have z5 := Blk.cell hS6 5; have z6 := Blk.cell hS6 6; simp only [List.getElem?_toArray, List.getElem?_cons_zero, List.getElem?_cons_succ] at z5 z6; (try go_simp); (try with_reducible rfl))
              simp only [List.getElem_toArray, List.getElem_cons_zero, List.getElem_cons_succ, Act.put, List.setIfInBounds_toArray, List.set_cons_zero, List.set_cons_succ]
              refine wpAnyH_take (i := 4) (v := ?_) rfl (by kernel_rfl) (by kernel_rfl) (by kernel_rfl) (fun _ _ _ h => h) (Or.inl ⟨by rfl, ?_⟩) HS5 ?_
              rotate_left
              · (intro w6 hS6; have z5 := Blk.cell hS6 5; have z6 := Blk.cell hS6 6; simp only [List.getElem?_toArray, List.getElem?_cons_zero, List.getElem?_cons_succ] at z5 z6; (try go_simp); (try with_reducible rfl))
              simp only [List.getElem_toArray, List.getElem_cons_zero, List.getElem_cons_succ, Act.put, List.setIfInBounds_toArray, List.set_cons_zero, List.set_cons_succ]
              refine wpAnyH_take (i := 5) (v := ?_) rfl (by kernel_rfl) (by kernel_rfl) (by kernel_rfl) (fun _ _ _ h => h) (Or.inl ⟨by rfl, ?_⟩) HS5 ?_
              rotate_left
              · (intro w6 hS6; have z5 := Blk.cell hS6 5; have z6 := Blk.cell hS6 6; simp only [List.getElem?_toArray, List.getElem?_cons_zero, List.getElem?_cons_succ] at z5 z6; (try go_simp); (try with_reducible rfl))
              simp only [List.getElem_toArray, List.getElem_cons_zero, List.getElem_cons_succ, Act.put, List.setIfInBounds_toArray, List.set_cons_zero, List.set_cons_succ]
              refine wpAnyH_take (i := 8) (v := ?_) rfl (by kernel_rfl) (by kernel_rfl) (by kernel_rfl) (fun _ _ _ h => h) (Or.inl ⟨by rfl, ?_⟩) HS5 ?_
              rotate_left
              · (intro w6 hS6; have z5 := Blk.cell hS6 5; have z6 := Blk.cell hS6 6; simp only [List.getElem?_toArray, List.getElem?_cons_zero, List.getElem?_cons_succ] at z5 z6; (try go_simp); (try with_reducible rfl))
              simp only [List.getElem_toArray, List.getElem_cons_zero, List.getElem_cons_succ, Act.put, List.setIfInBounds_toArray, List.set_cons_zero, List.set_cons_succ]
              refine wpAnyH_take (i := 9) (v := ?_) rfl (by kernel_rfl) (by kernel_rfl) (by kernel_rfl) (fun _ _ _ h => h) (Or.inl ⟨by rfl, ?_⟩) HS5 ?_
              rotate_left
              · (intro w6 hS6; have z5 := Blk.cell hS6 5; have z6 := Blk.cell hS6 6; simp only [List.getElem?_toArray, List.getElem?_cons_zero, List.getElem?_cons_succ] at z5 z6; (try go_simp); (try with_reducible rfl))
              simp only [List.getElem_toArray, List.getElem_cons_zero, List.getElem_cons_succ, Act.put, List.setIfInBounds_toArray, List.set_cons_zero, List.set_cons_succ]
              refine wpAnyH_take (i := 10) (v := ?_) rfl (by kernel_rfl) (by kernel_rfl) (by kernel_rfl) (fun _ _ _ h => h) (Or.inl ⟨by rfl, ?_⟩) HS5 ?_
              rotate_left
              · (intro w6 hS6; have z5 := Blk.cell hS6 5; have z6 := Blk.cell hS6 6; simp only [List.getElem?_toArray, List.getElem?_cons_zero, List.getElem?_cons_succ] at z5 z6; (try go_simp); (try with_reducible rfl))
              simp only [List.getElem_toArray, List.getElem_cons_zero, List.getElem_cons_succ, Act.put, List.setIfInBounds_toArray, List.set_cons_zero, List.set_cons_succ]
              clear HS5
              refine wpAnyH_ready (rs := [2]) (by kernel_rfl) (by simp) (AllReadyH.cons rfl (fun K hK => ?_) AllReadyH.nil)
              simp only [List.getElem_toArray, List.getElem_cons_zero, List.getElem_cons_succ]
              go_simp
              have On60 := hid (Byt.one Wd59 5 (P := Anyb) 0 (by omega) trivial)
              have Fn60 := hid (Fd59.out.kp0 ((Kp.refl No Wd59).alloc (.cells #[.int .u8 0] 5)))
              obtain ⟨bn60, hbn⟩ : ∃ b, Wd59.heap.size = b := ⟨_, rfl⟩
              rw [hbn] at On60 ⊢
              generalize Wd59.alloc (.cells #[.int .u8 0] 5) = wn60 at Fn60 On60 ⊢
              clear hbn Fd59
              refine hK.out _ _ (Fn60.out.gx) (fun hS => ?_)
              clear hK
              simp only [List.setIfInBounds_toArray, List.set_cons_zero, List.set_cons_succ]
              clear hS
              refine wpAnyH_ready (rs := [3]) (by kernel_rfl) (by simp) (AllReadyH.cons rfl (fun K hK => ?_) AllReadyH.nil)
              refine step_app2 isU8 (by rfl) (.tmp 107) (.tmp 109) (by rfl) (base := q + 1) (xs := (((bod3 (ts.take j) ++ dg xid 3) ++ dg xgr 3) ++ dg xwt 3)) (ys := [0]) (.slice An58 mn58 cn58) (.slice (some ⟨bn60, 0, none⟩) 1 1) (by rfl) (by rfl) Fn60.out.uo On60.out (by have h1 := HL1.out; simp only [List.length_append, List.length_cons, List.length_nil, dg_len]; omega) (by have := Fn60.out.bx.lt; omega) ?_
              intro un61 wn61 o8 k8 p8
              have Fn61 := hid (Fn60.out.app o8 k8 p8)
              clear o8 k8 p8 Fn60 On60
              refine hK.out _ _ (Fn61.out.gx) (fun hS => ?_)
              clear hK
              simp only [List.setIfInBounds_toArray, List.set_cons_zero, List.set_cons_succ, Act.put]
              clear hS
              refine wpAnyH_ready (rs := [6]) (by kernel_rfl) (by simp) (AllReadyH.cons rfl (fun K hK => ?_) AllReadyH.nil)
              refine step_callx (by rfl) (by go_simp) (rnum6_any xra _) ?_
              intro vn62 wn62 hR
              have Fn62 := hid (Fn61.out.kp0 hR.2)
              have On62 := hid (hR.1.byt (P := Anyb) fun _ _ => trivial)
              clear hR Fn61
              refine hK.out _ _ (Fn62.out.gx) (fun hS => ?_)
              clear hK
              simp only [List.setIfInBounds_toArray, List.set_cons_zero, List.set_cons_succ, Act.put]
              clear hS
              refine wpAnyH_ready (rs := [7]) (by kernel_rfl) (by simp) (AllReadyH.cons rfl (fun K hK => ?_) AllReadyH.nil)
              refine step_app2 isU8 (by rfl) (.tmp 110) (.tmp 113) (by rfl) (base := q + 1) (xs := ((((bod3 (ts.take j) ++ dg xid 3) ++ dg xgr 3) ++ dg xwt 3) ++ [0])) (ys := dg xra 6) (un61) vn62 (by rfl) (by rfl) Fn62.out.uo On62.out (by have h1 := HL1.out; simp only [List.length_append, List.length_cons, List.length_nil, dg_len]; omega) (by have := Fn62.out.bx.lt; omega) ?_
              intro un63 wn63 o8 k8 p8
              have Fn63 := hid (Fn62.out.app o8 k8 p8)
              clear o8 k8 p8 Fn62 On62
              refine hK.out _ _ (Fn63.out.gx) (fun hS => ?_)
              clear hK
              simp only [List.setIfInBounds_toArray, List.set_cons_zero, List.set_cons_succ, Act.put]
              clear hS
              refine wpAnyH_ready (rs := [11]) (by kernel_rfl) (by simp) (AllReadyH.cons rfl (fun K hK => ?_) AllReadyH.nil)
              refine step_callx (by rfl) (by go_simp) (rnum8_any xlv _) ?_
              intro vn64 wn64 hR
              have Fn64 := hid (Fn63.out.kp0 hR.2)
              have On64 := hid (hR.1.byt (P := Anyb) fun _ _ => trivial)
              clear hR Fn63
              refine hK.out _ _ (Fn64.out.gx) (fun hS => ?_)
              clear hK
              simp only [List.setIfInBounds_toArray, List.set_cons_zero, List.set_cons_succ, Act.put]
              clear hS
              refine wpAnyH_ready (rs := [12]) (by kernel_rfl) (by simp) (AllReadyH.cons rfl (fun K hK => ?_) AllReadyH.nil)
              refine step_app2 isU8 (by rfl) (.tmp 114) (.tmp 118) (by rfl) (base := q + 1) (xs := (((((bod3 (ts.take j) ++ dg xid 3) ++ dg xgr 3) ++ dg xwt 3) ++ [0]) ++ dg xra 6)) (ys := dg xlv 8) (un63) vn64 (by rfl) (by rfl) Fn64.out.uo On64.out (by have h1 := HL1.out; simp only [List.length_append, List.length_cons, List.length_nil, dg_len]; omega) (by have := Fn64.out.bx.lt; omega) ?_
              intro un65 wn65 o8 k8 p8
              have Fn65 := hid (Fn64.out.app o8 k8 p8)
              obtain ⟨mn65, hmn⟩ : ∃ m, ((((((bod3 (ts.take j) ++ dg xid 3) ++ dg xgr 3) ++ dg xwt 3) ++ [0]) ++ dg xra 6) ++ dg xlv 8).length = m := ⟨_, rfl⟩
              obtain ⟨An65, cn65, rfl⟩ := o8.formN hmn
              clear hmn
              clear o8 k8 p8 Fn64 On64
              refine hK.out _ _ (Fn65.out.gx) (fun hS => ?_)
              clear hK
              simp only [List.setIfInBounds_toArray, List.set_cons_zero, List.set_cons_succ, Act.put]
              refine wpAnyH_take (i := 13) (v := ?_) rfl (by kernel_rfl) (by kernel_rfl) (by kernel_rfl) (fun _ _ _ h => h) (Or.inl ⟨by rfl, ?_⟩) hS ?_
              rotate_left
              · (intro w6 hS6; have z5 := Blk.cell hS6 5; have z6 := Blk.cell hS6 6; simp only [List.getElem?_toArray, List.getElem?_cons_zero, List.getElem?_cons_succ] at z5 z6; (try go_simp); (try with_reducible rfl))
              simp only [List.getElem_toArray, List.getElem_cons_zero, List.getElem_cons_succ, Act.put, List.setIfInBounds_toArray, List.set_cons_zero, List.set_cons_succ]
              clear hS
              refine wpAnyH_done (by kernel_rfl) ?_ _
              go_upto_region 20 with fail
              have c7 : wn65.cell? ⟨g, 7, none⟩ = some (.int .i64 xlr) := Fn65.out.gx.cell 7
              go_upto_region 21 with (first
                | (go_at_call 18
                   with_reducible refine (rnum3_any _ _).mono ?_
                   rintro e wm ⟨vm, rfl, om, km⟩
                   have FM := hid (Fn65.out.kp0 km)
                   have OM := hid (om.byt (P := Anyb) fun _ _ => trivial)
                   clear om km c7)
                | (at_builtin
                   refine wp_app2 isU8 rfl (.tmp 121) (.tmp 125) rfl (base := q + 1) (xs := ((((((bod3 (ts.take j) ++ dg xid 3) ++ dg xgr 3) ++ dg xwt 3) ++ [0]) ++ dg xra 6) ++ dg xlv 8)) (by exact FM.out.uo) (by exact OM.out) (by have h1 := HL1.out; simp only [List.length_append, List.length_cons, List.length_nil, dg_len]; omega) (by have := FM.out.bx.lt; omega) ?_
                   intro un66 wn66 o8 k8 p8
                   have FN := hid (FM.out.app o8 k8 p8)
                   obtain ⟨mn66, hmn⟩ : ∃ m, (((((((bod3 (ts.take j) ++ dg xid 3) ++ dg xgr 3) ++ dg xwt 3) ++ [0]) ++ dg xra 6) ++ dg xlv 8) ++ dg xlr 3).length = m := ⟨_, rfl⟩
                   obtain ⟨An66, cn66, rfl⟩ := o8.formN hmn
                   have c5 : wn66.cell? ⟨q, 5, none⟩ = some (V2 2) := FN.out.bx.cell 5
                   have f5 : wn66.frozen? ⟨q, 5, none⟩ = false := FN.out.bx.frozen 5
                   clear hmn o8 k8 p8 OM))
              have FZ := hid FN.out.put
              rw [X4_2] at FZ
              generalize wn66.setCell ⟨q, 2 * 2 + 1, none⟩ (.slice An66 mn66 cn66) = wz at FZ ⊢
              obtain ⟨V3, hV3⟩ : ∃ V3, up4 V2 2 (.slice An66 mn66 cn66) = V3 := ⟨_, rfl⟩
              rw [hV3] at FZ
              clear hV3 FN FM c5 f5
              have SC := hid (FZ.out.sy 3 (by omega))
              clear FZ
              refine wp_region_any (by kernel_rfl) ?_
              show wpAny _ _ _ _ _ _ _ (World.drew wz)
              have Fd67 := hid (SC.out.kp0 (Kp.refl No wz).drew)
              generalize World.drew wz = Wd67 at Fd67 ⊢
              have HS5 := Fd67.out.gx
              clear SC
              refine wpAny_of_held (S := (fun w' => Blk w' g 53 #[.int .i64 xid, .int .i64 xgr, .int .i64 xwt, .int .u64 xco, .bool false, .int .i64 xra, .int .i64 xlv, .int .i64 xlr])) _ _ _ _ ?_
              simp only [List.size_toArray, List.length_cons, List.length_nil, Nat.reduceAdd, Array.replicate_succ, Array.replicate_zero, List.push_toArray, List.nil_append, List.cons_append]
              refine wpAnyH_take (i := 0) (v := ?_) rfl (by kernel_rfl) (by kernel_rfl) (by kernel_rfl) (fun _ _ _ h => h) (Or.inl ⟨by rfl, ?_⟩) HS5 ?_
              rotate_left
              · (intro w6 hS6; have z3 := Blk.cell hS6 3; simp only [List.getElem?_toArray, List.getElem?_cons_zero, List.getElem?_cons_succ] at z3; (try go_simp); (try with_reducible rfl))
              simp only [List.getElem_toArray, List.getElem_cons_zero, Act.put, List.setIfInBounds_toArray, List.set_cons_zero, List.set_cons_succ]
              refine wpAnyH_take (i := 1) (v := ?_) rfl (by kernel_rfl) (by kernel_rfl) (by kernel_rfl) (fun _ _ _ h => h) (Or.inl ⟨by rfl, ?_⟩) HS5 ?_
              rotate_left
              · (intro w6 hS6; have z3 := Blk.cell hS6 3; simp only [List.getElem?_toArray, List.getElem?_cons_zero, List.getElem?_cons_succ] at z3; (try go_simp); (try with_reducible rfl))
              simp only [List.getElem_toArray, List.getElem_cons_zero, List.getElem_cons_succ, Act.put, List.setIfInBounds_toArray, List.set_cons_zero, List.set_cons_succ]
              refine wpAnyH_take (i := 2) (v := ?_) rfl (by kernel_rfl) (by kernel_rfl) (by kernel_rfl) (fun _ _ _ h => h) (Or.inl ⟨by rfl, ?_⟩) HS5 ?_
              rotate_left
              · (intro w6 hS6; have z3 := Blk.cell hS6 3; simp only [List.getElem?_toArray, List.getElem?_cons_zero, List.getElem?_cons_succ] at z3; (try go_simp); (try with_reducible rfl))
              simp only [List.getElem_toArray, List.getElem_cons_zero, List.getElem_cons_succ, Act.put, List.setIfInBounds_toArray, List.set_cons_zero, List.set_cons_succ]
              refine wpAnyH_take (i := 3) (v := ?_) rfl (by kernel_rfl) (by kernel_rfl) (by kernel_rfl) (fun _ _ _ h => h) (Or.inl ⟨by rfl, ?_⟩) HS5 ?_
              rotate_left
              · (intro w6 hS6; have z3 := Blk.cell hS6 3; simp only [List.getElem?_toArray, List.getElem?_cons_zero, List.getElem?_cons_succ] at z3; (try go_simp); (try with_reducible rfl))
              simp only [List.getElem_toArray, List.getElem_cons_zero, List.getElem_cons_succ, Act.put, List.setIfInBounds_toArray, List.set_cons_zero, List.set_cons_succ]
              refine wpAnyH_take (i := 5) (v := ?_) rfl (by kernel_rfl) (by kernel_rfl) (by kernel_rfl) (fun _ _ _ h => h) (Or.inl ⟨by rfl, ?_⟩) HS5 ?_
              rotate_left
              · (intro w6 hS6; have z3 := Blk.cell hS6 3; simp only [List.getElem?_toArray, List.getElem?_cons_zero, List.getElem?_cons_succ] at z3; (try go_simp); (try with_reducible rfl))
              simp only [List.getElem_toArray, List.getElem_cons_zero, List.getElem_cons_succ, Act.put, List.setIfInBounds_toArray, List.set_cons_zero, List.set_cons_succ]
              refine wpAnyH_take (i := 6) (v := ?_) rfl (by kernel_rfl) (by kernel_rfl) (by kernel_rfl) (fun _ _ _ h => h) (Or.inl ⟨by rfl, ?_⟩) HS5 ?_
              rotate_left
              · (intro w6 hS6; have z3 := Blk.cell hS6 3; simp only [List.getElem?_toArray, List.getElem?_cons_zero, List.getElem?_cons_succ] at z3; (try go_simp); (try with_reducible rfl))
              simp only [List.getElem_toArray, List.getElem_cons_zero, List.getElem_cons_succ, Act.put, List.setIfInBounds_toArray, List.set_cons_zero, List.set_cons_succ]
              clear HS5
              refine wpAnyH_ready (rs := [4, 7]) (by kernel_rfl) (by simp) (AllReadyH.cons rfl (fun K hK => ?_) (AllReadyH.cons rfl (fun K hK => ?_) AllReadyH.nil))
              · simp only [List.getElem_toArray, List.getElem_cons_zero, List.getElem_cons_succ]
                have c0 := Fd67.out.bx.cell 7
                simp only [scells, List.getElem?_toArray, List.getElem?_cons_zero, List.getElem?_cons_succ] at c0
                go_simp
                clear c0
                refine hK.out _ _ (Fd67.out.gx) (fun hS => ?_)
                clear hK
                simp only [List.setIfInBounds_toArray, List.set_cons_zero, List.set_cons_succ]
                clear hS
                refine wpAnyH_ready (rs := [7]) (by kernel_rfl) (by simp) (AllReadyH.cons rfl (fun K hK => ?_) AllReadyH.nil)
                refine step_callx (by rfl) (by go_simp) (rdig8_any xco HMEM.out _) ?_
                intro vn69 wn69 hR
                have Fn69 := hid (Fd67.out.kp0 hR.2)
                have On69 := hid (hR.1.byt (P := Anyb) fun _ _ => trivial)
                clear hR Fd67
                refine hK.out _ _ (Fn69.out.gx) (fun hS => ?_)
                clear hK
                simp only [List.setIfInBounds_toArray, List.set_cons_zero, List.set_cons_succ, Act.put]
                clear hS
                refine wpAnyH_ready (rs := [8]) (by kernel_rfl) (by simp) (AllReadyH.cons rfl (fun K hK => ?_) AllReadyH.nil)
                refine step_app2 isU8 (by rfl) (.tmp 133) (.tmp 136) (by rfl) (base := q + 1) (xs := bod4 (ts.take j)) (ys := dg xco 8) (V3 3) vn69 (by rfl) (by rfl) Fn69.out.uo On69.out (by have h1 := HL2.out; simp only [dg_len]; omega) (by have := Fn69.out.bx.lt; omega) ?_
                intro un70 wn70 o8 k8 p8
                have Fn70 := hid (Fn69.out.app o8 k8 p8)
                obtain ⟨mn70, hmn⟩ : ∃ m, (bod4 (ts.take j) ++ dg xco 8).length = m := ⟨_, rfl⟩
                obtain ⟨An70, cn70, rfl⟩ := o8.formN hmn
                clear hmn
                clear o8 k8 p8 Fn69 On69
                refine hK.out _ _ (Fn70.out.gx) (fun hS => ?_)
                clear hK
                simp only [List.setIfInBounds_toArray, List.set_cons_zero, List.set_cons_succ, Act.put]
                refine wpAnyH_take (i := 9) (v := ?_) rfl (by kernel_rfl) (by kernel_rfl) (by kernel_rfl) (fun _ _ _ h => h) (Or.inl ⟨by rfl, ?_⟩) hS ?_
                rotate_left
                · (intro w6 hS6; have z3 := Blk.cell hS6 3; simp only [List.getElem?_toArray, List.getElem?_cons_zero, List.getElem?_cons_succ] at z3; (try go_simp); (try with_reducible rfl))
                simp only [List.getElem_toArray, List.getElem_cons_zero, List.getElem_cons_succ, Act.put, List.setIfInBounds_toArray, List.set_cons_zero, List.set_cons_succ]
                refine wpAnyH_take (i := 10) (v := ?_) rfl (by kernel_rfl) (by kernel_rfl) (by kernel_rfl) (fun _ _ _ h => h) (Or.inl ⟨by rfl, ?_⟩) hS ?_
                rotate_left
                · (intro w6 hS6; have z3 := Blk.cell hS6 3; simp only [List.getElem?_toArray, List.getElem?_cons_zero, List.getElem?_cons_succ] at z3; (try go_simp); (try with_reducible rfl))
                simp only [List.getElem_toArray, List.getElem_cons_zero, List.getElem_cons_succ, Act.put, List.setIfInBounds_toArray, List.set_cons_zero, List.set_cons_succ]
                clear hS
                refine wpAnyH_ready (rs := [11]) (by kernel_rfl) (by simp) (AllReadyH.cons rfl (fun K hK => ?_) AllReadyH.nil)
                simp only [List.getElem_toArray, List.getElem_cons_zero, List.getElem_cons_succ]
                have c0 := Fn70.out.bx.cell 7
                have f0 : wn70.frozen? ⟨q, 7, none⟩ = false := Fn70.out.bx.frozen 7
                simp only [scells, List.getElem?_toArray, List.getElem?_cons_zero, List.getElem?_cons_succ] at c0
                have Fz71 := hid Fn70.out.put
                go_simp
                generalize wn70.setCell ⟨q, 7, none⟩ (.slice An70 mn70 cn70) = wz71 at Fz71 ⊢
                clear c0 f0 Fn70
                refine hK.out _ _ (Fz71.out.gx) (fun hS => ?_)
                clear hK
                simp only [List.setIfInBounds_toArray, List.set_cons_zero, List.set_cons_succ]
                clear hS
                refine wpAnyH_done (by kernel_rfl) ?_ _
                have SX9 := hid (Fz71.out.sx)
                rw [X4_3] at SX9
                go_wp2_with fail
                go_roundw
                case rel => exact ⟨j + 1, _, by omega, by go_num, hid (by rw [H1.out, H2.out]; simpa [trow, crow, show dg (flg false) 1 = [0] from rfl] using SX9.out)⟩
                case measure => simp [vI]; omega
              · refine step_callx (by rfl) (by go_simp) (rdig8_any xco HMEM.out _) ?_
                intro vn72 wn72 hR
                have Fn72 := hid (Fd67.out.kp0 hR.2)
                have On72 := hid (hR.1.byt (P := Anyb) fun _ _ => trivial)
                clear hR Fd67
                refine hK.out _ _ (Fn72.out.gx) (fun hS => ?_)
                clear hK
                simp only [List.setIfInBounds_toArray, List.set_cons_zero, List.set_cons_succ, Act.put]
                clear hS
                refine wpAnyH_ready (rs := [4]) (by kernel_rfl) (by simp) (AllReadyH.cons rfl (fun K hK => ?_) AllReadyH.nil)
                simp only [List.getElem_toArray, List.getElem_cons_zero, List.getElem_cons_succ]
                have c0 := Fn72.out.bx.cell 7
                simp only [scells, List.getElem?_toArray, List.getElem?_cons_zero, List.getElem?_cons_succ] at c0
                go_simp
                clear c0
                refine hK.out _ _ (Fn72.out.gx) (fun hS => ?_)
                clear hK
                simp only [List.setIfInBounds_toArray, List.set_cons_zero, List.set_cons_succ]
                clear hS
                refine wpAnyH_ready (rs := [8]) (by kernel_rfl) (by simp) (AllReadyH.cons rfl (fun K hK => ?_) AllReadyH.nil)
                refine step_app2 isU8 (by rfl) (.tmp 133) (.tmp 136) (by rfl) (base := q + 1) (xs := bod4 (ts.take j)) (ys := dg xco 8) (V3 3) vn72 (by rfl) (by rfl) Fn72.out.uo On72.out (by have h1 := HL2.out; simp only [dg_len]; omega) (by have := Fn72.out.bx.lt; omega) ?_
                intro un74 wn74 o8 k8 p8
                have Fn74 := hid (Fn72.out.app o8 k8 p8)
                obtain ⟨mn74, hmn⟩ : ∃ m, (bod4 (ts.take j) ++ dg xco 8).length = m := ⟨_, rfl⟩
                obtain ⟨An74, cn74, rfl⟩ := o8.formN hmn
                clear hmn
                clear o8 k8 p8 Fn72 On72
                refine hK.out _ _ (Fn74.out.gx) (fun hS => ?_)
                clear hK
                simp only [List.setIfInBounds_toArray, List.set_cons_zero, List.set_cons_succ, Act.put]
                refine wpAnyH_take (i := 9) (v := ?_) rfl (by kernel_rfl) (by kernel_rfl) (by kernel_rfl) (fun _ _ _ h => h) (Or.inl ⟨by rfl, ?_⟩) hS ?_
                rotate_left
                · (intro w6 hS6; have z3 := Blk.cell hS6 3; simp only [List.getElem?_toArray, List.getElem?_cons_zero, List.getElem?_cons_succ] at z3; (try go_simp); (try with_reducible rfl))
                simp only [List.getElem_toArray, List.getElem_cons_zero, List.getElem_cons_succ, Act.put, List.setIfInBounds_toArray, List.set_cons_zero, List.set_cons_succ]
                refine wpAnyH_take (i := 10) (v := ?_) rfl (by kernel_rfl) (by kernel_rfl) (by kernel_rfl) (fun _ _ _ h => h) (Or.inl ⟨by rfl, ?_⟩) hS ?_
                rotate_left
                · (intro w6 hS6; have z3 := Blk.cell hS6 3; simp only [List.getElem?_toArray, List.getElem?_cons_zero, List.getElem?_cons_succ] at z3; (try go_simp); (try with_reducible rfl))
                simp only [List.getElem_toArray, List.getElem_cons_zero, List.getElem_cons_succ, Act.put, List.setIfInBounds_toArray, List.set_cons_zero, List.set_cons_succ]
                clear hS
                refine wpAnyH_ready (rs := [11]) (by kernel_rfl) (by simp) (AllReadyH.cons rfl (fun K hK => ?_) AllReadyH.nil)
                simp only [List.getElem_toArray, List.getElem_cons_zero, List.getElem_cons_succ]
                have c0 := Fn74.out.bx.cell 7
                have f0 : wn74.frozen? ⟨q, 7, none⟩ = false := Fn74.out.bx.frozen 7
                simp only [scells, List.getElem?_toArray, List.getElem?_cons_zero, List.getElem?_cons_succ] at c0
                have Fz75 := hid Fn74.out.put
                go_simp
                generalize wn74.setCell ⟨q, 7, none⟩ (.slice An74 mn74 cn74) = wz75 at Fz75 ⊢
                clear c0 f0 Fn74
                refine hK.out _ _ (Fz75.out.gx) (fun hS => ?_)
                clear hK
                simp only [List.setIfInBounds_toArray, List.set_cons_zero, List.set_cons_succ]
                clear hS
                refine wpAnyH_done (by kernel_rfl) ?_ _
                have SX9 := hid (Fz75.out.sx)
                rw [X4_3] at SX9
                go_wp2_with fail
                go_roundw
                case rel => exact ⟨j + 1, _, by omega, by go_num, hid (by rw [H1.out, H2.out]; simpa [trow, crow, show dg (flg false) 1 = [0] from rfl] using SX9.out)⟩
                case measure => simp [vI]; omega
            · go_upto_region 15 with fail
              obtain ⟨g, hgg⟩ : ∃ g, wr.heap.size = g := ⟨_, rfl⟩
              rw [hgg] at SA ⊢
              generalize wr.alloc (.cells #[.int .i64 xid, .int .i64 xgr, .int .i64 xwt, .int .u64 xco, .bool true, .int .i64 xra, .int .i64 xlv, .int .i64 xlr] 53) = wg at SA ⊢
              clear hgg SX s0 s1 q0 q1 q2 q3 q4 q5 q6 q7
              have z4 : wg.cell? ⟨g, 4, none⟩ = some (.bool true) := SA.out.gx.cell 4
              go_upto_region 18 with fail
              clear z4
              have SB := hid (SA.out.sy 2 (by omega))
              clear SA
              refine wp_region_any (by kernel_rfl) ?_
              show wpAny _ _ _ _ _ _ _ (World.drew wg)
              have Fd76 := hid (SB.out.kp0 (Kp.refl No wg).drew)
              generalize World.drew wg = Wd76 at Fd76 ⊢
              have HS5 := Fd76.out.both
              clear SB
              refine wpAny_of_held (S := (fun w' => Blk w' g 53 #[.int .i64 xid, .int .i64 xgr, .int .i64 xwt, .int .u64 xco, .bool true, .int .i64 xra, .int .i64 xlv, .int .i64 xlr] ∧ Blk w' q 36 (scells V2))) _ _ _ _ ?_
              simp only [List.size_toArray, List.length_cons, List.length_nil, Nat.reduceAdd, Array.replicate_succ, Array.replicate_zero, List.push_toArray, List.nil_append, List.cons_append]
              refine wpAnyH_take (i := 0) (v := ?_) rfl (by kernel_rfl) (by kernel_rfl) (by kernel_rfl) (fun _ _ _ h => h) (Or.inl ⟨by rfl, ?_⟩) HS5 ?_
              rotate_left
              · (intro w6 hS6; have z0 := hS6.1.cell 0; have z1 := hS6.1.cell 1; have z2 := hS6.1.cell 2; have zq := hS6.2.cell 5; simp only [scells, List.getElem?_toArray, List.getElem?_cons_zero, List.getElem?_cons_succ] at zq z0 z1 z2; (try go_simp); (try with_reducible rfl))
              simp only [List.getElem_toArray, List.getElem_cons_zero, Act.put, List.setIfInBounds_toArray, List.set_cons_zero, List.set_cons_succ]
              refine wpAnyH_take (i := 1) (v := ?_) rfl (by kernel_rfl) (by kernel_rfl) (by kernel_rfl) (fun _ _ _ h => h) (Or.inl ⟨by rfl, ?_⟩) HS5 ?_
              rotate_left
              · (intro w6 hS6; have z0 := hS6.1.cell 0; have z1 := hS6.1.cell 1; have z2 := hS6.1.cell 2; have zq := hS6.2.cell 5; simp only [scells, List.getElem?_toArray, List.getElem?_cons_zero, List.getElem?_cons_succ] at zq z0 z1 z2; (try go_simp); (try with_reducible rfl))
              simp only [List.getElem_toArray, List.getElem_cons_zero, List.getElem_cons_succ, Act.put, List.setIfInBounds_toArray, List.set_cons_zero, List.set_cons_succ]
              refine wpAnyH_take (i := 2) (v := ?_) rfl (by kernel_rfl) (by kernel_rfl) (by kernel_rfl) (fun _ _ _ h => h) (Or.inl ⟨by rfl, ?_⟩) HS5 ?_
              rotate_left
              · (intro w6 hS6; have z0 := hS6.1.cell 0; have z1 := hS6.1.cell 1; have z2 := hS6.1.cell 2; have zq := hS6.2.cell 5; simp only [scells, List.getElem?_toArray, List.getElem?_cons_zero, List.getElem?_cons_succ] at zq z0 z1 z2; (try go_simp); (try with_reducible rfl))
              simp only [List.getElem_toArray, List.getElem_cons_zero, List.getElem_cons_succ, Act.put, List.setIfInBounds_toArray, List.set_cons_zero, List.set_cons_succ]
              refine wpAnyH_take (i := 3) (v := ?_) rfl (by kernel_rfl) (by kernel_rfl) (by kernel_rfl) (fun _ _ _ h => h) (Or.inl ⟨by rfl, ?_⟩) HS5 ?_
              rotate_left
              · (intro w6 hS6; have z0 := hS6.1.cell 0; have z1 := hS6.1.cell 1; have z2 := hS6.1.cell 2; have zq := hS6.2.cell 5; simp only [scells, List.getElem?_toArray, List.getElem?_cons_zero, List.getElem?_cons_succ] at zq z0 z1 z2; (try go_simp); (try with_reducible rfl))
              simp only [List.getElem_toArray, List.getElem_cons_zero, List.getElem_cons_succ, Act.put, List.setIfInBounds_toArray, List.set_cons_zero, List.set_cons_succ]
              refine wpAnyH_take (i := 4) (v := ?_) rfl (by kernel_rfl) (by kernel_rfl) (by kernel_rfl) (fun _ _ _ h => h) (Or.inl ⟨by rfl, ?_⟩) HS5 ?_
              rotate_left
              · (intro w6 hS6; have z0 := hS6.1.cell 0; have z1 := hS6.1.cell 1; have z2 := hS6.1.cell 2; have zq := hS6.2.cell 5; simp only [scells, List.getElem?_toArray, List.getElem?_cons_zero, List.getElem?_cons_succ] at zq z0 z1 z2; (try go_simp); (try with_reducible rfl))
              simp only [List.getElem_toArray, List.getElem_cons_zero, List.getElem_cons_succ, Act.put, List.setIfInBounds_toArray, List.set_cons_zero, List.set_cons_succ]
              refine wpAnyH_take (i := 5) (v := ?_) rfl (by kernel_rfl) (by kernel_rfl) (by kernel_rfl) (fun _ _ _ h => h) (Or.inl ⟨by rfl, ?_⟩) HS5 ?_
              rotate_left
              · (intro w6 hS6; have z0 := hS6.1.cell 0; have z1 := hS6.1.cell 1; have z2 := hS6.1.cell 2; have zq := hS6.2.cell 5; simp only [scells, List.getElem?_toArray, List.getElem?_cons_zero, List.getElem?_cons_succ] at zq z0 z1 z2; (try go_simp); (try with_reducible rfl))
              simp only [List.getElem_toArray, List.getElem_cons_zero, List.getElem_cons_succ, Act.put, List.setIfInBounds_toArray, List.set_cons_zero, List.set_cons_succ]
              refine wpAnyH_take (i := 8) (v := ?_) rfl (by kernel_rfl) (by kernel_rfl) (by kernel_rfl) (fun _ _ _ h => h) (Or.inl ⟨by rfl, ?_⟩) HS5 ?_
              rotate_left
              · (intro w6 hS6; have z0 := hS6.1.cell 0; have z1 := hS6.1.cell 1; have z2 := hS6.1.cell 2; have zq := hS6.2.cell 5; simp only [scells, List.getElem?_toArray, List.getElem?_cons_zero, List.getElem?_cons_succ] at zq z0 z1 z2; (try go_simp); (try with_reducible rfl))
              simp only [List.getElem_toArray, List.getElem_cons_zero, List.getElem_cons_succ, Act.put, List.setIfInBounds_toArray, List.set_cons_zero, List.set_cons_succ]
              refine wpAnyH_take (i := 9) (v := ?_) rfl (by kernel_rfl) (by kernel_rfl) (by kernel_rfl) (fun _ _ _ h => h) (Or.inl ⟨by rfl, ?_⟩) HS5 ?_
              rotate_left
              · (intro w6 hS6; have z0 := hS6.1.cell 0; have z1 := hS6.1.cell 1; have z2 := hS6.1.cell 2; have zq := hS6.2.cell 5; simp only [scells, List.getElem?_toArray, List.getElem?_cons_zero, List.getElem?_cons_succ] at zq z0 z1 z2; (try go_simp); (try with_reducible rfl))
              simp only [List.getElem_toArray, List.getElem_cons_zero, List.getElem_cons_succ, Act.put, List.setIfInBounds_toArray, List.set_cons_zero, List.set_cons_succ]
              refine wpAnyH_take (i := 12) (v := ?_) rfl (by kernel_rfl) (by kernel_rfl) (by kernel_rfl) (fun _ _ _ h => h) (Or.inl ⟨by rfl, ?_⟩) HS5 ?_
              rotate_left
              · (intro w6 hS6; have z0 := hS6.1.cell 0; have z1 := hS6.1.cell 1; have z2 := hS6.1.cell 2; have zq := hS6.2.cell 5; simp only [scells, List.getElem?_toArray, List.getElem?_cons_zero, List.getElem?_cons_succ] at zq z0 z1 z2; (try go_simp); (try with_reducible rfl))
              simp only [List.getElem_toArray, List.getElem_cons_zero, List.getElem_cons_succ, Act.put, List.setIfInBounds_toArray, List.set_cons_zero, List.set_cons_succ]
              refine wpAnyH_take (i := 13) (v := ?_) rfl (by kernel_rfl) (by kernel_rfl) (by kernel_rfl) (fun _ _ _ h => h) (Or.inl ⟨by rfl, ?_⟩) HS5 ?_
              rotate_left
              · (intro w6 hS6; have z0 := hS6.1.cell 0; have z1 := hS6.1.cell 1; have z2 := hS6.1.cell 2; have zq := hS6.2.cell 5; simp only [scells, List.getElem?_toArray, List.getElem?_cons_zero, List.getElem?_cons_succ] at zq z0 z1 z2; (try go_simp); (try with_reducible rfl))
              simp only [List.getElem_toArray, List.getElem_cons_zero, List.getElem_cons_succ, Act.put, List.setIfInBounds_toArray, List.set_cons_zero, List.set_cons_succ]
              clear HS5
              refine wpAnyH_ready (rs := [6]) (by kernel_rfl) (by simp) (AllReadyH.cons rfl (fun K hK => ?_) AllReadyH.nil)
              refine step_callx (by rfl) (by go_simp) (rnum3_any xid _) ?_
              intro vn77 wn77 hR
              have Fn77 := hid (Fd76.out.kp0 hR.2)
              have On77 := hid (hR.1.byt (P := Anyb) fun _ _ => trivial)
              clear hR Fd76
              refine hK.out _ _ (Fn77.out.both) (fun hS => ?_)
              clear hK
              simp only [List.setIfInBounds_toArray, List.set_cons_zero, List.set_cons_succ, Act.put]
              clear hS
              refine wpAnyH_ready (rs := [7]) (by kernel_rfl) (by simp) (AllReadyH.cons rfl (fun K hK => ?_) AllReadyH.nil)
              refine step_app2 isU8 (by rfl) (.tmp 94) (.tmp 97) (by rfl) (base := q + 1) (xs := bod3 (ts.take j)) (ys := dg xid 3) (V2 2) vn77 (by rfl) (by rfl) Fn77.out.uo On77.out (by have h1 := HL1.out; simp only [dg_len]; omega) (by have := Fn77.out.bx.lt; omega) ?_
              intro un78 wn78 o8 k8 p8
              have Fn78 := hid (Fn77.out.app o8 k8 p8)
              clear o8 k8 p8 Fn77 On77
              refine hK.out _ _ (Fn78.out.both) (fun hS => ?_)
              clear hK
              simp only [List.setIfInBounds_toArray, List.set_cons_zero, List.set_cons_succ, Act.put]
              clear hS
              refine wpAnyH_ready (rs := [10]) (by kernel_rfl) (by simp) (AllReadyH.cons rfl (fun K hK => ?_) AllReadyH.nil)
              refine step_callx (by rfl) (by go_simp) (rnum3_any xgr _) ?_
              intro vn79 wn79 hR
              have Fn79 := hid (Fn78.out.kp0 hR.2)
              have On79 := hid (hR.1.byt (P := Anyb) fun _ _ => trivial)
              clear hR Fn78
              refine hK.out _ _ (Fn79.out.both) (fun hS => ?_)
              clear hK
              simp only [List.setIfInBounds_toArray, List.set_cons_zero, List.set_cons_succ, Act.put]
              clear hS
              refine wpAnyH_ready (rs := [11]) (by kernel_rfl) (by simp) (AllReadyH.cons rfl (fun K hK => ?_) AllReadyH.nil)
              refine step_app2 isU8 (by rfl) (.tmp 98) (.tmp 101) (by rfl) (base := q + 1) (xs := (bod3 (ts.take j) ++ dg xid 3)) (ys := dg xgr 3) (un78) vn79 (by rfl) (by rfl) Fn79.out.uo On79.out (by have h1 := HL1.out; simp only [List.length_append, dg_len]; omega) (by have := Fn79.out.bx.lt; omega) ?_
              intro un80 wn80 o8 k8 p8
              have Fn80 := hid (Fn79.out.app o8 k8 p8)
              clear o8 k8 p8 Fn79 On79
              refine hK.out _ _ (Fn80.out.both) (fun hS => ?_)
              clear hK
              simp only [List.setIfInBounds_toArray, List.set_cons_zero, List.set_cons_succ, Act.put]
              clear hS
              refine wpAnyH_ready (rs := [14]) (by kernel_rfl) (by simp) (AllReadyH.cons rfl (fun K hK => ?_) AllReadyH.nil)
              refine step_callx (by rfl) (by go_simp) (rnum3_any xwt _) ?_
              intro vn81 wn81 hR
              have Fn81 := hid (Fn80.out.kp0 hR.2)
              have On81 := hid (hR.1.byt (P := Anyb) fun _ _ => trivial)
              clear hR Fn80
              refine hK.out _ _ (Fn81.out.both) (fun hS => ?_)
              clear hK
              simp only [List.setIfInBounds_toArray, List.set_cons_zero, List.set_cons_succ, Act.put]
              clear hS
              refine wpAnyH_ready (rs := [15]) (by kernel_rfl) (by simp) (AllReadyH.cons rfl (fun K hK => ?_) AllReadyH.nil)
              refine step_app2 isU8 (by rfl) (.tmp 102) (.tmp 105) (by rfl) (base := q + 1) (xs := ((bod3 (ts.take j) ++ dg xid 3) ++ dg xgr 3)) (ys := dg xwt 3) (un80) vn81 (by rfl) (by rfl) Fn81.out.uo On81.out (by have h1 := HL1.out; simp only [List.length_append, dg_len]; omega) (by have := Fn81.out.bx.lt; omega) ?_
              intro un82 wn82 o8 k8 p8
              have Fn82 := hid (Fn81.out.app o8 k8 p8)
              obtain ⟨mn82, hmn⟩ : ∃ m, (((bod3 (ts.take j) ++ dg xid 3) ++ dg xgr 3) ++ dg xwt 3).length = m := ⟨_, rfl⟩
              obtain ⟨An82, cn82, rfl⟩ := o8.formN hmn
              clear hmn
              clear o8 k8 p8 Fn81 On81
              refine hK.out _ _ (Fn82.out.both) (fun hS => ?_)
              clear hK
              simp only [List.setIfInBounds_toArray, List.set_cons_zero, List.set_cons_succ, Act.put]
              refine wpAnyH_take (i := 16) (v := ?_) rfl (by kernel_rfl) (by kernel_rfl) (by kernel_rfl) (fun _ _ _ h => h) (Or.inl ⟨by rfl, ?_⟩) hS ?_
              rotate_left
              · (intro w6 hS6; have z0 := hS6.1.cell 0; have z1 := hS6.1.cell 1; have z2 := hS6.1.cell 2; have zq := hS6.2.cell 5; simp only [scells, List.getElem?_toArray, List.getElem?_cons_zero, List.getElem?_cons_succ] at zq z0 z1 z2; (try go_simp); (try with_reducible rfl))
              simp only [List.getElem_toArray, List.getElem_cons_zero, List.getElem_cons_succ, Act.put, List.setIfInBounds_toArray, List.set_cons_zero, List.set_cons_succ]
              clear hS
              refine wpAnyH_done (by kernel_rfl) ?_ _
              go_upto_region 19 with fail
              refine wp_region_any (by kernel_rfl) ?_
              show wpAny _ _ _ _ _ _ _ (World.drew wn82)
              have Fd83 := hid (Fn82.out.kp0 (Kp.refl No wn82).drew)
              generalize World.drew wn82 = Wd83 at Fd83 ⊢
              have HS5 := Fd83.out.gx
              clear Fn82
              refine wpAny_of_held (S := (fun w' => Blk w' g 53 #[.int .i64 xid, .int .i64 xgr, .int .i64 xwt, .int .u64 xco, .bool true, .int .i64 xra, .int .i64 xlv, .int .i64 xlr])) _ _ _ _ ?_
              simp only [List.size_toArray, List.length_cons, List.length_nil, Nat.reduceAdd, Array.replicate_succ, Array.replicate_zero, List.push_toArray, List.nil_append, List.cons_append]
              refine wpAnyH_take (i := 0) (v := ?_) rfl (by kernel_rfl) (by kernel_rfl) (by kernel_rfl) (fun _ _ _ h => h) (Or.inl ⟨by rfl, ?_⟩) HS5 ?_
              rotate_left
              · (intro w6 hS6; have z5 := Blk.cell hS6 5; have z6 := Blk.cell hS6 6; simp only [List.getElem?_toArray, List.getElem?_cons_zero, List.getElem?_cons_succ] at z5 z6; (try go_simp); (try with_reducible rfl))
              simp only [List.getElem_toArray, List.getElem_cons_zero, Act.put, List.setIfInBounds_toArray, List.set_cons_zero, List.set_cons_succ]
              refine wpAnyH_take (i := 1) (v := ?_) rfl (by kernel_rfl) (by kernel_rfl) (by kernel_rfl) (fun _ _ _ h => h) (Or.inl ⟨by rfl, ?_⟩) HS5 ?_
              rotate_left
              · (intro w6 hS6; have z5 := Blk.cell hS6 5; have z6 := Blk.cell hS6 6; simp only [List.getElem?_toArray, List.getElem?_cons_zero, List.getElem?_cons_succ] at z5 z6; (try go_simp); (try with_reducible rfl))
              simp only [List.getElem_toArray, List.getElem_cons_zero, List.getElem_cons_succ, Act.put, List.setIfInBounds_toArray, List.set_cons_zero, List.set_cons_succ]
              refine wpAnyH_take (i := 4) (v := ?_) rfl (by kernel_rfl) (by kernel_rfl) (by kernel_rfl) (fun _ _ _ h => h) (Or.inl ⟨by rfl, ?_⟩) HS5 ?_
              rotate_left
              · (intro w6 hS6; have z5 := Blk.cell hS6 5; have z6 := Blk.cell hS6 6; simp only [List.getElem?_toArray, List.getElem?_cons_zero, List.getElem?_cons_succ] at z5 z6; (try go_simp); (try with_reducible rfl))
              simp only [List.getElem_toArray, List.getElem_cons_zero, List.getElem_cons_succ, Act.put, List.setIfInBounds_toArray, List.set_cons_zero, List.set_cons_succ]
              refine wpAnyH_take (i := 5) (v := ?_) rfl (by kernel_rfl) (by kernel_rfl) (by kernel_rfl) (fun _ _ _ h => h) (Or.inl ⟨by rfl, ?_⟩) HS5 ?_
              rotate_left
              · (intro w6 hS6; have z5 := Blk.cell hS6 5; have z6 := Blk.cell hS6 6; simp only [List.getElem?_toArray, List.getElem?_cons_zero, List.getElem?_cons_succ] at z5 z6; (try go_simp); (try with_reducible rfl))
              simp only [List.getElem_toArray, List.getElem_cons_zero, List.getElem_cons_succ, Act.put, List.setIfInBounds_toArray, List.set_cons_zero, List.set_cons_succ]
              refine wpAnyH_take (i := 8) (v := ?_) rfl (by kernel_rfl) (by kernel_rfl) (by kernel_rfl) (fun _ _ _ h => h) (Or.inl ⟨by rfl, ?_⟩) HS5 ?_
              rotate_left
              · (intro w6 hS6; have z5 := Blk.cell hS6 5; have z6 := Blk.cell hS6 6; simp only [List.getElem?_toArray, List.getElem?_cons_zero, List.getElem?_cons_succ] at z5 z6; (try go_simp); (try with_reducible rfl))
              simp only [List.getElem_toArray, List.getElem_cons_zero, List.getElem_cons_succ, Act.put, List.setIfInBounds_toArray, List.set_cons_zero, List.set_cons_succ]
              refine wpAnyH_take (i := 9) (v := ?_) rfl (by kernel_rfl) (by kernel_rfl) (by kernel_rfl) (fun _ _ _ h => h) (Or.inl ⟨by rfl, ?_⟩) HS5 ?_
              rotate_left
              · (intro w6 hS6; have z5 := Blk.cell hS6 5; have z6 := Blk.cell hS6 6; simp only [List.getElem?_toArray, List.getElem?_cons_zero, List.getElem?_cons_succ] at z5 z6; (try go_simp); (try with_reducible rfl))
              simp only [List.getElem_toArray, List.getElem_cons_zero, List.getElem_cons_succ, Act.put, List.setIfInBounds_toArray, List.set_cons_zero, List.set_cons_succ]
              refine wpAnyH_take (i := 10) (v := ?_) rfl (by kernel_rfl) (by kernel_rfl) (by kernel_rfl) (fun _ _ _ h => h) (Or.inl ⟨by rfl, ?_⟩) HS5 ?_
              rotate_left
              · (intro w6 hS6; have z5 := Blk.cell hS6 5; have z6 := Blk.cell hS6 6; simp only [List.getElem?_toArray, List.getElem?_cons_zero, List.getElem?_cons_succ] at z5 z6; (try go_simp); (try with_reducible rfl))
              simp only [List.getElem_toArray, List.getElem_cons_zero, List.getElem_cons_succ, Act.put, List.setIfInBounds_toArray, List.set_cons_zero, List.set_cons_succ]
              clear HS5
              refine wpAnyH_ready (rs := [2]) (by kernel_rfl) (by simp) (AllReadyH.cons rfl (fun K hK => ?_) AllReadyH.nil)
              simp only [List.getElem_toArray, List.getElem_cons_zero, List.getElem_cons_succ]
              go_simp
              have On84 := hid (Byt.one Wd83 5 (P := Anyb) 1 (by omega) trivial)
              have Fn84 := hid (Fd83.out.kp0 ((Kp.refl No Wd83).alloc (.cells #[.int .u8 1] 5)))
              obtain ⟨bn84, hbn⟩ : ∃ b, Wd83.heap.size = b := ⟨_, rfl⟩
              rw [hbn] at On84 ⊢
              generalize Wd83.alloc (.cells #[.int .u8 1] 5) = wn84 at Fn84 On84 ⊢
              clear hbn Fd83
              refine hK.out _ _ (Fn84.out.gx) (fun hS => ?_)
              clear hK
              simp only [List.setIfInBounds_toArray, List.set_cons_zero, List.set_cons_succ]
              clear hS
              refine wpAnyH_ready (rs := [3]) (by kernel_rfl) (by simp) (AllReadyH.cons rfl (fun K hK => ?_) AllReadyH.nil)
              refine step_app2 isU8 (by rfl) (.tmp 107) (.tmp 109) (by rfl) (base := q + 1) (xs := (((bod3 (ts.take j) ++ dg xid 3) ++ dg xgr 3) ++ dg xwt 3)) (ys := [1]) (.slice An82 mn82 cn82) (.slice (some ⟨bn84, 0, none⟩) 1 1) (by rfl) (by rfl) Fn84.out.uo On84.out (by have h1 := HL1.out; simp only [List.length_append, List.length_cons, List.length_nil, dg_len]; omega) (by have := Fn84.out.bx.lt; omega) ?_
              intro un85 wn85 o8 k8 p8
              have Fn85 := hid (Fn84.out.app o8 k8 p8)
              clear o8 k8 p8 Fn84 On84
              refine hK.out _ _ (Fn85.out.gx) (fun hS => ?_)
              clear hK
              simp only [List.setIfInBounds_toArray, List.set_cons_zero, List.set_cons_succ, Act.put]
              clear hS
              refine wpAnyH_ready (rs := [6]) (by kernel_rfl) (by simp) (AllReadyH.cons rfl (fun K hK => ?_) AllReadyH.nil)
              refine step_callx (by rfl) (by go_simp) (rnum6_any xra _) ?_
              intro vn86 wn86 hR
              have Fn86 := hid (Fn85.out.kp0 hR.2)
              have On86 := hid (hR.1.byt (P := Anyb) fun _ _ => trivial)
              clear hR Fn85
              refine hK.out _ _ (Fn86.out.gx) (fun hS => ?_)
              clear hK
              simp only [List.setIfInBounds_toArray, List.set_cons_zero, List.set_cons_succ, Act.put]
              clear hS
              refine wpAnyH_ready (rs := [7]) (by kernel_rfl) (by simp) (AllReadyH.cons rfl (fun K hK => ?_) AllReadyH.nil)
              refine step_app2 isU8 (by rfl) (.tmp 110) (.tmp 113) (by rfl) (base := q + 1) (xs := ((((bod3 (ts.take j) ++ dg xid 3) ++ dg xgr 3) ++ dg xwt 3) ++ [1])) (ys := dg xra 6) (un85) vn86 (by rfl) (by rfl) Fn86.out.uo On86.out (by have h1 := HL1.out; simp only [List.length_append, List.length_cons, List.length_nil, dg_len]; omega) (by have := Fn86.out.bx.lt; omega) ?_
              intro un87 wn87 o8 k8 p8
              have Fn87 := hid (Fn86.out.app o8 k8 p8)
              clear o8 k8 p8 Fn86 On86
              refine hK.out _ _ (Fn87.out.gx) (fun hS => ?_)
              clear hK
              simp only [List.setIfInBounds_toArray, List.set_cons_zero, List.set_cons_succ, Act.put]
              clear hS
              refine wpAnyH_ready (rs := [11]) (by kernel_rfl) (by simp) (AllReadyH.cons rfl (fun K hK => ?_) AllReadyH.nil)
              refine step_callx (by rfl) (by go_simp) (rnum8_any xlv _) ?_
              intro vn88 wn88 hR
              have Fn88 := hid (Fn87.out.kp0 hR.2)
              have On88 := hid (hR.1.byt (P := Anyb) fun _ _ => trivial)
              clear hR Fn87
              refine hK.out _ _ (Fn88.out.gx) (fun hS => ?_)
              clear hK
              simp only [List.setIfInBounds_toArray, List.set_cons_zero, List.set_cons_succ, Act.put]
              clear hS
              refine wpAnyH_ready (rs := [12]) (by kernel_rfl) (by simp) (AllReadyH.cons rfl (fun K hK => ?_) AllReadyH.nil)
              refine step_app2 isU8 (by rfl) (.tmp 114) (.tmp 118) (by rfl) (base := q + 1) (xs := (((((bod3 (ts.take j) ++ dg xid 3) ++ dg xgr 3) ++ dg xwt 3) ++ [1]) ++ dg xra 6)) (ys := dg xlv 8) (un87) vn88 (by rfl) (by rfl) Fn88.out.uo On88.out (by have h1 := HL1.out; simp only [List.length_append, List.length_cons, List.length_nil, dg_len]; omega) (by have := Fn88.out.bx.lt; omega) ?_
              intro un89 wn89 o8 k8 p8
              have Fn89 := hid (Fn88.out.app o8 k8 p8)
              obtain ⟨mn89, hmn⟩ : ∃ m, ((((((bod3 (ts.take j) ++ dg xid 3) ++ dg xgr 3) ++ dg xwt 3) ++ [1]) ++ dg xra 6) ++ dg xlv 8).length = m := ⟨_, rfl⟩
              obtain ⟨An89, cn89, rfl⟩ := o8.formN hmn
              clear hmn
              clear o8 k8 p8 Fn88 On88
              refine hK.out _ _ (Fn89.out.gx) (fun hS => ?_)
              clear hK
              simp only [List.setIfInBounds_toArray, List.set_cons_zero, List.set_cons_succ, Act.put]
              refine wpAnyH_take (i := 13) (v := ?_) rfl (by kernel_rfl) (by kernel_rfl) (by kernel_rfl) (fun _ _ _ h => h) (Or.inl ⟨by rfl, ?_⟩) hS ?_
              rotate_left
              · (intro w6 hS6; have z5 := Blk.cell hS6 5; have z6 := Blk.cell hS6 6; simp only [List.getElem?_toArray, List.getElem?_cons_zero, List.getElem?_cons_succ] at z5 z6; (try go_simp); (try with_reducible rfl))
              simp only [List.getElem_toArray, List.getElem_cons_zero, List.getElem_cons_succ, Act.put, List.setIfInBounds_toArray, List.set_cons_zero, List.set_cons_succ]
              clear hS
              refine wpAnyH_done (by kernel_rfl) ?_ _
              go_upto_region 20 with fail
              have c7 : wn89.cell? ⟨g, 7, none⟩ = some (.int .i64 xlr) := Fn89.out.gx.cell 7
              go_upto_region 21 with (first
                | (go_at_call 18
                   with_reducible refine (rnum3_any _ _).mono ?_
                   rintro e wm ⟨vm, rfl, om, km⟩
                   have FM := hid (Fn89.out.kp0 km)
                   have OM := hid (om.byt (P := Anyb) fun _ _ => trivial)
                   clear om km c7)
                | (at_builtin
                   refine wp_app2 isU8 rfl (.tmp 121) (.tmp 125) rfl (base := q + 1) (xs := ((((((bod3 (ts.take j) ++ dg xid 3) ++ dg xgr 3) ++ dg xwt 3) ++ [1]) ++ dg xra 6) ++ dg xlv 8)) (by exact FM.out.uo) (by exact OM.out) (by have h1 := HL1.out; simp only [List.length_append, List.length_cons, List.length_nil, dg_len]; omega) (by have := FM.out.bx.lt; omega) ?_
                   intro un90 wn90 o8 k8 p8
                   have FN := hid (FM.out.app o8 k8 p8)
                   obtain ⟨mn90, hmn⟩ : ∃ m, (((((((bod3 (ts.take j) ++ dg xid 3) ++ dg xgr 3) ++ dg xwt 3) ++ [1]) ++ dg xra 6) ++ dg xlv 8) ++ dg xlr 3).length = m := ⟨_, rfl⟩
                   obtain ⟨An90, cn90, rfl⟩ := o8.formN hmn
                   have c5 : wn90.cell? ⟨q, 5, none⟩ = some (V2 2) := FN.out.bx.cell 5
                   have f5 : wn90.frozen? ⟨q, 5, none⟩ = false := FN.out.bx.frozen 5
                   clear hmn o8 k8 p8 OM))
              have FZ := hid FN.out.put
              rw [X4_2] at FZ
              generalize wn90.setCell ⟨q, 2 * 2 + 1, none⟩ (.slice An90 mn90 cn90) = wz at FZ ⊢
              obtain ⟨V3, hV3⟩ : ∃ V3, up4 V2 2 (.slice An90 mn90 cn90) = V3 := ⟨_, rfl⟩
              rw [hV3] at FZ
              clear hV3 FN FM c5 f5
              have SC := hid (FZ.out.sy 3 (by omega))
              clear FZ
              refine wp_region_any (by kernel_rfl) ?_
              show wpAny _ _ _ _ _ _ _ (World.drew wz)
              have Fd91 := hid (SC.out.kp0 (Kp.refl No wz).drew)
              generalize World.drew wz = Wd91 at Fd91 ⊢
              have HS5 := Fd91.out.gx
              clear SC
              refine wpAny_of_held (S := (fun w' => Blk w' g 53 #[.int .i64 xid, .int .i64 xgr, .int .i64 xwt, .int .u64 xco, .bool true, .int .i64 xra, .int .i64 xlv, .int .i64 xlr])) _ _ _ _ ?_
              simp only [List.size_toArray, List.length_cons, List.length_nil, Nat.reduceAdd, Array.replicate_succ, Array.replicate_zero, List.push_toArray, List.nil_append, List.cons_append]
              refine wpAnyH_take (i := 0) (v := ?_) rfl (by kernel_rfl) (by kernel_rfl) (by kernel_rfl) (fun _ _ _ h => h) (Or.inl ⟨by rfl, ?_⟩) HS5 ?_
              rotate_left
              · (intro w6 hS6; have z3 := Blk.cell hS6 3; simp only [List.getElem?_toArray, List.getElem?_cons_zero, List.getElem?_cons_succ] at z3; (try go_simp); (try with_reducible rfl))
              simp only [List.getElem_toArray, List.getElem_cons_zero, Act.put, List.setIfInBounds_toArray, List.set_cons_zero, List.set_cons_succ]
              refine wpAnyH_take (i := 1) (v := ?_) rfl (by kernel_rfl) (by kernel_rfl) (by kernel_rfl) (fun _ _ _ h => h) (Or.inl ⟨by rfl, ?_⟩) HS5 ?_
              rotate_left
              · (intro w6 hS6; have z3 := Blk.cell hS6 3; simp only [List.getElem?_toArray, List.getElem?_cons_zero, List.getElem?_cons_succ] at z3; (try go_simp); (try with_reducible rfl))
              simp only [List.getElem_toArray, List.getElem_cons_zero, List.getElem_cons_succ, Act.put, List.setIfInBounds_toArray, List.set_cons_zero, List.set_cons_succ]
              refine wpAnyH_take (i := 2) (v := ?_) rfl (by kernel_rfl) (by kernel_rfl) (by kernel_rfl) (fun _ _ _ h => h) (Or.inl ⟨by rfl, ?_⟩) HS5 ?_
              rotate_left
              · (intro w6 hS6; have z3 := Blk.cell hS6 3; simp only [List.getElem?_toArray, List.getElem?_cons_zero, List.getElem?_cons_succ] at z3; (try go_simp); (try with_reducible rfl))
              simp only [List.getElem_toArray, List.getElem_cons_zero, List.getElem_cons_succ, Act.put, List.setIfInBounds_toArray, List.set_cons_zero, List.set_cons_succ]
              refine wpAnyH_take (i := 3) (v := ?_) rfl (by kernel_rfl) (by kernel_rfl) (by kernel_rfl) (fun _ _ _ h => h) (Or.inl ⟨by rfl, ?_⟩) HS5 ?_
              rotate_left
              · (intro w6 hS6; have z3 := Blk.cell hS6 3; simp only [List.getElem?_toArray, List.getElem?_cons_zero, List.getElem?_cons_succ] at z3; (try go_simp); (try with_reducible rfl))
              simp only [List.getElem_toArray, List.getElem_cons_zero, List.getElem_cons_succ, Act.put, List.setIfInBounds_toArray, List.set_cons_zero, List.set_cons_succ]
              refine wpAnyH_take (i := 5) (v := ?_) rfl (by kernel_rfl) (by kernel_rfl) (by kernel_rfl) (fun _ _ _ h => h) (Or.inl ⟨by rfl, ?_⟩) HS5 ?_
              rotate_left
              · (intro w6 hS6; have z3 := Blk.cell hS6 3; simp only [List.getElem?_toArray, List.getElem?_cons_zero, List.getElem?_cons_succ] at z3; (try go_simp); (try with_reducible rfl))
              simp only [List.getElem_toArray, List.getElem_cons_zero, List.getElem_cons_succ, Act.put, List.setIfInBounds_toArray, List.set_cons_zero, List.set_cons_succ]
              refine wpAnyH_take (i := 6) (v := ?_) rfl (by kernel_rfl) (by kernel_rfl) (by kernel_rfl) (fun _ _ _ h => h) (Or.inl ⟨by rfl, ?_⟩) HS5 ?_
              rotate_left
              · (intro w6 hS6; have z3 := Blk.cell hS6 3; simp only [List.getElem?_toArray, List.getElem?_cons_zero, List.getElem?_cons_succ] at z3; (try go_simp); (try with_reducible rfl))
              simp only [List.getElem_toArray, List.getElem_cons_zero, List.getElem_cons_succ, Act.put, List.setIfInBounds_toArray, List.set_cons_zero, List.set_cons_succ]
              clear HS5
              refine wpAnyH_ready (rs := [4, 7]) (by kernel_rfl) (by simp) (AllReadyH.cons rfl (fun K hK => ?_) (AllReadyH.cons rfl (fun K hK => ?_) AllReadyH.nil))
              · simp only [List.getElem_toArray, List.getElem_cons_zero, List.getElem_cons_succ]
                have c0 := Fd91.out.bx.cell 7
                simp only [scells, List.getElem?_toArray, List.getElem?_cons_zero, List.getElem?_cons_succ] at c0
                go_simp
                clear c0
                refine hK.out _ _ (Fd91.out.gx) (fun hS => ?_)
                clear hK
                simp only [List.setIfInBounds_toArray, List.set_cons_zero, List.set_cons_succ]
                clear hS
                refine wpAnyH_ready (rs := [7]) (by kernel_rfl) (by simp) (AllReadyH.cons rfl (fun K hK => ?_) AllReadyH.nil)
                refine step_callx (by rfl) (by go_simp) (rdig8_any xco HMEM.out _) ?_
                intro vn93 wn93 hR
                have Fn93 := hid (Fd91.out.kp0 hR.2)
                have On93 := hid (hR.1.byt (P := Anyb) fun _ _ => trivial)
                clear hR Fd91
                refine hK.out _ _ (Fn93.out.gx) (fun hS => ?_)
                clear hK
                simp only [List.setIfInBounds_toArray, List.set_cons_zero, List.set_cons_succ, Act.put]
                clear hS
                refine wpAnyH_ready (rs := [8]) (by kernel_rfl) (by simp) (AllReadyH.cons rfl (fun K hK => ?_) AllReadyH.nil)
                refine step_app2 isU8 (by rfl) (.tmp 133) (.tmp 136) (by rfl) (base := q + 1) (xs := bod4 (ts.take j)) (ys := dg xco 8) (V3 3) vn93 (by rfl) (by rfl) Fn93.out.uo On93.out (by have h1 := HL2.out; simp only [dg_len]; omega) (by have := Fn93.out.bx.lt; omega) ?_
                intro un94 wn94 o8 k8 p8
                have Fn94 := hid (Fn93.out.app o8 k8 p8)
                obtain ⟨mn94, hmn⟩ : ∃ m, (bod4 (ts.take j) ++ dg xco 8).length = m := ⟨_, rfl⟩
                obtain ⟨An94, cn94, rfl⟩ := o8.formN hmn
                clear hmn
                clear o8 k8 p8 Fn93 On93
                refine hK.out _ _ (Fn94.out.gx) (fun hS => ?_)
                clear hK
                simp only [List.setIfInBounds_toArray, List.set_cons_zero, List.set_cons_succ, Act.put]
                refine wpAnyH_take (i := 9) (v := ?_) rfl (by kernel_rfl) (by kernel_rfl) (by kernel_rfl) (fun _ _ _ h => h) (Or.inl ⟨by rfl, ?_⟩) hS ?_
                rotate_left
                · (intro w6 hS6; have z3 := Blk.cell hS6 3; simp only [List.getElem?_toArray, List.getElem?_cons_zero, List.getElem?_cons_succ] at z3; (try go_simp); (try with_reducible rfl))
                simp only [List.getElem_toArray, List.getElem_cons_zero, List.getElem_cons_succ, Act.put, List.setIfInBounds_toArray, List.set_cons_zero, List.set_cons_succ]
                refine wpAnyH_take (i := 10) (v := ?_) rfl (by kernel_rfl) (by kernel_rfl) (by kernel_rfl) (fun _ _ _ h => h) (Or.inl ⟨by rfl, ?_⟩) hS ?_
                rotate_left
                · (intro w6 hS6; have z3 := Blk.cell hS6 3; simp only [List.getElem?_toArray, List.getElem?_cons_zero, List.getElem?_cons_succ] at z3; (try go_simp); (try with_reducible rfl))
                simp only [List.getElem_toArray, List.getElem_cons_zero, List.getElem_cons_succ, Act.put, List.setIfInBounds_toArray, List.set_cons_zero, List.set_cons_succ]
                clear hS
                refine wpAnyH_ready (rs := [11]) (by kernel_rfl) (by simp) (AllReadyH.cons rfl (fun K hK => ?_) AllReadyH.nil)
                simp only [List.getElem_toArray, List.getElem_cons_zero, List.getElem_cons_succ]
                have c0 := Fn94.out.bx.cell 7
                have f0 : wn94.frozen? ⟨q, 7, none⟩ = false := Fn94.out.bx.frozen 7
                simp only [scells, List.getElem?_toArray, List.getElem?_cons_zero, List.getElem?_cons_succ] at c0
                have Fz95 := hid Fn94.out.put
                go_simp
                generalize wn94.setCell ⟨q, 7, none⟩ (.slice An94 mn94 cn94) = wz95 at Fz95 ⊢
                clear c0 f0 Fn94
                refine hK.out _ _ (Fz95.out.gx) (fun hS => ?_)
                clear hK
                simp only [List.setIfInBounds_toArray, List.set_cons_zero, List.set_cons_succ]
                clear hS
                refine wpAnyH_done (by kernel_rfl) ?_ _
                have SX9 := hid (Fz95.out.sx)
                rw [X4_3] at SX9
                go_wp2_with fail
                go_roundw
                case rel => exact ⟨j + 1, _, by omega, by go_num, hid (by rw [H1.out, H2.out]; simpa [trow, crow, show dg (flg true) 1 = [1] from rfl] using SX9.out)⟩
                case measure => simp [vI]; omega
              · refine step_callx (by rfl) (by go_simp) (rdig8_any xco HMEM.out _) ?_
                intro vn96 wn96 hR
                have Fn96 := hid (Fd91.out.kp0 hR.2)
                have On96 := hid (hR.1.byt (P := Anyb) fun _ _ => trivial)
                clear hR Fd91
                refine hK.out _ _ (Fn96.out.gx) (fun hS => ?_)
                clear hK
                simp only [List.setIfInBounds_toArray, List.set_cons_zero, List.set_cons_succ, Act.put]
                clear hS
                refine wpAnyH_ready (rs := [4]) (by kernel_rfl) (by simp) (AllReadyH.cons rfl (fun K hK => ?_) AllReadyH.nil)
                simp only [List.getElem_toArray, List.getElem_cons_zero, List.getElem_cons_succ]
                have c0 := Fn96.out.bx.cell 7
                simp only [scells, List.getElem?_toArray, List.getElem?_cons_zero, List.getElem?_cons_succ] at c0
                go_simp
                clear c0
                refine hK.out _ _ (Fn96.out.gx) (fun hS => ?_)
                clear hK
                simp only [List.setIfInBounds_toArray, List.set_cons_zero, List.set_cons_succ]
                clear hS
                refine wpAnyH_ready (rs := [8]) (by kernel_rfl) (by simp) (AllReadyH.cons rfl (fun K hK => ?_) AllReadyH.nil)
                refine step_app2 isU8 (by rfl) (.tmp 133) (.tmp 136) (by rfl) (base := q + 1) (xs := bod4 (ts.take j)) (ys := dg xco 8) (V3 3) vn96 (by rfl) (by rfl) Fn96.out.uo On96.out (by have h1 := HL2.out; simp only [dg_len]; omega) (by have := Fn96.out.bx.lt; omega) ?_
                intro un98 wn98 o8 k8 p8
                have Fn98 := hid (Fn96.out.app o8 k8 p8)
                obtain ⟨mn98, hmn⟩ : ∃ m, (bod4 (ts.take j) ++ dg xco 8).length = m := ⟨_, rfl⟩
                obtain ⟨An98, cn98, rfl⟩ := o8.formN hmn
                clear hmn
                clear o8 k8 p8 Fn96 On96
                refine hK.out _ _ (Fn98.out.gx) (fun hS => ?_)
                clear hK
                simp only [List.setIfInBounds_toArray, List.set_cons_zero, List.set_cons_succ, Act.put]
                refine wpAnyH_take (i := 9) (v := ?_) rfl (by kernel_rfl) (by kernel_rfl) (by kernel_rfl) (fun _ _ _ h => h) (Or.inl ⟨by rfl, ?_⟩) hS ?_
                rotate_left
                · (intro w6 hS6; have z3 := Blk.cell hS6 3; simp only [List.getElem?_toArray, List.getElem?_cons_zero, List.getElem?_cons_succ] at z3; (try go_simp); (try with_reducible rfl))
                simp only [List.getElem_toArray, List.getElem_cons_zero, List.getElem_cons_succ, Act.put, List.setIfInBounds_toArray, List.set_cons_zero, List.set_cons_succ]
                refine wpAnyH_take (i := 10) (v := ?_) rfl (by kernel_rfl) (by kernel_rfl) (by kernel_rfl) (fun _ _ _ h => h) (Or.inl ⟨by rfl, ?_⟩) hS ?_
                rotate_left
                · (intro w6 hS6; have z3 := Blk.cell hS6 3; simp only [List.getElem?_toArray, List.getElem?_cons_zero, List.getElem?_cons_succ] at z3; (try go_simp); (try with_reducible rfl))
                simp only [List.getElem_toArray, List.getElem_cons_zero, List.getElem_cons_succ, Act.put, List.setIfInBounds_toArray, List.set_cons_zero, List.set_cons_succ]
                clear hS
                refine wpAnyH_ready (rs := [11]) (by kernel_rfl) (by simp) (AllReadyH.cons rfl (fun K hK => ?_) AllReadyH.nil)
                simp only [List.getElem_toArray, List.getElem_cons_zero, List.getElem_cons_succ]
                have c0 := Fn98.out.bx.cell 7
                have f0 : wn98.frozen? ⟨q, 7, none⟩ = false := Fn98.out.bx.frozen 7
                simp only [scells, List.getElem?_toArray, List.getElem?_cons_zero, List.getElem?_cons_succ] at c0
                have Fz99 := hid Fn98.out.put
                go_simp
                generalize wn98.setCell ⟨q, 7, none⟩ (.slice An98 mn98 cn98) = wz99 at Fz99 ⊢
                clear c0 f0 Fn98
                refine hK.out _ _ (Fz99.out.gx) (fun hS => ?_)
                clear hK
                simp only [List.setIfInBounds_toArray, List.set_cons_zero, List.set_cons_succ]
                clear hS
                refine wpAnyH_done (by kernel_rfl) ?_ _
                have SX9 := hid (Fz99.out.sx)
                rw [X4_3] at SX9
                go_wp2_with fail
                go_roundw
                case rel => exact ⟨j + 1, _, by omega, by go_num, hid (by rw [H1.out, H2.out]; simpa [trow, crow, show dg (flg true) 1 = [1] from rfl] using SX9.out)⟩
                case measure => simp [vI]; omega
          · have hjj : j = m := by omega
            subst hjj
            have hng : ¬ (j : Int) < (j : Int) := by omega
            have sx := SX.out
            rw [List.take_of_length_le (by rw [HM.out]; exact Nat.le_refl _)] at sx
            obtain ⟨ss, hss, hps⟩ := sx.ps
            have HSS := hid (show ss.map sn = secs gs ts from hss)
            have HK3 := hid sx.kp
            have HPK := hid (refpack_any hps)
            clear sx SX hss hps
            go_wp2_with fail
            refine HPK.out.mono ?_
            rintro e w4 ⟨k4, ⟨hC, u4, rfl, o4⟩ | ⟨y, hy, hy0, rfl⟩⟩
            · rw [HSS.out] at hC o4
              have K4 := hid (K2.out.trans (HK3.out.trans k4))
              have HCN := hid hC
              have O4 := hid (o4.lower (K2.out.trans HK3.out).size)
              clear hC o4 k4
              go_wp2_with fail
              go_ret2
              exact ⟨K4.out, .inl ⟨HX.out, HCN.out, _, rfl, O4.out⟩⟩
            · rw [HSS.out] at hy
              have K4 := hid (K2.out.trans (HK3.out.trans k4))
              have HY := hid hy
              have HY0 := hid hy0
              clear hy k4 hy0
              go_wp2_with fail
              go_ret2
              exact ⟨K4.out, .inr ⟨y, by unfold encE; rw [if_pos HX.out]; exact HY.out, HY0.out, rfl⟩⟩
  · have hne : (x != 0) = true := by rw [bne_iff_ne]; exact h0
    have H0 := hid h0
    clear h0
    go_enter Tryz.func8, Tryz.ntmps8
    go_upto_region 1 with fail
    clear hw1
    go_wp2_with (first
      | (go_at_call 17
         refine HC.out.mono ?_
         rintro e w2 ⟨rfl, k2⟩
         have K2 := hid (K1.out.trans k2)
         clear k2))
    go_ret2
    exact ⟨K2.out, .inr ⟨x, by unfold encE; rw [if_neg (by rw [HX.out]; exact H0.out)]; exact HX.out, H0.out, rfl⟩⟩
end Go.Proofs.YtggmdgdgljlddaaGreatDoor
