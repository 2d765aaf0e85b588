/-
  The walk of SceneMore.
-/
import Derived.Test.YtggmdgdgljlddaaGreatZMore
import Derived.Test.YtggmdgdgljlddaaGreatZSame
import Derived.Test.YtggmdgdgljlddaaGreatZOpen
import Derived.BigRegion
import Derived.Deep.DeepCutAuto
import Derived.Deep.RegionHeldLaw
import Derived.Test.YtggmdgdgljlddaaGreatTail
namespace Go.Proofs.YtggmdgdgljlddaaGreat
open Go.RowKit Go.Shelf

theorem check_is {w : World} {P : Nat → Prop} {v : Value} {gs : List GS} {ts : List TS} {c : Int} (h : Sce w P v gs ts) (hp : ∀ g ∈ gs, I64 g.id ∧ I64 g.par) (hpt : ∀ t ∈ ts, I64 t.gr) (hc : checkS gs ts = c) :
    Calls Tryz.prog 6 #[v] w fun e w' => e = .returned (.int .i64 c) ∧ Kp No w w' := by
  rw [← hc]
  exact zcheck_any h hp hpt
theorem few_is {w : World} {P : Nat → Prop} {v : Value} {gs : List GS} {ts : List TS} {q : Bool} (h : Sce w P v gs ts) (hq : few gs ts = q) :
    Calls Tryz.prog 5 #[v] w fun e w' => e = .returned (.bool q) ∧ Kp No w w' := by
  rw [← hq]
  exact zfew_any h
section
variable {P : Program} {α : Type} {n bytes : Nat} {z : Value} {f : α → Nat → Value} {t e : TypeId} {base : Nat} {xs ys : List α} {d : α} {v : Value} {w : World} {Pb : Nat → Prop}
theorem step_apps (u : Us P t e n bytes z) (hf : ∀ x i, (f x i).oneCell' = true) {ops : Array Oper} {o : Oper} {a : Act} {K : Act → World → Prop} {Q : Exit → Act → World → Prop} {E : Prop} (hgd : o.guard = none) (s x : Operand)
    (ho : o.op = .call { callee := .builtin .append, args := #[s, x], argTypes := #[t, t] }) (hv : a.eval s = v) {r : Value} (hr : a.eval x = r) (hown : Ow w base e n f v xs) (hx : Rw n f d w Pb r ys)
    (hle : (xs.length + ys.length) * bytes ≤ 140737488355328) (h63 : xs.length + ys.length ≤ maxLen) (hbase : base ≤ w.heap.size)
    (h : ∀ v' w', Ow w' base e n f v' (xs ++ ys) → w.grownBy w' v.ownBlock → K (a.put o.dst v') w') : if Region.wanted o (yielded ops a.tmps) = true then Oper.wp P o a w K Q else E := by
  have hw : Region.wanted o (yielded ops a.tmps) = true := by simp [Region.wanted, hgd]
  rw [if_pos hw]
  obtain ⟨v', w', hrun, h2, h3⟩ := run_apps (P := P) (ty := o.type) u hf w hown hx hle h63 hbase
  unfold Oper.wp execOp
  simp only [ho, resolve, invoke, builtin, Sem.run_bind, Sem.run_pure, Result.andThen_ok, List.map_toArray, List.map_cons, List.map_nil, hv, hr, hrun]
  exact h v' w' h2 h3
end
section
variable {P : Program} {Q : Exit → Act → World → Prop} {l : List Oper} {o : Oper}
theorem then_of {a : Act} {w : World} (h : wpList P (l ++ [o]).toArray Q [o] a w) : Then P Q l o .normal a w := by
  show wpOp P (l ++ [o]).toArray Q l.length (Q .normal) a w
  unfold wpOp
  rw [op_last]
  exact h
/-- A region that draws, whose last operation waits for all others: the others in whatever order, then the last one. -/
theorem region_last {id : Nat} {a : Act} {w : World} {full : List Oper} (n : Nat) (hn : full.drop n = [o]) (hm : P.follows .mixedOrders = true) (hT : lastB (full.take n) o = true)
    (h : wpAny P .any (full.take n).toArray (Then P Q (full.take n) o) (full.take n).length (Array.replicate (full.take n).length false) a w.drew) : (Code.region id full.toArray true).wp P Q a w := by
  have e : full = full.take n ++ [o] := by rw [← hn, List.take_append_drop]
  generalize full.take n = l at *
  subst e
  have hL := last_of hT
  refine wp_region_any hm ?_
  have h3 := hL.any _ _ _ _ (by simp) h
  have e2 : (Array.replicate l.length false).push false = Array.replicate (l ++ [o]).toArray.size false := by simp [Array.replicate_succ]
  rw [e2] at h3
  simpa using h3
variable {α : Type} {n bytes : Nat} {z : Value} {f : α → Nat → Value} {d : α}
/-- append of what reads as a list, telling where the answer lies. -/
theorem step_appl {t e : TypeId} (u : Us P t e n bytes z) (hf : ∀ x i, (f x i).oneCell' = true) {ops : Array Oper} {a : Act} {w : World} {K : Act → World → Prop} {E : Prop} (hgd : o.guard = none) (s x : Operand)
    (ho : o.op = .call { callee := .builtin .append, args := #[s, x], argTypes := #[t, t] }) {base : Nat} {xs ys : List α} {Pb : Nat → Prop} (v y : Value) (hv : a.eval s = v) (hy : a.eval x = y) (hown : Ow w base e n f v xs) (hx : Rw n f d w Pb y ys)
    (hle : (xs.length + ys.length) * bytes ≤ 140737488355328) (h63 : xs.length + ys.length ≤ maxLen) (hbase : base ≤ w.heap.size)
    (h : ∀ v' w', Ow w' base e n f v' (xs ++ ys) → w.grownBy w' v.ownBlock → (v'.ownBlock = v.ownBlock ∨ v'.ownBlock = some w.heap.size) → K (a.put o.dst v') w') : if Region.wanted o (yielded ops a.tmps) = true then Oper.wp P o a w K Q else E := by
  have hw : Region.wanted o (yielded ops a.tmps) = true := by simp [Region.wanted, hgd]
  rw [if_pos hw]
  have hrun : ∃ v' w', (Builtin.append_ #[t, t] o.type #[v, y]).run P w = .ok v' w' ∧ Ow w' base e n f v' (xs ++ ys) ∧ w.grownBy w' v.ownBlock ∧ (v'.ownBlock = v.ownBlock ∨ v'.ownBlock = some w.heap.size) := by
    obtain ⟨i, hi, hz, hs, hb⟩ := info_parts u.info
    obtain ⟨A, c, rfl, hc, hm, h⟩ := hx
    rcases A with _ | ad
    · have h0 : ys = [] := by
        rcases ys with _ | ⟨y, ys⟩
        · rfl
        · obtain ⟨b, o, h, _⟩ := h (by simp)
          cases h
      subst h0
      refine ⟨v, w, ?_, by simpa using hown, World.grownBy.refl w _, .inl rfl⟩
      rcases hown.2 with ⟨rfl, h0⟩ | ⟨g, cap, cur, rfl, _, _, hnc, _⟩
      · simp [Builtin.append_, run_underlying u.un, sizeOf, typeInfo, hi, Builtin.lenOf, Builtin.firstCells]
      · simp [Builtin.append_, run_underlying u.un, sizeOf, typeInfo, hi, Builtin.lenOf, Builtin.firstCells, hnc, storeCells]
    · have hcell : ∀ j q, (flat n f ys)[j]? = some q → w.cell? (ad.add j) = some q := by
        intro j q hq
        obtain ⟨k, i, hk, hi, rfl, rfl⟩ := flat_get (d := d) ys hq
        obtain ⟨b, o, he, _, _, hcell⟩ := h (by omega)
        cases he
        have ha : (⟨b, o, none⟩ : Addr).add (k * n + i) = ⟨b, o + (k * n + i), none⟩ := by unfold Addr.add; split <;> simp_all
        rw [ha, hcell k i hk hi]
      obtain ⟨v', w', hrun, h2, h3, _, h5⟩ := run_append_own_at (P := P) w base t o.type e i z n bytes u.un hi hz hs hb u.zero u.pos v xs.length _ hown ad ys.length c (flat n f ys) (flat_len ys) hcell
        (flat_one hf ys) h63 hle hbase
      refine ⟨v', w', hrun, ?_, h3, h5⟩
      unfold Ow
      rw [List.length_append, flat_app]
      exact h2
  obtain ⟨v', w', hrun, h2, h3, h4⟩ := hrun
  unfold Oper.wp execOp
  simp only [ho, resolve, invoke, builtin, Sem.run_bind, Sem.run_pure, Result.andThen_ok, List.map_toArray, List.map_cons, List.map_nil, hv, hy, hrun]
  exact h v' w' h2 h3 h4
end
/-- What is gathered in a row of the call's own, beside marked blocks. -/
structure Ga (w W : World) (v : Value) (xs : List TS) (M : List (Nat × TypeId × Array Value)) : Prop where
  kp : Kp No w W
  ow : Ow W w.heap.size 41 8 tc v xs
  mks : ∀ m ∈ M, Blk W m.1 m.2.1 m.2.2 ∧ w.heap.size ≤ m.1 ∧ v.ownBlock ≠ some m.1
section
variable {w W W' : World} {v v' : Value} {xs ys : List TS} {M : List (Nat × TypeId × Array Value)}
theorem Ga.start (w : World) : Ga w w (.slice none 0 0) [] [] := ⟨Kp.refl _ _, Ow.nil _ _ _ _ _, fun m h => by cases h⟩
theorem Ga.mark (h : Ga w W v xs M) (t : TypeId) (cs : Array Value) : Ga w (W.alloc (.cells cs t)) v xs ((W.heap.size, t, cs) :: M) :=
  ⟨h.kp.alloc _, h.ow.kp0 ((Kp.refl No W).alloc _), fun m hm => by
    rcases List.mem_cons.1 hm with rfl | hm
    · exact ⟨Blk.new W t cs, h.kp.size, fun e => by have := (h.ow.blk e).2.1; omega⟩
    · obtain ⟨h1, h2, h3⟩ := h.mks m hm
      exact ⟨h1.kp0 ((Kp.refl No W).alloc _), h2, h3⟩⟩
theorem Ga.mt (h : Ga w W v xs M) : Ga w (W.alloc (.cells #[] 41)) (.slice (some ⟨W.heap.size, 0, none⟩) 0 0) [] M :=
  ⟨h.kp.alloc _, Ow.mt W w.heap.size _ _ _ h.kp.size, fun m hm => by
    obtain ⟨h1, h2, h3⟩ := h.mks m hm
    refine ⟨h1.kp0 ((Kp.refl No W).alloc _), h2, fun e => ?_⟩
    have e : some W.heap.size = some m.1 := e
    injection e with e
    have := h1.lt
    omega⟩
theorem Ga.app (h : Ga w W v xs M) (o : Ow W' w.heap.size 41 8 tc v' ys) (g : W.grownBy W' v.ownBlock) (p : v'.ownBlock = v.ownBlock ∨ v'.ownBlock = some W.heap.size) : Ga w W' v' ys M := by
  have k := (Kp.refl (fun i => v.ownBlock = some i) _).grown g fun k hk => .inl hk
  refine ⟨h.kp.step k fun i hi e => by have := (h.ow.blk e).1; omega, o, fun m hm => ?_⟩
  obtain ⟨h1, h2, h3⟩ := h.mks m hm
  refine ⟨h1.kp k fun e => h3 e, h2, ?_⟩
  rcases p with p | p
  · rw [p]; exact h3
  · rw [p]
    intro e
    injection e with e
    have := h1.lt
    omega
theorem Ga.kp0 (h : Ga w W v xs M) (k : Kp No W W') : Ga w W' v xs M := ⟨h.kp.trans k, h.ow.kp0 k, fun m hm => ⟨(h.mks m hm).1.kp0 k, (h.mks m hm).2⟩⟩
/-- A box with a scene of ours. -/
structure Bx (w W : World) (b : Nat) (vg v : Value) (xs : List TS) : Prop where
  kp : Kp No w W
  bx : Blk W b 25 #[vg, v]
  ow : Ow W w.heap.size 41 8 tc v xs
  lb : w.heap.size ≤ b
  ne : v.ownBlock ≠ some b
theorem Ga.fin (h : Ga w W v xs M) {b : Nat} {c0 c1 : Value} (hm : (b, 25, #[c0, c1]) ∈ M) (vg : Value) : Bx w ((W.setCell ⟨b, 0, none⟩ vg).setCell ⟨b, 1, none⟩ v) b vg v xs := by
  obtain ⟨h1, h2, h3⟩ := h.mks _ hm
  have kS := (Kp.set1 b 0 W vg).setCell (p := ⟨b, 1, none⟩) (.inl rfl) v
  refine ⟨h.kp.step kS fun i hi e => by have e : i = b := e; have h2 : w.heap.size ≤ b := h2; omega, (h1.put 0 vg).put 1 v, h.ow.kpx kS fun i hi e => ?_, h2, h3⟩
  have e : i = b := e
  subst e
  exact h3 hi
end
set_option maxRecDepth 100000 in
set_option maxHeartbeats 16000000 in
theorem sceneMore_walk (w : World) (wh wt co : Int) {v : Value} {gs : List GS} {ts : List TS} (h : SnI w v gs ts) (hwh : 0 ≤ wh ∧ wh ≤ 255) (hwt : 0 ≤ wt ∧ wt ≤ 65535) (hco : 0 ≤ co ∧ co ≤ 18446744073709551615) :
    Calls Tryz.prog 3 #[v, .int .u8 wh, .int .u16 wt, .int .u64 co] w fun e w' => e = .returned (.bool true) ∧ Kp No w w' := by
  obtain ⟨hS, hGI, hTI⟩ := h
  obtain ⟨vg, vt, rfl, hg, ht⟩ := id hS
  have hp : ∀ g ∈ gs, I64 g.id ∧ I64 g.par := fun g hg => ⟨(hGI g hg).id, (hGI g hg).par⟩
  have hpt : ∀ t ∈ ts, I64 t.gr := fun t ht => (hTI t ht).gr
  have k0 := (Kp.refl No w).alloc (.cells #[vg, vt] 25)
  have b0 := Blk.new w 25 #[vg, vt]
  obtain ⟨w0, hw0⟩ : ∃ w0, w.alloc (.cells #[vg, vt] 25) = w0 := ⟨_, rfl⟩
  rw [hw0] at k0 b0
  have s0 := b0.cell 0
  have s1 := b0.cell 1
  simp only [List.getElem?_toArray, List.getElem?_cons_zero, List.getElem?_cons_succ] at s0 s1
  have K0 := hid k0
  have B0 := hid b0
  have HS := hid (hS.kp0 k0)
  obtain ⟨fb, hfb⟩ : ∃ fb, few gs ts = fb := ⟨_, rfl⟩
  obtain ⟨ce, hce⟩ : ∃ ce, checkS gs ts = ce := ⟨_, rfl⟩
  have HF := hid (fun (W : World) (k : Kp No w0 W) => few_is (HS.out.kp0 k) hfb)
  have HC := hid (fun (W : World) (k : Kp No w0 W) => check_is (HS.out.kp0 k) hp hpt hce)
  have HCE := hid hce
  have HFB := hid hfb
  have HP := hid hp
  have HG := hid (hg.kp0 k0)
  have HT := hid (ht.kp0 k0)
  have HPT := hid hpt
  obtain ⟨A, c, rfl, _⟩ := hg
  obtain ⟨A2, c2, rfl, _⟩ := ht
  obtain ⟨n, hn⟩ : ∃ n, gs.length = n := ⟨_, rfl⟩
  obtain ⟨m, hm⟩ : ∃ m, ts.length = m := ⟨_, rfl⟩
  rw [hn] at HS HF HC HG s0 hw0 B0 ⊢
  rw [hm] at HS HF HC HT s1 hw0 B0 ⊢
  have HN := hid hn
  have HM := hid hm
  clear hS hGI hTI hp hpt k0 b0 hfb hce hn hm
  cases fb
  · go_enter Tryz.func3, Tryz.ntmps3
    go_upto_region 1 with fail
    clear hw0
    go_wp2_with (first
      | (go_at_call 4
         with_reducible refine (zawake_any w0).mono ?_
         rintro e w1 ⟨rfl, k1⟩
         have K1 := hid k1
         have B1 := B0.out.kp0 k1
         have s10 := B1.cell 0
         have s11 := B1.cell 1
         simp only [List.getElem?_toArray, List.getElem?_cons_zero, List.getElem?_cons_succ] at s10 s11
         clear k1 B1)
      | (go_at_call 5
         with_reducible refine (HF.out _ K1.out).mono ?_
         rintro e w2 ⟨rfl, k2⟩
         have K2 := hid (K1.out.trans k2)
         have B2 := B0.out.kp0 (K1.out.trans k2)
         have s20 := B2.cell 0
         have s21 := B2.cell 1
         simp only [List.getElem?_toArray, List.getElem?_cons_zero, List.getElem?_cons_succ] at s20 s21
         clear k2 B2)
      | (go_at_call 6
         with_reducible refine (HC.out _ K2.out).mono ?_
         rintro e w3 ⟨rfl, k3⟩
         have K3 := hid (K2.out.trans k3)
         have B3 := B0.out.kp0 (K2.out.trans k3)
         have s30 := B3.cell 0
         have s31 := B3.cell 1
         simp only [List.getElem?_toArray, List.getElem?_cons_zero, List.getElem?_cons_succ] at s30 s31
         clear k3 B3))
    go_ret
    exact ⟨rfl, K0.out.trans K3.out⟩
  · by_cases hc0 : ce = 0
    · subst hc0
      have hfw := HFB.out
      unfold few at hfw
      rw [Bool.and_eq_true, decide_eq_true_eq, decide_eq_true_eq, HN.out, HM.out] at hfw
      have hfw1 := hfw.1
      have hfw2 := hfw.2
      obtain ⟨m1, m2, _, _, hn0⟩ := ok_sm HCE.out
      rw [HN.out] at hn0
      obtain ⟨wn, rfl⟩ : ∃ wn : Nat, wh = (wn : Int) := ⟨wh.toNat, by omega⟩
      obtain ⟨j, hj⟩ : ∃ j, wn % n = j := ⟨_, rfl⟩
      have hjn : j < n := by rw [← hj]; exact Nat.mod_lt _ hn0
      have hs3 : (wn : Int).tmod (n : Int) = (j : Int) := by rw [← hj]; rfl
      have hs5 : n ≠ 0 := by omega
      obtain ⟨g, hg⟩ : ∃ g, gs.getD j gs0 = g := ⟨_, rfl⟩
      have hgm : g ∈ gs := by rw [← hg]; simp [List.getD, HN.out, hjn]
      have HGM := hid (show g.id ∈ gs.map (·.id) from List.mem_map.2 ⟨g, hgm, rfl⟩)
      obtain ⟨b, off, hA⟩ := HG.out.there (by rw [HN.out]; omega)
      subst hA
      have hq := HG.out.cell (j := j) (i := 0) (Kp.refl No _) (by rw [HN.out]; exact hjn) (by omega) rfl
      rw [hg] at hq
      obtain ⟨gid, hgid⟩ : ∃ gid, g.id = gid := ⟨_, rfl⟩
      rw [hgid] at HGM
      simp only [gc, ge, List.getD_cons_zero, Nat.add_zero, hgid] at hq
      have HQ := hid (fun (W : World) (k : Kp No w0 W) => (k.cell (p := ⟨b, off + j * 6, none⟩) (World.block_lt_of_cell? w0 _ hq) fun e => e).trans hq)
      have HIDS := hid (fun x (hx : x ∈ idsOf gs ts) => show Sm x by
        rcases List.mem_append.1 hx with hx | hx
        · obtain ⟨g, hg, rfl⟩ := List.mem_map.1 hx
          exact (m1 g hg).1
        · obtain ⟨t, ht, rfl⟩ := List.mem_map.1 hx
          exact (m2 t ht).1)
      have HI := hid (fun (W : World) (k : Kp No w0 W) => ids_any (HS.out.kp0 k) (by rw [HN.out]; omega) (by rw [HM.out]; omega))
      obtain ⟨L, hL⟩ : ∃ L, (idsOf gs ts).length = L := ⟨_, rfl⟩
      have hLl : L ≤ 60 := by
        rw [← hL]
        unfold idsOf
        rw [List.length_append, List.length_map, List.length_map, HN.out, HM.out]
        omega
      have HL := hid hL
      have hwn := wrapI (x := (wn : Int)) (by unfold I64; omega)
      have hwj := wrapI (x := (j : Int)) (by unfold I64; omega)
      have hwwt := wrapI (x := wt) (by unfold I64; omega)
      have hw1t := wrapI (x := 1 + wt) (by unfold I64; omega)
      clear hfw m1 m2 hj hg hgm hgid hq hL
      go_enter Tryz.func3, Tryz.ntmps3
      go_upto_region 1 with fail
      clear hw0
      go_upto_region 8 with (first
        | (go_at_call 4
           with_reducible refine (zawake_any w0).mono ?_
           rintro e w1 ⟨rfl, k1⟩
           have K1 := hid k1
           have B1 := B0.out.kp0 k1
           have s10 := B1.cell 0
           have s11 := B1.cell 1
           simp only [List.getElem?_toArray, List.getElem?_cons_zero, List.getElem?_cons_succ] at s10 s11
           clear k1 B1)
        | (go_at_call 5
           with_reducible refine (HF.out _ K1.out).mono ?_
           rintro e w2 ⟨rfl, k2⟩
           have K2 := hid (K1.out.trans k2)
           have B2 := B0.out.kp0 (K1.out.trans k2)
           have s20 := B2.cell 0
           have s21 := B2.cell 1
           simp only [List.getElem?_toArray, List.getElem?_cons_zero, List.getElem?_cons_succ] at s20 s21
           clear k2 B2)
        | (go_at_call 6
           with_reducible refine (HC.out _ K2.out).mono ?_
           rintro e w3 ⟨rfl, k3⟩
           have K3 := hid (K2.out.trans k3)
           have B3 := B0.out.kp0 (K2.out.trans k3)
           have s30 := B3.cell 0
           have s31 := B3.cell 1
           simp only [List.getElem?_toArray, List.getElem?_cons_zero, List.getElem?_cons_succ] at s30 s31
           clear k3 B3)
        | (go_at_call 7
           with_reducible refine (HI.out _ K3.out).mono ?_
           rintro e w4 ⟨u4, rfl, o4, k4⟩
           have K4 := hid (K3.out.trans k4)
           obtain ⟨A4, c4, rfl⟩ := o4.formN HL.out
           have O4 := hid o4
           clear o4 k4))
      go_wp2_with fail
      go_loopw [12, 14] (fun u i wr => ∃ (k : Nat) (T : Int), k ≤ L ∧ i = .int .i64 (k : Int) ∧ u = .int .i64 T ∧ Hid (T = ((idsOf gs ts).take k).foldl max 0) ∧ Hid (0 ≤ T ∧ T ≤ 1048576) ∧ Hid (Kp No w4 wr)) (fun _ i _ => L - (vI i).toNat)
      case atStart => exact ⟨0, 0, Nat.zero_le _, rfl, rfl, hid rfl, hid (by omega), hid (Kp.refl _ _)⟩
      case round =>
        obtain ⟨k, T, hk, rfl, rfl, HTT, HTB, KW⟩ := hrel
        by_cases hkn : k < L
        · have hkl : k < (idsOf gs ts).length := by rw [HL.out]; exact hkn
          have Ov := O4.out.kp0 KW.out
          obtain ⟨b4, c4', he, hb1, hb2, hc1, _⟩ := Ov.form2 (by omega)
          injection he with e1 e2 e3
          subst e1 e3
          clear e2
          have c0 := Ov.cellAt (d := (0 : Int)) (i := 0) hkl (by omega)
          rw [Nat.mul_one, Nat.add_zero] at c0
          have HTS := hid (take_s (idsOf gs ts) hkl (0 : Int))
          have HYM := hid (HIDS.out ((idsOf gs ts).getD k 0) (by simp [List.getD, hkl]))
          obtain ⟨y, hy⟩ : ∃ y, (idsOf gs ts).getD k 0 = y := ⟨_, rfl⟩
          rw [hy] at c0 HTS HYM
          simp only [zI] at c0
          have hwk := wrapI (x := (k : Int) + 1) (by unfold I64; omega)
          have hg1 : (k : Int) < (L : Int) := by omega
          obtain ⟨T2, hT2⟩ : ∃ T2, max T y = T2 := ⟨_, rfl⟩
          have HT2 := hid (show T2 = ((idsOf gs ts).take (k + 1)).foldl max 0 by rw [HTS.out, List.foldl_append, ← HTT.out, ← hT2]; rfl)
          have HB2 := hid (show 0 ≤ T2 ∧ T2 ≤ 1048576 by have h1 := HTB.out; have h2 := HYM.out; unfold Sm at h2; omega)
          clear Ov hy
          go_wp2_with fail
          go_roundw
          case rel => exact ⟨k + 1, T2, by omega, by go_num, rfl, HT2, HB2, KW⟩
          case measure => simp [vI]; omega
        · have hkk : k = L := by omega
          subst hkk
          have hng : ¬ (k : Int) < (k : Int) := by omega
          have hT0 := HTT.out
          rw [List.take_of_length_le (by rw [HL.out]; omega)] at hT0
          have HMAX := hid (fun x (hx : x ∈ idsOf gs ts) => show x ≤ T by rw [hT0]; exact (fold_max (idsOf gs ts) 0).2.2 x hx)
          have KL := hid (K4.out.trans KW.out)
          have BL := B0.out.kp0 KL.out
          have sL0 := BL.cell 0
          have sL1 := BL.cell 1
          simp only [List.getElem?_toArray, List.getElem?_cons_zero, List.getElem?_cons_succ] at sL0 sL1
          have qL := HQ.out wr KL.out
          have hTl := HTB.out.1
          have hTh := HTB.out.2
          have hwT := wrapI (x := T + 1) (by unfold I64; omega)
          have hwT2 := wrapI (x := T + 2) (by unfold I64; omega)
          have kz := (Kp.refl No wr).alloc (.cells #[.int .i64 0, .int .i64 0, .int .i64 0, .int .u64 0, .bool false, .int .i64 0, .int .i64 0, .int .i64 0] 41)
          have BZ := (B0.out.kp0 KL.out).kp0 kz
          have sz0 := BZ.cell 0
          simp only [List.getElem?_toArray, List.getElem?_cons_zero] at sz0
          have qz := HQ.out _ (KL.out.trans kz)
          clear hT0 BL BZ kz HTT
          go_upto_region 12 with fail
          go_region
          have k5 := ((Kp.refl No wr).alloc (.cells #[.int .i64 (T + 1), .int .i64 (gid), .int .i64 (1 + wt), .int .u64 co, .bool false, .int .i64 0, .int .i64 0, .int .i64 0] 41)).drew
          have x5 := (Blk.new wr 41 #[.int .i64 (T + 1), .int .i64 (gid), .int .i64 (1 + wt), .int .u64 co, .bool false, .int .i64 0, .int .i64 0, .int .i64 0]).kp0 (Kp.refl No _).drew
          obtain ⟨xb, hxb⟩ : ∃ b, wr.heap.size = b := ⟨_, rfl⟩
          obtain ⟨w5, hw5⟩ : ∃ w5, (wr.alloc (.cells #[.int .i64 (T + 1), .int .i64 (gid), .int .i64 (1 + wt), .int .u64 co, .bool false, .int .i64 0, .int .i64 0, .int .i64 0] 41)).drew = w5 := ⟨_, rfl⟩
          rw [hw5] at k5 x5 ⊢
          have HXN := hid (show w0.heap.size ≤ xb by rw [← hxb]; exact KL.out.size)
          rw [hxb] at x5 ⊢
          have B5 := hid (B0.out.kp0 (KL.out.trans k5))
          have X5 := hid x5
          have KL5 := hid (KL.out.trans k5)
          have HRD := hid (fun (W : World) (k : Kp No w5 W) => show Blk W w.heap.size 25 #[.slice (some ⟨b, off, none⟩) n c, .slice A2 m c2] ∧ Blk W xb 41 #[.int .i64 (T + 1), .int .i64 (gid), .int .i64 (1 + wt), .int .u64 co, .bool false, .int .i64 0, .int .i64 0, .int .i64 0] from ⟨B5.out.kp0 k, X5.out.kp0 k⟩)
          clear hw5 hxb k5 x5 sL0 sL1 qL sz0 qz
          go_wp2_with fail
          go_upto_region 13 with fail
          go_cut [16] (fun s wx => ∃ (q1 : Nat) (A1 : Option Addr) (c1 : Nat), s = .pointer (some ⟨q1, 0, none⟩) ∧ Hid (Bx w5 wx q1 (.slice (some ⟨b, off, none⟩) n c) (.slice A1 (m + 1) c1) (([] ++ ts) ++ [(⟨T + 1, gid, 1 + wt, co, false, 0, 0, 0⟩ : TS)])))
          case first =>
            refine region_last 11 rfl (by kernel_rfl) (by kernel_rfl) ?_
            simp only [List.take_succ_cons, List.take_zero, List.length_cons, List.length_nil, Nat.reduceAdd]
            have Fd1 := hid ((Ga.start w5).kp0 (Kp.refl No w5).drew)
            generalize World.drew w5 = Wd1 at Fd1 ⊢
            have HS5 := HRD.out _ Fd1.out.kp
            refine wpAny_of_held (S := (fun w' => Blk w' w.heap.size 25 #[.slice (some ⟨b, off, none⟩) n c, .slice A2 m c2] ∧ Blk w' xb 41 #[.int .i64 (T + 1), .int .i64 (gid), .int .i64 (1 + wt), .int .u64 co, .bool false, .int .i64 0, .int .i64 0, .int .i64 0])) _ _ _ _ ?_
            simp only [Array.replicate_succ, Array.replicate_zero, List.push_toArray, List.nil_append, List.cons_append]
            refine wpAnyH_take (i := 0) (v := ?_) rfl (by kernel_rfl) (by kernel_rfl) (by kernel_rfl) (fun _ _ _ h => h) (Or.inl ⟨by rfl, ?_⟩) HS5 ?_
            rotate_left
            · (intro w6 hS6; obtain ⟨hB6, hX6⟩ := hS6; have z0 := hB6.cell 0; have z1 := hB6.cell 1; have y0 := hX6.cell 0; have y1 := hX6.cell 1; have y2 := hX6.cell 2; have y3 := hX6.cell 3; have y4 := hX6.cell 4; have y5 := hX6.cell 5; have y6 := hX6.cell 6; have y7 := hX6.cell 7; simp only [List.getElem?_toArray, List.getElem?_cons_zero, List.getElem?_cons_succ] at z0 z1 y0 y1 y2 y3 y4 y5 y6 y7; (try go_simp); (try with_reducible rfl))
            simp only [List.getElem_toArray, List.getElem_cons_zero, Act.put, List.setIfInBounds_toArray, List.set_cons_zero, List.set_cons_succ]
            refine wpAnyH_take (i := 1) (v := ?_) rfl (by kernel_rfl) (by kernel_rfl) (by kernel_rfl) (fun _ _ _ h => h) (Or.inl ⟨by rfl, ?_⟩) HS5 ?_
            rotate_left
            · (intro w6 hS6; obtain ⟨hB6, hX6⟩ := hS6; have z0 := hB6.cell 0; have z1 := hB6.cell 1; have y0 := hX6.cell 0; have y1 := hX6.cell 1; have y2 := hX6.cell 2; have y3 := hX6.cell 3; have y4 := hX6.cell 4; have y5 := hX6.cell 5; have y6 := hX6.cell 6; have y7 := hX6.cell 7; simp only [List.getElem?_toArray, List.getElem?_cons_zero, List.getElem?_cons_succ] at z0 z1 y0 y1 y2 y3 y4 y5 y6 y7; (try go_simp); (try with_reducible rfl))
            simp only [List.getElem_toArray, List.getElem_cons_zero, List.getElem_cons_succ, Act.put, List.setIfInBounds_toArray, List.set_cons_zero, List.set_cons_succ]
            refine wpAnyH_take (i := 3) (v := ?_) rfl (by kernel_rfl) (by kernel_rfl) (by kernel_rfl) (fun _ _ _ h => h) (Or.inl ⟨by rfl, ?_⟩) HS5 ?_
            rotate_left
            · (intro w6 hS6; obtain ⟨hB6, hX6⟩ := hS6; have z0 := hB6.cell 0; have z1 := hB6.cell 1; have y0 := hX6.cell 0; have y1 := hX6.cell 1; have y2 := hX6.cell 2; have y3 := hX6.cell 3; have y4 := hX6.cell 4; have y5 := hX6.cell 5; have y6 := hX6.cell 6; have y7 := hX6.cell 7; simp only [List.getElem?_toArray, List.getElem?_cons_zero, List.getElem?_cons_succ] at z0 z1 y0 y1 y2 y3 y4 y5 y6 y7; (try go_simp); (try with_reducible rfl))
            simp only [List.getElem_toArray, List.getElem_cons_zero, List.getElem_cons_succ, Act.put, List.setIfInBounds_toArray, List.set_cons_zero, List.set_cons_succ]
            refine wpAnyH_take (i := 4) (v := ?_) rfl (by kernel_rfl) (by kernel_rfl) (by kernel_rfl) (fun _ _ _ h => h) (Or.inl ⟨by rfl, ?_⟩) HS5 ?_
            rotate_left
            · (intro w6 hS6; obtain ⟨hB6, hX6⟩ := hS6; have z0 := hB6.cell 0; have z1 := hB6.cell 1; have y0 := hX6.cell 0; have y1 := hX6.cell 1; have y2 := hX6.cell 2; have y3 := hX6.cell 3; have y4 := hX6.cell 4; have y5 := hX6.cell 5; have y6 := hX6.cell 6; have y7 := hX6.cell 7; simp only [List.getElem?_toArray, List.getElem?_cons_zero, List.getElem?_cons_succ] at z0 z1 y0 y1 y2 y3 y4 y5 y6 y7; (try go_simp); (try with_reducible rfl))
            simp only [List.getElem_toArray, List.getElem_cons_zero, List.getElem_cons_succ, Act.put, List.setIfInBounds_toArray, List.set_cons_zero, List.set_cons_succ]
            refine wpAnyH_take (i := 6) (v := ?_) rfl (by kernel_rfl) (by kernel_rfl) (by kernel_rfl) (fun _ _ _ h => h) (Or.inl ⟨by rfl, ?_⟩) HS5 ?_
            rotate_left
            · (intro w6 hS6; obtain ⟨hB6, hX6⟩ := hS6; have z0 := hB6.cell 0; have z1 := hB6.cell 1; have y0 := hX6.cell 0; have y1 := hX6.cell 1; have y2 := hX6.cell 2; have y3 := hX6.cell 3; have y4 := hX6.cell 4; have y5 := hX6.cell 5; have y6 := hX6.cell 6; have y7 := hX6.cell 7; simp only [List.getElem?_toArray, List.getElem?_cons_zero, List.getElem?_cons_succ] at z0 z1 y0 y1 y2 y3 y4 y5 y6 y7; (try go_simp); (try with_reducible rfl))
            simp only [List.getElem_toArray, List.getElem_cons_zero, List.getElem_cons_succ, Act.put, List.setIfInBounds_toArray, List.set_cons_zero, List.set_cons_succ]
            clear HS5
            refine wpAnyH_ready (rs := [2, 7, 10]) (by kernel_rfl) (by simp) (AllReadyH.cons rfl (fun K hK => ?_) (AllReadyH.cons rfl (fun K hK => ?_) (AllReadyH.cons rfl (fun K hK => ?_) AllReadyH.nil)))
            · simp only [List.getElem_toArray, List.getElem_cons_zero, List.getElem_cons_succ]
              go_simp
              have Fn2 := hid Fd1.out.mt
              obtain ⟨be2, hbe⟩ : ∃ b, Wd1.heap.size = b := ⟨_, rfl⟩
              rw [hbe] at Fn2 ⊢
              generalize Wd1.alloc (.cells #[] 41) = wn2 at Fn2 ⊢
              clear hbe Fd1
              refine hK.out _ _ (HRD.out _ Fn2.out.kp) (fun hS => ?_)
              clear hK
              simp only [List.setIfInBounds_toArray, List.set_cons_zero, List.set_cons_succ]
              clear hS
              refine wpAnyH_ready (rs := [5, 7, 10]) (by kernel_rfl) (by simp) (AllReadyH.cons rfl (fun K hK => ?_) (AllReadyH.cons rfl (fun K hK => ?_) (AllReadyH.cons rfl (fun K hK => ?_) AllReadyH.nil)))
              · refine step_appl usT tc_one (by rfl) (.tmp 67) (.tmp 69) (by rfl) (.slice (some ⟨be2, 0, none⟩) 0 0) (.slice A2 m c2) (by rfl) (by rfl) Fn2.out.ow (HT.out.kp0 (KL5.out.trans Fn2.out.kp)) (by rw [HM.out]; simp; omega) (by rw [HM.out]; simp [maxLen]; omega) Fn2.out.kp.size ?_
                intro va3 wn3 o8 g8 p8
                have Fn3 := hid (Fn2.out.app o8 g8 p8)
                clear o8 g8 p8 Fn2
                refine hK.out _ _ (HRD.out _ Fn3.out.kp) (fun hS => ?_)
                clear hK
                simp only [List.setIfInBounds_toArray, List.set_cons_zero, List.set_cons_succ, Act.put]
                clear hS
                refine wpAnyH_ready (rs := [7, 10]) (by kernel_rfl) (by simp) (AllReadyH.cons rfl (fun K hK => ?_) (AllReadyH.cons rfl (fun K hK => ?_) AllReadyH.nil))
                · simp only [List.getElem_toArray, List.getElem_cons_zero, List.getElem_cons_succ]
                  go_simp
                  have Fn4 := hid (Fn3.out.mark 41 #[.int .i64 (T + 1), .int .i64 (gid), .int .i64 (1 + wt), .int .u64 co, .bool false, .int .i64 0, .int .i64 0, .int .i64 0])
                  obtain ⟨bu4, hbe⟩ : ∃ b, wn3.heap.size = b := ⟨_, rfl⟩
                  rw [hbe] at Fn4 ⊢
                  generalize wn3.alloc (.cells #[.int .i64 (T + 1), .int .i64 (gid), .int .i64 (1 + wt), .int .u64 co, .bool false, .int .i64 0, .int .i64 0, .int .i64 0] 41) = wn4 at Fn4 ⊢
                  clear hbe Fn3
                  refine hK.out _ _ (HRD.out _ Fn4.out.kp) (fun hS => ?_)
                  clear hK
                  simp only [List.setIfInBounds_toArray, List.set_cons_zero, List.set_cons_succ]
                  clear hS
                  refine wpAnyH_ready (rs := [8, 10]) (by kernel_rfl) (by simp) (AllReadyH.cons rfl (fun K hK => ?_) (AllReadyH.cons rfl (fun K hK => ?_) AllReadyH.nil))
                  · have hmU := (Fn4.out.mks (bu4, 41, #[.int .i64 (T + 1), .int .i64 (gid), .int .i64 (1 + wt), .int .u64 co, .bool false, .int .i64 0, .int .i64 0, .int .i64 0]) (by simp)).1
                    refine step_app1 usT tc_one (by rfl) (.tmp 70) (.tmp 72) (by rfl) (base := w5.heap.size) (xs := ([] ++ ts)) (y := (⟨T + 1, gid, 1 + wt, co, false, 0, 0, 0⟩ : TS)) (by rfl) (by exact Fn4.out.ow) (by rfl) (fun i hi => by
                        match i, hi with
                        | 0, _ => exact hmU.cell 0
                        | 1, _ => exact hmU.cell 1
                        | 2, _ => exact hmU.cell 2
                        | 3, _ => exact hmU.cell 3
                        | 4, _ => exact hmU.cell 4
                        | 5, _ => exact hmU.cell 5
                        | 6, _ => exact hmU.cell 6
                        | 7, _ => exact hmU.cell 7) (by rw [List.nil_append, HM.out]; omega) (by rw [List.nil_append, HM.out]; simp only [maxLen]; omega) (by exact Fn4.out.kp.size) ?_
                    intro vp5 wn5 o8 g8 p8
                    obtain ⟨Ap5, cp5, rfl⟩ := o8.formN (m := m + 1) (by rw [List.nil_append, List.length_append, HM.out]; rfl)
                    have Fn5 := hid (Fn4.out.app o8 g8 p8)
                    clear o8 g8 p8 hmU Fn4
                    refine hK.out _ _ (HRD.out _ Fn5.out.kp) (fun hS => ?_)
                    clear hK
                    simp only [List.setIfInBounds_toArray, List.set_cons_zero, List.set_cons_succ, Act.put]
                    refine wpAnyH_take (i := 9) (v := ?_) rfl (by kernel_rfl) (by kernel_rfl) (by kernel_rfl) (fun _ _ _ h => h) (Or.inl ⟨by rfl, ?_⟩) hS ?_
                    rotate_left
                    · (intro w6 hS6; obtain ⟨hB6, hX6⟩ := hS6; have z0 := hB6.cell 0; have z1 := hB6.cell 1; have y0 := hX6.cell 0; have y1 := hX6.cell 1; have y2 := hX6.cell 2; have y3 := hX6.cell 3; have y4 := hX6.cell 4; have y5 := hX6.cell 5; have y6 := hX6.cell 6; have y7 := hX6.cell 7; simp only [List.getElem?_toArray, List.getElem?_cons_zero, List.getElem?_cons_succ] at z0 z1 y0 y1 y2 y3 y4 y5 y6 y7; (try go_simp); (try with_reducible rfl))
                    simp only [List.getElem_toArray, List.getElem_cons_zero, List.getElem_cons_succ, Act.put, List.setIfInBounds_toArray, List.set_cons_zero, List.set_cons_succ]
                    clear hS
                    refine wpAnyH_ready (rs := [10]) (by kernel_rfl) (by simp) (AllReadyH.cons rfl (fun K hK => ?_) AllReadyH.nil)
                    simp only [List.getElem_toArray, List.getElem_cons_zero, List.getElem_cons_succ]
                    go_simp
                    have Fn6 := hid (Fn5.out.mark 25 #[.slice none 0 0, .slice none 0 0])
                    obtain ⟨bc6, hbe⟩ : ∃ b, wn5.heap.size = b := ⟨_, rfl⟩
                    rw [hbe] at Fn6 ⊢
                    generalize wn5.alloc (.cells #[.slice none 0 0, .slice none 0 0] 25) = wn6 at Fn6 ⊢
                    clear hbe Fn5
                    refine hK.out _ _ (HRD.out _ Fn6.out.kp) (fun hS => ?_)
                    clear hK
                    simp only [List.setIfInBounds_toArray, List.set_cons_zero, List.set_cons_succ]
                    clear hS
                    refine wpAnyH_done (by kernel_rfl) ?_ _
                    refine then_of ?_
                    simp only [List.cons_append, List.nil_append]
                    have hmC := (Fn6.out.mks (bc6, 25, #[.slice none 0 0, .slice none 0 0]) (by simp)).1
                    have c0 := hmC.cell 0
                    have c1 := hmC.cell 1
                    have f0 := hmC.frozen 0
                    have f1 := hmC.frozen 1
                    simp only [List.getElem?_toArray, List.getElem?_cons_zero, List.getElem?_cons_succ] at c0 c1
                    have FB := hid (Fn6.out.fin (b := bc6) (c0 := .slice none 0 0) (c1 := .slice none 0 0) (by simp) (.slice (some ⟨b, off, none⟩) n c))
                    clear hmC Fn6
                    go_wp2_with fail
                    go_meet
                    exact ⟨_, _, _, rfl, FB⟩
                  · simp only [List.getElem_toArray, List.getElem_cons_zero, List.getElem_cons_succ]
                    go_simp
                    have Fn7 := hid (Fn4.out.mark 25 #[.slice none 0 0, .slice none 0 0])
                    obtain ⟨bc7, hbe⟩ : ∃ b, wn4.heap.size = b := ⟨_, rfl⟩
                    rw [hbe] at Fn7 ⊢
                    generalize wn4.alloc (.cells #[.slice none 0 0, .slice none 0 0] 25) = wn7 at Fn7 ⊢
                    clear hbe Fn4
                    refine hK.out _ _ (HRD.out _ Fn7.out.kp) (fun hS => ?_)
                    clear hK
                    simp only [List.setIfInBounds_toArray, List.set_cons_zero, List.set_cons_succ]
                    clear hS
                    refine wpAnyH_ready (rs := [8]) (by kernel_rfl) (by simp) (AllReadyH.cons rfl (fun K hK => ?_) AllReadyH.nil)
                    have hmU := (Fn7.out.mks (bu4, 41, #[.int .i64 (T + 1), .int .i64 (gid), .int .i64 (1 + wt), .int .u64 co, .bool false, .int .i64 0, .int .i64 0, .int .i64 0]) (by simp)).1
                    refine step_app1 usT tc_one (by rfl) (.tmp 70) (.tmp 72) (by rfl) (base := w5.heap.size) (xs := ([] ++ ts)) (y := (⟨T + 1, gid, 1 + wt, co, false, 0, 0, 0⟩ : TS)) (by rfl) (by exact Fn7.out.ow) (by rfl) (fun i hi => by
                        match i, hi with
                        | 0, _ => exact hmU.cell 0
                        | 1, _ => exact hmU.cell 1
                        | 2, _ => exact hmU.cell 2
                        | 3, _ => exact hmU.cell 3
                        | 4, _ => exact hmU.cell 4
                        | 5, _ => exact hmU.cell 5
                        | 6, _ => exact hmU.cell 6
                        | 7, _ => exact hmU.cell 7) (by rw [List.nil_append, HM.out]; omega) (by rw [List.nil_append, HM.out]; simp only [maxLen]; omega) (by exact Fn7.out.kp.size) ?_
                    intro vp8 wn8 o8 g8 p8
                    obtain ⟨Ap8, cp8, rfl⟩ := o8.formN (m := m + 1) (by rw [List.nil_append, List.length_append, HM.out]; rfl)
                    have Fn8 := hid (Fn7.out.app o8 g8 p8)
                    clear o8 g8 p8 hmU Fn7
                    refine hK.out _ _ (HRD.out _ Fn8.out.kp) (fun hS => ?_)
                    clear hK
                    simp only [List.setIfInBounds_toArray, List.set_cons_zero, List.set_cons_succ, Act.put]
                    refine wpAnyH_take (i := 9) (v := ?_) rfl (by kernel_rfl) (by kernel_rfl) (by kernel_rfl) (fun _ _ _ h => h) (Or.inl ⟨by rfl, ?_⟩) hS ?_
                    rotate_left
                    · (intro w6 hS6; obtain ⟨hB6, hX6⟩ := hS6; have z0 := hB6.cell 0; have z1 := hB6.cell 1; have y0 := hX6.cell 0; have y1 := hX6.cell 1; have y2 := hX6.cell 2; have y3 := hX6.cell 3; have y4 := hX6.cell 4; have y5 := hX6.cell 5; have y6 := hX6.cell 6; have y7 := hX6.cell 7; simp only [List.getElem?_toArray, List.getElem?_cons_zero, List.getElem?_cons_succ] at z0 z1 y0 y1 y2 y3 y4 y5 y6 y7; (try go_simp); (try with_reducible rfl))
                    simp only [List.getElem_toArray, List.getElem_cons_zero, List.getElem_cons_succ, Act.put, List.setIfInBounds_toArray, List.set_cons_zero, List.set_cons_succ]
                    clear hS
                    refine wpAnyH_done (by kernel_rfl) ?_ _
                    refine then_of ?_
                    simp only [List.cons_append, List.nil_append]
                    have hmC := (Fn8.out.mks (bc7, 25, #[.slice none 0 0, .slice none 0 0]) (by simp)).1
                    have c0 := hmC.cell 0
                    have c1 := hmC.cell 1
                    have f0 := hmC.frozen 0
                    have f1 := hmC.frozen 1
                    simp only [List.getElem?_toArray, List.getElem?_cons_zero, List.getElem?_cons_succ] at c0 c1
                    have FB := hid (Fn8.out.fin (b := bc7) (c0 := .slice none 0 0) (c1 := .slice none 0 0) (by simp) (.slice (some ⟨b, off, none⟩) n c))
                    clear hmC Fn8
                    go_wp2_with fail
                    go_meet
                    exact ⟨_, _, _, rfl, FB⟩
                · simp only [List.getElem_toArray, List.getElem_cons_zero, List.getElem_cons_succ]
                  go_simp
                  have Fn9 := hid (Fn3.out.mark 25 #[.slice none 0 0, .slice none 0 0])
                  obtain ⟨bc9, hbe⟩ : ∃ b, wn3.heap.size = b := ⟨_, rfl⟩
                  rw [hbe] at Fn9 ⊢
                  generalize wn3.alloc (.cells #[.slice none 0 0, .slice none 0 0] 25) = wn9 at Fn9 ⊢
                  clear hbe Fn3
                  refine hK.out _ _ (HRD.out _ Fn9.out.kp) (fun hS => ?_)
                  clear hK
                  simp only [List.setIfInBounds_toArray, List.set_cons_zero, List.set_cons_succ]
                  clear hS
                  refine wpAnyH_ready (rs := [7]) (by kernel_rfl) (by simp) (AllReadyH.cons rfl (fun K hK => ?_) AllReadyH.nil)
                  simp only [List.getElem_toArray, List.getElem_cons_zero, List.getElem_cons_succ]
                  go_simp
                  have Fn10 := hid (Fn9.out.mark 41 #[.int .i64 (T + 1), .int .i64 (gid), .int .i64 (1 + wt), .int .u64 co, .bool false, .int .i64 0, .int .i64 0, .int .i64 0])
                  obtain ⟨bu10, hbe⟩ : ∃ b, wn9.heap.size = b := ⟨_, rfl⟩
                  rw [hbe] at Fn10 ⊢
                  generalize wn9.alloc (.cells #[.int .i64 (T + 1), .int .i64 (gid), .int .i64 (1 + wt), .int .u64 co, .bool false, .int .i64 0, .int .i64 0, .int .i64 0] 41) = wn10 at Fn10 ⊢
                  clear hbe Fn9
                  refine hK.out _ _ (HRD.out _ Fn10.out.kp) (fun hS => ?_)
                  clear hK
                  simp only [List.setIfInBounds_toArray, List.set_cons_zero, List.set_cons_succ]
                  clear hS
                  refine wpAnyH_ready (rs := [8]) (by kernel_rfl) (by simp) (AllReadyH.cons rfl (fun K hK => ?_) AllReadyH.nil)
                  have hmU := (Fn10.out.mks (bu10, 41, #[.int .i64 (T + 1), .int .i64 (gid), .int .i64 (1 + wt), .int .u64 co, .bool false, .int .i64 0, .int .i64 0, .int .i64 0]) (by simp)).1
                  refine step_app1 usT tc_one (by rfl) (.tmp 70) (.tmp 72) (by rfl) (base := w5.heap.size) (xs := ([] ++ ts)) (y := (⟨T + 1, gid, 1 + wt, co, false, 0, 0, 0⟩ : TS)) (by rfl) (by exact Fn10.out.ow) (by rfl) (fun i hi => by
                      match i, hi with
                      | 0, _ => exact hmU.cell 0
                      | 1, _ => exact hmU.cell 1
                      | 2, _ => exact hmU.cell 2
                      | 3, _ => exact hmU.cell 3
                      | 4, _ => exact hmU.cell 4
                      | 5, _ => exact hmU.cell 5
                      | 6, _ => exact hmU.cell 6
                      | 7, _ => exact hmU.cell 7) (by rw [List.nil_append, HM.out]; omega) (by rw [List.nil_append, HM.out]; simp only [maxLen]; omega) (by exact Fn10.out.kp.size) ?_
                  intro vp11 wn11 o8 g8 p8
                  obtain ⟨Ap11, cp11, rfl⟩ := o8.formN (m := m + 1) (by rw [List.nil_append, List.length_append, HM.out]; rfl)
                  have Fn11 := hid (Fn10.out.app o8 g8 p8)
                  clear o8 g8 p8 hmU Fn10
                  refine hK.out _ _ (HRD.out _ Fn11.out.kp) (fun hS => ?_)
                  clear hK
                  simp only [List.setIfInBounds_toArray, List.set_cons_zero, List.set_cons_succ, Act.put]
                  refine wpAnyH_take (i := 9) (v := ?_) rfl (by kernel_rfl) (by kernel_rfl) (by kernel_rfl) (fun _ _ _ h => h) (Or.inl ⟨by rfl, ?_⟩) hS ?_
                  rotate_left
                  · (intro w6 hS6; obtain ⟨hB6, hX6⟩ := hS6; have z0 := hB6.cell 0; have z1 := hB6.cell 1; have y0 := hX6.cell 0; have y1 := hX6.cell 1; have y2 := hX6.cell 2; have y3 := hX6.cell 3; have y4 := hX6.cell 4; have y5 := hX6.cell 5; have y6 := hX6.cell 6; have y7 := hX6.cell 7; simp only [List.getElem?_toArray, List.getElem?_cons_zero, List.getElem?_cons_succ] at z0 z1 y0 y1 y2 y3 y4 y5 y6 y7; (try go_simp); (try with_reducible rfl))
                  simp only [List.getElem_toArray, List.getElem_cons_zero, List.getElem_cons_succ, Act.put, List.setIfInBounds_toArray, List.set_cons_zero, List.set_cons_succ]
                  clear hS
                  refine wpAnyH_done (by kernel_rfl) ?_ _
                  refine then_of ?_
                  simp only [List.cons_append, List.nil_append]
                  have hmC := (Fn11.out.mks (bc9, 25, #[.slice none 0 0, .slice none 0 0]) (by simp)).1
                  have c0 := hmC.cell 0
                  have c1 := hmC.cell 1
                  have f0 := hmC.frozen 0
                  have f1 := hmC.frozen 1
                  simp only [List.getElem?_toArray, List.getElem?_cons_zero, List.getElem?_cons_succ] at c0 c1
                  have FB := hid (Fn11.out.fin (b := bc9) (c0 := .slice none 0 0) (c1 := .slice none 0 0) (by simp) (.slice (some ⟨b, off, none⟩) n c))
                  clear hmC Fn11
                  go_wp2_with fail
                  go_meet
                  exact ⟨_, _, _, rfl, FB⟩
              · simp only [List.getElem_toArray, List.getElem_cons_zero, List.getElem_cons_succ]
                go_simp
                have Fn12 := hid (Fn2.out.mark 41 #[.int .i64 (T + 1), .int .i64 (gid), .int .i64 (1 + wt), .int .u64 co, .bool false, .int .i64 0, .int .i64 0, .int .i64 0])
                obtain ⟨bu12, hbe⟩ : ∃ b, wn2.heap.size = b := ⟨_, rfl⟩
                rw [hbe] at Fn12 ⊢
                generalize wn2.alloc (.cells #[.int .i64 (T + 1), .int .i64 (gid), .int .i64 (1 + wt), .int .u64 co, .bool false, .int .i64 0, .int .i64 0, .int .i64 0] 41) = wn12 at Fn12 ⊢
                clear hbe Fn2
                refine hK.out _ _ (HRD.out _ Fn12.out.kp) (fun hS => ?_)
                clear hK
                simp only [List.setIfInBounds_toArray, List.set_cons_zero, List.set_cons_succ]
                clear hS
                refine wpAnyH_ready (rs := [5, 10]) (by kernel_rfl) (by simp) (AllReadyH.cons rfl (fun K hK => ?_) (AllReadyH.cons rfl (fun K hK => ?_) AllReadyH.nil))
                · refine step_appl usT tc_one (by rfl) (.tmp 67) (.tmp 69) (by rfl) (.slice (some ⟨be2, 0, none⟩) 0 0) (.slice A2 m c2) (by rfl) (by rfl) Fn12.out.ow (HT.out.kp0 (KL5.out.trans Fn12.out.kp)) (by rw [HM.out]; simp; omega) (by rw [HM.out]; simp [maxLen]; omega) Fn12.out.kp.size ?_
                  intro va13 wn13 o8 g8 p8
                  have Fn13 := hid (Fn12.out.app o8 g8 p8)
                  clear o8 g8 p8 Fn12
                  refine hK.out _ _ (HRD.out _ Fn13.out.kp) (fun hS => ?_)
                  clear hK
                  simp only [List.setIfInBounds_toArray, List.set_cons_zero, List.set_cons_succ, Act.put]
                  clear hS
                  refine wpAnyH_ready (rs := [8, 10]) (by kernel_rfl) (by simp) (AllReadyH.cons rfl (fun K hK => ?_) (AllReadyH.cons rfl (fun K hK => ?_) AllReadyH.nil))
                  · have hmU := (Fn13.out.mks (bu12, 41, #[.int .i64 (T + 1), .int .i64 (gid), .int .i64 (1 + wt), .int .u64 co, .bool false, .int .i64 0, .int .i64 0, .int .i64 0]) (by simp)).1
                    refine step_app1 usT tc_one (by rfl) (.tmp 70) (.tmp 72) (by rfl) (base := w5.heap.size) (xs := ([] ++ ts)) (y := (⟨T + 1, gid, 1 + wt, co, false, 0, 0, 0⟩ : TS)) (by rfl) (by exact Fn13.out.ow) (by rfl) (fun i hi => by
                        match i, hi with
                        | 0, _ => exact hmU.cell 0
                        | 1, _ => exact hmU.cell 1
                        | 2, _ => exact hmU.cell 2
                        | 3, _ => exact hmU.cell 3
                        | 4, _ => exact hmU.cell 4
                        | 5, _ => exact hmU.cell 5
                        | 6, _ => exact hmU.cell 6
                        | 7, _ => exact hmU.cell 7) (by rw [List.nil_append, HM.out]; omega) (by rw [List.nil_append, HM.out]; simp only [maxLen]; omega) (by exact Fn13.out.kp.size) ?_
                    intro vp14 wn14 o8 g8 p8
                    obtain ⟨Ap14, cp14, rfl⟩ := o8.formN (m := m + 1) (by rw [List.nil_append, List.length_append, HM.out]; rfl)
                    have Fn14 := hid (Fn13.out.app o8 g8 p8)
                    clear o8 g8 p8 hmU Fn13
                    refine hK.out _ _ (HRD.out _ Fn14.out.kp) (fun hS => ?_)
                    clear hK
                    simp only [List.setIfInBounds_toArray, List.set_cons_zero, List.set_cons_succ, Act.put]
                    refine wpAnyH_take (i := 9) (v := ?_) rfl (by kernel_rfl) (by kernel_rfl) (by kernel_rfl) (fun _ _ _ h => h) (Or.inl ⟨by rfl, ?_⟩) hS ?_
                    rotate_left
                    · (intro w6 hS6; obtain ⟨hB6, hX6⟩ := hS6; have z0 := hB6.cell 0; have z1 := hB6.cell 1; have y0 := hX6.cell 0; have y1 := hX6.cell 1; have y2 := hX6.cell 2; have y3 := hX6.cell 3; have y4 := hX6.cell 4; have y5 := hX6.cell 5; have y6 := hX6.cell 6; have y7 := hX6.cell 7; simp only [List.getElem?_toArray, List.getElem?_cons_zero, List.getElem?_cons_succ] at z0 z1 y0 y1 y2 y3 y4 y5 y6 y7; (try go_simp); (try with_reducible rfl))
                    simp only [List.getElem_toArray, List.getElem_cons_zero, List.getElem_cons_succ, Act.put, List.setIfInBounds_toArray, List.set_cons_zero, List.set_cons_succ]
                    clear hS
                    refine wpAnyH_ready (rs := [10]) (by kernel_rfl) (by simp) (AllReadyH.cons rfl (fun K hK => ?_) AllReadyH.nil)
                    simp only [List.getElem_toArray, List.getElem_cons_zero, List.getElem_cons_succ]
                    go_simp
                    have Fn15 := hid (Fn14.out.mark 25 #[.slice none 0 0, .slice none 0 0])
                    obtain ⟨bc15, hbe⟩ : ∃ b, wn14.heap.size = b := ⟨_, rfl⟩
                    rw [hbe] at Fn15 ⊢
                    generalize wn14.alloc (.cells #[.slice none 0 0, .slice none 0 0] 25) = wn15 at Fn15 ⊢
                    clear hbe Fn14
                    refine hK.out _ _ (HRD.out _ Fn15.out.kp) (fun hS => ?_)
                    clear hK
                    simp only [List.setIfInBounds_toArray, List.set_cons_zero, List.set_cons_succ]
                    clear hS
                    refine wpAnyH_done (by kernel_rfl) ?_ _
                    refine then_of ?_
                    simp only [List.cons_append, List.nil_append]
                    have hmC := (Fn15.out.mks (bc15, 25, #[.slice none 0 0, .slice none 0 0]) (by simp)).1
                    have c0 := hmC.cell 0
                    have c1 := hmC.cell 1
                    have f0 := hmC.frozen 0
                    have f1 := hmC.frozen 1
                    simp only [List.getElem?_toArray, List.getElem?_cons_zero, List.getElem?_cons_succ] at c0 c1
                    have FB := hid (Fn15.out.fin (b := bc15) (c0 := .slice none 0 0) (c1 := .slice none 0 0) (by simp) (.slice (some ⟨b, off, none⟩) n c))
                    clear hmC Fn15
                    go_wp2_with fail
                    go_meet
                    exact ⟨_, _, _, rfl, FB⟩
                  · simp only [List.getElem_toArray, List.getElem_cons_zero, List.getElem_cons_succ]
                    go_simp
                    have Fn16 := hid (Fn13.out.mark 25 #[.slice none 0 0, .slice none 0 0])
                    obtain ⟨bc16, hbe⟩ : ∃ b, wn13.heap.size = b := ⟨_, rfl⟩
                    rw [hbe] at Fn16 ⊢
                    generalize wn13.alloc (.cells #[.slice none 0 0, .slice none 0 0] 25) = wn16 at Fn16 ⊢
                    clear hbe Fn13
                    refine hK.out _ _ (HRD.out _ Fn16.out.kp) (fun hS => ?_)
                    clear hK
                    simp only [List.setIfInBounds_toArray, List.set_cons_zero, List.set_cons_succ]
                    clear hS
                    refine wpAnyH_ready (rs := [8]) (by kernel_rfl) (by simp) (AllReadyH.cons rfl (fun K hK => ?_) AllReadyH.nil)
                    have hmU := (Fn16.out.mks (bu12, 41, #[.int .i64 (T + 1), .int .i64 (gid), .int .i64 (1 + wt), .int .u64 co, .bool false, .int .i64 0, .int .i64 0, .int .i64 0]) (by simp)).1
                    refine step_app1 usT tc_one (by rfl) (.tmp 70) (.tmp 72) (by rfl) (base := w5.heap.size) (xs := ([] ++ ts)) (y := (⟨T + 1, gid, 1 + wt, co, false, 0, 0, 0⟩ : TS)) (by rfl) (by exact Fn16.out.ow) (by rfl) (fun i hi => by
                        match i, hi with
                        | 0, _ => exact hmU.cell 0
                        | 1, _ => exact hmU.cell 1
                        | 2, _ => exact hmU.cell 2
                        | 3, _ => exact hmU.cell 3
                        | 4, _ => exact hmU.cell 4
                        | 5, _ => exact hmU.cell 5
                        | 6, _ => exact hmU.cell 6
                        | 7, _ => exact hmU.cell 7) (by rw [List.nil_append, HM.out]; omega) (by rw [List.nil_append, HM.out]; simp only [maxLen]; omega) (by exact Fn16.out.kp.size) ?_
                    intro vp17 wn17 o8 g8 p8
                    obtain ⟨Ap17, cp17, rfl⟩ := o8.formN (m := m + 1) (by rw [List.nil_append, List.length_append, HM.out]; rfl)
                    have Fn17 := hid (Fn16.out.app o8 g8 p8)
                    clear o8 g8 p8 hmU Fn16
                    refine hK.out _ _ (HRD.out _ Fn17.out.kp) (fun hS => ?_)
                    clear hK
                    simp only [List.setIfInBounds_toArray, List.set_cons_zero, List.set_cons_succ, Act.put]
                    refine wpAnyH_take (i := 9) (v := ?_) rfl (by kernel_rfl) (by kernel_rfl) (by kernel_rfl) (fun _ _ _ h => h) (Or.inl ⟨by rfl, ?_⟩) hS ?_
                    rotate_left
                    · (intro w6 hS6; obtain ⟨hB6, hX6⟩ := hS6; have z0 := hB6.cell 0; have z1 := hB6.cell 1; have y0 := hX6.cell 0; have y1 := hX6.cell 1; have y2 := hX6.cell 2; have y3 := hX6.cell 3; have y4 := hX6.cell 4; have y5 := hX6.cell 5; have y6 := hX6.cell 6; have y7 := hX6.cell 7; simp only [List.getElem?_toArray, List.getElem?_cons_zero, List.getElem?_cons_succ] at z0 z1 y0 y1 y2 y3 y4 y5 y6 y7; (try go_simp); (try with_reducible rfl))
                    simp only [List.getElem_toArray, List.getElem_cons_zero, List.getElem_cons_succ, Act.put, List.setIfInBounds_toArray, List.set_cons_zero, List.set_cons_succ]
                    clear hS
                    refine wpAnyH_done (by kernel_rfl) ?_ _
                    refine then_of ?_
                    simp only [List.cons_append, List.nil_append]
                    have hmC := (Fn17.out.mks (bc16, 25, #[.slice none 0 0, .slice none 0 0]) (by simp)).1
                    have c0 := hmC.cell 0
                    have c1 := hmC.cell 1
                    have f0 := hmC.frozen 0
                    have f1 := hmC.frozen 1
                    simp only [List.getElem?_toArray, List.getElem?_cons_zero, List.getElem?_cons_succ] at c0 c1
                    have FB := hid (Fn17.out.fin (b := bc16) (c0 := .slice none 0 0) (c1 := .slice none 0 0) (by simp) (.slice (some ⟨b, off, none⟩) n c))
                    clear hmC Fn17
                    go_wp2_with fail
                    go_meet
                    exact ⟨_, _, _, rfl, FB⟩
                · simp only [List.getElem_toArray, List.getElem_cons_zero, List.getElem_cons_succ]
                  go_simp
                  have Fn18 := hid (Fn12.out.mark 25 #[.slice none 0 0, .slice none 0 0])
                  obtain ⟨bc18, hbe⟩ : ∃ b, wn12.heap.size = b := ⟨_, rfl⟩
                  rw [hbe] at Fn18 ⊢
                  generalize wn12.alloc (.cells #[.slice none 0 0, .slice none 0 0] 25) = wn18 at Fn18 ⊢
                  clear hbe Fn12
                  refine hK.out _ _ (HRD.out _ Fn18.out.kp) (fun hS => ?_)
                  clear hK
                  simp only [List.setIfInBounds_toArray, List.set_cons_zero, List.set_cons_succ]
                  clear hS
                  refine wpAnyH_ready (rs := [5]) (by kernel_rfl) (by simp) (AllReadyH.cons rfl (fun K hK => ?_) AllReadyH.nil)
                  refine step_appl usT tc_one (by rfl) (.tmp 67) (.tmp 69) (by rfl) (.slice (some ⟨be2, 0, none⟩) 0 0) (.slice A2 m c2) (by rfl) (by rfl) Fn18.out.ow (HT.out.kp0 (KL5.out.trans Fn18.out.kp)) (by rw [HM.out]; simp; omega) (by rw [HM.out]; simp [maxLen]; omega) Fn18.out.kp.size ?_
                  intro va19 wn19 o8 g8 p8
                  have Fn19 := hid (Fn18.out.app o8 g8 p8)
                  clear o8 g8 p8 Fn18
                  refine hK.out _ _ (HRD.out _ Fn19.out.kp) (fun hS => ?_)
                  clear hK
                  simp only [List.setIfInBounds_toArray, List.set_cons_zero, List.set_cons_succ, Act.put]
                  clear hS
                  refine wpAnyH_ready (rs := [8]) (by kernel_rfl) (by simp) (AllReadyH.cons rfl (fun K hK => ?_) AllReadyH.nil)
                  have hmU := (Fn19.out.mks (bu12, 41, #[.int .i64 (T + 1), .int .i64 (gid), .int .i64 (1 + wt), .int .u64 co, .bool false, .int .i64 0, .int .i64 0, .int .i64 0]) (by simp)).1
                  refine step_app1 usT tc_one (by rfl) (.tmp 70) (.tmp 72) (by rfl) (base := w5.heap.size) (xs := ([] ++ ts)) (y := (⟨T + 1, gid, 1 + wt, co, false, 0, 0, 0⟩ : TS)) (by rfl) (by exact Fn19.out.ow) (by rfl) (fun i hi => by
                      match i, hi with
                      | 0, _ => exact hmU.cell 0
                      | 1, _ => exact hmU.cell 1
                      | 2, _ => exact hmU.cell 2
                      | 3, _ => exact hmU.cell 3
                      | 4, _ => exact hmU.cell 4
                      | 5, _ => exact hmU.cell 5
                      | 6, _ => exact hmU.cell 6
                      | 7, _ => exact hmU.cell 7) (by rw [List.nil_append, HM.out]; omega) (by rw [List.nil_append, HM.out]; simp only [maxLen]; omega) (by exact Fn19.out.kp.size) ?_
                  intro vp20 wn20 o8 g8 p8
                  obtain ⟨Ap20, cp20, rfl⟩ := o8.formN (m := m + 1) (by rw [List.nil_append, List.length_append, HM.out]; rfl)
                  have Fn20 := hid (Fn19.out.app o8 g8 p8)
                  clear o8 g8 p8 hmU Fn19
                  refine hK.out _ _ (HRD.out _ Fn20.out.kp) (fun hS => ?_)
                  clear hK
                  simp only [List.setIfInBounds_toArray, List.set_cons_zero, List.set_cons_succ, Act.put]
                  refine wpAnyH_take (i := 9) (v := ?_) rfl (by kernel_rfl) (by kernel_rfl) (by kernel_rfl) (fun _ _ _ h => h) (Or.inl ⟨by rfl, ?_⟩) hS ?_
                  rotate_left
                  · (intro w6 hS6; obtain ⟨hB6, hX6⟩ := hS6; have z0 := hB6.cell 0; have z1 := hB6.cell 1; have y0 := hX6.cell 0; have y1 := hX6.cell 1; have y2 := hX6.cell 2; have y3 := hX6.cell 3; have y4 := hX6.cell 4; have y5 := hX6.cell 5; have y6 := hX6.cell 6; have y7 := hX6.cell 7; simp only [List.getElem?_toArray, List.getElem?_cons_zero, List.getElem?_cons_succ] at z0 z1 y0 y1 y2 y3 y4 y5 y6 y7; (try go_simp); (try with_reducible rfl))
                  simp only [List.getElem_toArray, List.getElem_cons_zero, List.getElem_cons_succ, Act.put, List.setIfInBounds_toArray, List.set_cons_zero, List.set_cons_succ]
                  clear hS
                  refine wpAnyH_done (by kernel_rfl) ?_ _
                  refine then_of ?_
                  simp only [List.cons_append, List.nil_append]
                  have hmC := (Fn20.out.mks (bc18, 25, #[.slice none 0 0, .slice none 0 0]) (by simp)).1
                  have c0 := hmC.cell 0
                  have c1 := hmC.cell 1
                  have f0 := hmC.frozen 0
                  have f1 := hmC.frozen 1
                  simp only [List.getElem?_toArray, List.getElem?_cons_zero, List.getElem?_cons_succ] at c0 c1
                  have FB := hid (Fn20.out.fin (b := bc18) (c0 := .slice none 0 0) (c1 := .slice none 0 0) (by simp) (.slice (some ⟨b, off, none⟩) n c))
                  clear hmC Fn20
                  go_wp2_with fail
                  go_meet
                  exact ⟨_, _, _, rfl, FB⟩
              · simp only [List.getElem_toArray, List.getElem_cons_zero, List.getElem_cons_succ]
                go_simp
                have Fn21 := hid (Fn2.out.mark 25 #[.slice none 0 0, .slice none 0 0])
                obtain ⟨bc21, hbe⟩ : ∃ b, wn2.heap.size = b := ⟨_, rfl⟩
                rw [hbe] at Fn21 ⊢
                generalize wn2.alloc (.cells #[.slice none 0 0, .slice none 0 0] 25) = wn21 at Fn21 ⊢
                clear hbe Fn2
                refine hK.out _ _ (HRD.out _ Fn21.out.kp) (fun hS => ?_)
                clear hK
                simp only [List.setIfInBounds_toArray, List.set_cons_zero, List.set_cons_succ]
                clear hS
                refine wpAnyH_ready (rs := [5, 7]) (by kernel_rfl) (by simp) (AllReadyH.cons rfl (fun K hK => ?_) (AllReadyH.cons rfl (fun K hK => ?_) AllReadyH.nil))
                · refine step_appl usT tc_one (by rfl) (.tmp 67) (.tmp 69) (by rfl) (.slice (some ⟨be2, 0, none⟩) 0 0) (.slice A2 m c2) (by rfl) (by rfl) Fn21.out.ow (HT.out.kp0 (KL5.out.trans Fn21.out.kp)) (by rw [HM.out]; simp; omega) (by rw [HM.out]; simp [maxLen]; omega) Fn21.out.kp.size ?_
                  intro va22 wn22 o8 g8 p8
                  have Fn22 := hid (Fn21.out.app o8 g8 p8)
                  clear o8 g8 p8 Fn21
                  refine hK.out _ _ (HRD.out _ Fn22.out.kp) (fun hS => ?_)
                  clear hK
                  simp only [List.setIfInBounds_toArray, List.set_cons_zero, List.set_cons_succ, Act.put]
                  clear hS
                  refine wpAnyH_ready (rs := [7]) (by kernel_rfl) (by simp) (AllReadyH.cons rfl (fun K hK => ?_) AllReadyH.nil)
                  simp only [List.getElem_toArray, List.getElem_cons_zero, List.getElem_cons_succ]
                  go_simp
                  have Fn23 := hid (Fn22.out.mark 41 #[.int .i64 (T + 1), .int .i64 (gid), .int .i64 (1 + wt), .int .u64 co, .bool false, .int .i64 0, .int .i64 0, .int .i64 0])
                  obtain ⟨bu23, hbe⟩ : ∃ b, wn22.heap.size = b := ⟨_, rfl⟩
                  rw [hbe] at Fn23 ⊢
                  generalize wn22.alloc (.cells #[.int .i64 (T + 1), .int .i64 (gid), .int .i64 (1 + wt), .int .u64 co, .bool false, .int .i64 0, .int .i64 0, .int .i64 0] 41) = wn23 at Fn23 ⊢
                  clear hbe Fn22
                  refine hK.out _ _ (HRD.out _ Fn23.out.kp) (fun hS => ?_)
                  clear hK
                  simp only [List.setIfInBounds_toArray, List.set_cons_zero, List.set_cons_succ]
                  clear hS
                  refine wpAnyH_ready (rs := [8]) (by kernel_rfl) (by simp) (AllReadyH.cons rfl (fun K hK => ?_) AllReadyH.nil)
                  have hmU := (Fn23.out.mks (bu23, 41, #[.int .i64 (T + 1), .int .i64 (gid), .int .i64 (1 + wt), .int .u64 co, .bool false, .int .i64 0, .int .i64 0, .int .i64 0]) (by simp)).1
                  refine step_app1 usT tc_one (by rfl) (.tmp 70) (.tmp 72) (by rfl) (base := w5.heap.size) (xs := ([] ++ ts)) (y := (⟨T + 1, gid, 1 + wt, co, false, 0, 0, 0⟩ : TS)) (by rfl) (by exact Fn23.out.ow) (by rfl) (fun i hi => by
                      match i, hi with
                      | 0, _ => exact hmU.cell 0
                      | 1, _ => exact hmU.cell 1
                      | 2, _ => exact hmU.cell 2
                      | 3, _ => exact hmU.cell 3
                      | 4, _ => exact hmU.cell 4
                      | 5, _ => exact hmU.cell 5
                      | 6, _ => exact hmU.cell 6
                      | 7, _ => exact hmU.cell 7) (by rw [List.nil_append, HM.out]; omega) (by rw [List.nil_append, HM.out]; simp only [maxLen]; omega) (by exact Fn23.out.kp.size) ?_
                  intro vp24 wn24 o8 g8 p8
                  obtain ⟨Ap24, cp24, rfl⟩ := o8.formN (m := m + 1) (by rw [List.nil_append, List.length_append, HM.out]; rfl)
                  have Fn24 := hid (Fn23.out.app o8 g8 p8)
                  clear o8 g8 p8 hmU Fn23
                  refine hK.out _ _ (HRD.out _ Fn24.out.kp) (fun hS => ?_)
                  clear hK
                  simp only [List.setIfInBounds_toArray, List.set_cons_zero, List.set_cons_succ, Act.put]
                  refine wpAnyH_take (i := 9) (v := ?_) rfl (by kernel_rfl) (by kernel_rfl) (by kernel_rfl) (fun _ _ _ h => h) (Or.inl ⟨by rfl, ?_⟩) hS ?_
                  rotate_left
                  · (intro w6 hS6; obtain ⟨hB6, hX6⟩ := hS6; have z0 := hB6.cell 0; have z1 := hB6.cell 1; have y0 := hX6.cell 0; have y1 := hX6.cell 1; have y2 := hX6.cell 2; have y3 := hX6.cell 3; have y4 := hX6.cell 4; have y5 := hX6.cell 5; have y6 := hX6.cell 6; have y7 := hX6.cell 7; simp only [List.getElem?_toArray, List.getElem?_cons_zero, List.getElem?_cons_succ] at z0 z1 y0 y1 y2 y3 y4 y5 y6 y7; (try go_simp); (try with_reducible rfl))
                  simp only [List.getElem_toArray, List.getElem_cons_zero, List.getElem_cons_succ, Act.put, List.setIfInBounds_toArray, List.set_cons_zero, List.set_cons_succ]
                  clear hS
                  refine wpAnyH_done (by kernel_rfl) ?_ _
                  refine then_of ?_
                  simp only [List.cons_append, List.nil_append]
                  have hmC := (Fn24.out.mks (bc21, 25, #[.slice none 0 0, .slice none 0 0]) (by simp)).1
                  have c0 := hmC.cell 0
                  have c1 := hmC.cell 1
                  have f0 := hmC.frozen 0
                  have f1 := hmC.frozen 1
                  simp only [List.getElem?_toArray, List.getElem?_cons_zero, List.getElem?_cons_succ] at c0 c1
                  have FB := hid (Fn24.out.fin (b := bc21) (c0 := .slice none 0 0) (c1 := .slice none 0 0) (by simp) (.slice (some ⟨b, off, none⟩) n c))
                  clear hmC Fn24
                  go_wp2_with fail
                  go_meet
                  exact ⟨_, _, _, rfl, FB⟩
                · simp only [List.getElem_toArray, List.getElem_cons_zero, List.getElem_cons_succ]
                  go_simp
                  have Fn25 := hid (Fn21.out.mark 41 #[.int .i64 (T + 1), .int .i64 (gid), .int .i64 (1 + wt), .int .u64 co, .bool false, .int .i64 0, .int .i64 0, .int .i64 0])
                  obtain ⟨bu25, hbe⟩ : ∃ b, wn21.heap.size = b := ⟨_, rfl⟩
                  rw [hbe] at Fn25 ⊢
                  generalize wn21.alloc (.cells #[.int .i64 (T + 1), .int .i64 (gid), .int .i64 (1 + wt), .int .u64 co, .bool false, .int .i64 0, .int .i64 0, .int .i64 0] 41) = wn25 at Fn25 ⊢
                  clear hbe Fn21
                  refine hK.out _ _ (HRD.out _ Fn25.out.kp) (fun hS => ?_)
                  clear hK
                  simp only [List.setIfInBounds_toArray, List.set_cons_zero, List.set_cons_succ]
                  clear hS
                  refine wpAnyH_ready (rs := [5]) (by kernel_rfl) (by simp) (AllReadyH.cons rfl (fun K hK => ?_) AllReadyH.nil)
                  refine step_appl usT tc_one (by rfl) (.tmp 67) (.tmp 69) (by rfl) (.slice (some ⟨be2, 0, none⟩) 0 0) (.slice A2 m c2) (by rfl) (by rfl) Fn25.out.ow (HT.out.kp0 (KL5.out.trans Fn25.out.kp)) (by rw [HM.out]; simp; omega) (by rw [HM.out]; simp [maxLen]; omega) Fn25.out.kp.size ?_
                  intro va26 wn26 o8 g8 p8
                  have Fn26 := hid (Fn25.out.app o8 g8 p8)
                  clear o8 g8 p8 Fn25
                  refine hK.out _ _ (HRD.out _ Fn26.out.kp) (fun hS => ?_)
                  clear hK
                  simp only [List.setIfInBounds_toArray, List.set_cons_zero, List.set_cons_succ, Act.put]
                  clear hS
                  refine wpAnyH_ready (rs := [8]) (by kernel_rfl) (by simp) (AllReadyH.cons rfl (fun K hK => ?_) AllReadyH.nil)
                  have hmU := (Fn26.out.mks (bu25, 41, #[.int .i64 (T + 1), .int .i64 (gid), .int .i64 (1 + wt), .int .u64 co, .bool false, .int .i64 0, .int .i64 0, .int .i64 0]) (by simp)).1
                  refine step_app1 usT tc_one (by rfl) (.tmp 70) (.tmp 72) (by rfl) (base := w5.heap.size) (xs := ([] ++ ts)) (y := (⟨T + 1, gid, 1 + wt, co, false, 0, 0, 0⟩ : TS)) (by rfl) (by exact Fn26.out.ow) (by rfl) (fun i hi => by
                      match i, hi with
                      | 0, _ => exact hmU.cell 0
                      | 1, _ => exact hmU.cell 1
                      | 2, _ => exact hmU.cell 2
                      | 3, _ => exact hmU.cell 3
                      | 4, _ => exact hmU.cell 4
                      | 5, _ => exact hmU.cell 5
                      | 6, _ => exact hmU.cell 6
                      | 7, _ => exact hmU.cell 7) (by rw [List.nil_append, HM.out]; omega) (by rw [List.nil_append, HM.out]; simp only [maxLen]; omega) (by exact Fn26.out.kp.size) ?_
                  intro vp27 wn27 o8 g8 p8
                  obtain ⟨Ap27, cp27, rfl⟩ := o8.formN (m := m + 1) (by rw [List.nil_append, List.length_append, HM.out]; rfl)
                  have Fn27 := hid (Fn26.out.app o8 g8 p8)
                  clear o8 g8 p8 hmU Fn26
                  refine hK.out _ _ (HRD.out _ Fn27.out.kp) (fun hS => ?_)
                  clear hK
                  simp only [List.setIfInBounds_toArray, List.set_cons_zero, List.set_cons_succ, Act.put]
                  refine wpAnyH_take (i := 9) (v := ?_) rfl (by kernel_rfl) (by kernel_rfl) (by kernel_rfl) (fun _ _ _ h => h) (Or.inl ⟨by rfl, ?_⟩) hS ?_
                  rotate_left
                  · (intro w6 hS6; obtain ⟨hB6, hX6⟩ := hS6; have z0 := hB6.cell 0; have z1 := hB6.cell 1; have y0 := hX6.cell 0; have y1 := hX6.cell 1; have y2 := hX6.cell 2; have y3 := hX6.cell 3; have y4 := hX6.cell 4; have y5 := hX6.cell 5; have y6 := hX6.cell 6; have y7 := hX6.cell 7; simp only [List.getElem?_toArray, List.getElem?_cons_zero, List.getElem?_cons_succ] at z0 z1 y0 y1 y2 y3 y4 y5 y6 y7; (try go_simp); (try with_reducible rfl))
                  simp only [List.getElem_toArray, List.getElem_cons_zero, List.getElem_cons_succ, Act.put, List.setIfInBounds_toArray, List.set_cons_zero, List.set_cons_succ]
                  clear hS
                  refine wpAnyH_done (by kernel_rfl) ?_ _
                  refine then_of ?_
                  simp only [List.cons_append, List.nil_append]
                  have hmC := (Fn27.out.mks (bc21, 25, #[.slice none 0 0, .slice none 0 0]) (by simp)).1
                  have c0 := hmC.cell 0
                  have c1 := hmC.cell 1
                  have f0 := hmC.frozen 0
                  have f1 := hmC.frozen 1
                  simp only [List.getElem?_toArray, List.getElem?_cons_zero, List.getElem?_cons_succ] at c0 c1
                  have FB := hid (Fn27.out.fin (b := bc21) (c0 := .slice none 0 0) (c1 := .slice none 0 0) (by simp) (.slice (some ⟨b, off, none⟩) n c))
                  clear hmC Fn27
                  go_wp2_with fail
                  go_meet
                  exact ⟨_, _, _, rfl, FB⟩
            · simp only [List.getElem_toArray, List.getElem_cons_zero, List.getElem_cons_succ]
              go_simp
              have Fn28 := hid (Fd1.out.mark 41 #[.int .i64 (T + 1), .int .i64 (gid), .int .i64 (1 + wt), .int .u64 co, .bool false, .int .i64 0, .int .i64 0, .int .i64 0])
              obtain ⟨bu28, hbe⟩ : ∃ b, Wd1.heap.size = b := ⟨_, rfl⟩
              rw [hbe] at Fn28 ⊢
              generalize Wd1.alloc (.cells #[.int .i64 (T + 1), .int .i64 (gid), .int .i64 (1 + wt), .int .u64 co, .bool false, .int .i64 0, .int .i64 0, .int .i64 0] 41) = wn28 at Fn28 ⊢
              clear hbe Fd1
              refine hK.out _ _ (HRD.out _ Fn28.out.kp) (fun hS => ?_)
              clear hK
              simp only [List.setIfInBounds_toArray, List.set_cons_zero, List.set_cons_succ]
              clear hS
              refine wpAnyH_ready (rs := [2, 10]) (by kernel_rfl) (by simp) (AllReadyH.cons rfl (fun K hK => ?_) (AllReadyH.cons rfl (fun K hK => ?_) AllReadyH.nil))
              · simp only [List.getElem_toArray, List.getElem_cons_zero, List.getElem_cons_succ]
                go_simp
                have Fn29 := hid Fn28.out.mt
                obtain ⟨be29, hbe⟩ : ∃ b, wn28.heap.size = b := ⟨_, rfl⟩
                rw [hbe] at Fn29 ⊢
                generalize wn28.alloc (.cells #[] 41) = wn29 at Fn29 ⊢
                clear hbe Fn28
                refine hK.out _ _ (HRD.out _ Fn29.out.kp) (fun hS => ?_)
                clear hK
                simp only [List.setIfInBounds_toArray, List.set_cons_zero, List.set_cons_succ]
                clear hS
                refine wpAnyH_ready (rs := [5, 10]) (by kernel_rfl) (by simp) (AllReadyH.cons rfl (fun K hK => ?_) (AllReadyH.cons rfl (fun K hK => ?_) AllReadyH.nil))
                · refine step_appl usT tc_one (by rfl) (.tmp 67) (.tmp 69) (by rfl) (.slice (some ⟨be29, 0, none⟩) 0 0) (.slice A2 m c2) (by rfl) (by rfl) Fn29.out.ow (HT.out.kp0 (KL5.out.trans Fn29.out.kp)) (by rw [HM.out]; simp; omega) (by rw [HM.out]; simp [maxLen]; omega) Fn29.out.kp.size ?_
                  intro va30 wn30 o8 g8 p8
                  have Fn30 := hid (Fn29.out.app o8 g8 p8)
                  clear o8 g8 p8 Fn29
                  refine hK.out _ _ (HRD.out _ Fn30.out.kp) (fun hS => ?_)
                  clear hK
                  simp only [List.setIfInBounds_toArray, List.set_cons_zero, List.set_cons_succ, Act.put]
                  clear hS
                  refine wpAnyH_ready (rs := [8, 10]) (by kernel_rfl) (by simp) (AllReadyH.cons rfl (fun K hK => ?_) (AllReadyH.cons rfl (fun K hK => ?_) AllReadyH.nil))
                  · have hmU := (Fn30.out.mks (bu28, 41, #[.int .i64 (T + 1), .int .i64 (gid), .int .i64 (1 + wt), .int .u64 co, .bool false, .int .i64 0, .int .i64 0, .int .i64 0]) (by simp)).1
                    refine step_app1 usT tc_one (by rfl) (.tmp 70) (.tmp 72) (by rfl) (base := w5.heap.size) (xs := ([] ++ ts)) (y := (⟨T + 1, gid, 1 + wt, co, false, 0, 0, 0⟩ : TS)) (by rfl) (by exact Fn30.out.ow) (by rfl) (fun i hi => by
                        match i, hi with
                        | 0, _ => exact hmU.cell 0
                        | 1, _ => exact hmU.cell 1
                        | 2, _ => exact hmU.cell 2
                        | 3, _ => exact hmU.cell 3
                        | 4, _ => exact hmU.cell 4
                        | 5, _ => exact hmU.cell 5
                        | 6, _ => exact hmU.cell 6
                        | 7, _ => exact hmU.cell 7) (by rw [List.nil_append, HM.out]; omega) (by rw [List.nil_append, HM.out]; simp only [maxLen]; omega) (by exact Fn30.out.kp.size) ?_
                    intro vp31 wn31 o8 g8 p8
                    obtain ⟨Ap31, cp31, rfl⟩ := o8.formN (m := m + 1) (by rw [List.nil_append, List.length_append, HM.out]; rfl)
                    have Fn31 := hid (Fn30.out.app o8 g8 p8)
                    clear o8 g8 p8 hmU Fn30
                    refine hK.out _ _ (HRD.out _ Fn31.out.kp) (fun hS => ?_)
                    clear hK
                    simp only [List.setIfInBounds_toArray, List.set_cons_zero, List.set_cons_succ, Act.put]
                    refine wpAnyH_take (i := 9) (v := ?_) rfl (by kernel_rfl) (by kernel_rfl) (by kernel_rfl) (fun _ _ _ h => h) (Or.inl ⟨by rfl, ?_⟩) hS ?_
                    rotate_left
                    · (intro w6 hS6; obtain ⟨hB6, hX6⟩ := hS6; have z0 := hB6.cell 0; have z1 := hB6.cell 1; have y0 := hX6.cell 0; have y1 := hX6.cell 1; have y2 := hX6.cell 2; have y3 := hX6.cell 3; have y4 := hX6.cell 4; have y5 := hX6.cell 5; have y6 := hX6.cell 6; have y7 := hX6.cell 7; simp only [List.getElem?_toArray, List.getElem?_cons_zero, List.getElem?_cons_succ] at z0 z1 y0 y1 y2 y3 y4 y5 y6 y7; (try go_simp); (try with_reducible rfl))
                    simp only [List.getElem_toArray, List.getElem_cons_zero, List.getElem_cons_succ, Act.put, List.setIfInBounds_toArray, List.set_cons_zero, List.set_cons_succ]
                    clear hS
                    refine wpAnyH_ready (rs := [10]) (by kernel_rfl) (by simp) (AllReadyH.cons rfl (fun K hK => ?_) AllReadyH.nil)
                    simp only [List.getElem_toArray, List.getElem_cons_zero, List.getElem_cons_succ]
                    go_simp
                    have Fn32 := hid (Fn31.out.mark 25 #[.slice none 0 0, .slice none 0 0])
                    obtain ⟨bc32, hbe⟩ : ∃ b, wn31.heap.size = b := ⟨_, rfl⟩
                    rw [hbe] at Fn32 ⊢
                    generalize wn31.alloc (.cells #[.slice none 0 0, .slice none 0 0] 25) = wn32 at Fn32 ⊢
                    clear hbe Fn31
                    refine hK.out _ _ (HRD.out _ Fn32.out.kp) (fun hS => ?_)
                    clear hK
                    simp only [List.setIfInBounds_toArray, List.set_cons_zero, List.set_cons_succ]
                    clear hS
                    refine wpAnyH_done (by kernel_rfl) ?_ _
                    refine then_of ?_
                    simp only [List.cons_append, List.nil_append]
                    have hmC := (Fn32.out.mks (bc32, 25, #[.slice none 0 0, .slice none 0 0]) (by simp)).1
                    have c0 := hmC.cell 0
                    have c1 := hmC.cell 1
                    have f0 := hmC.frozen 0
                    have f1 := hmC.frozen 1
                    simp only [List.getElem?_toArray, List.getElem?_cons_zero, List.getElem?_cons_succ] at c0 c1
                    have FB := hid (Fn32.out.fin (b := bc32) (c0 := .slice none 0 0) (c1 := .slice none 0 0) (by simp) (.slice (some ⟨b, off, none⟩) n c))
                    clear hmC Fn32
                    go_wp2_with fail
                    go_meet
                    exact ⟨_, _, _, rfl, FB⟩
                  · simp only [List.getElem_toArray, List.getElem_cons_zero, List.getElem_cons_succ]
                    go_simp
                    have Fn33 := hid (Fn30.out.mark 25 #[.slice none 0 0, .slice none 0 0])
                    obtain ⟨bc33, hbe⟩ : ∃ b, wn30.heap.size = b := ⟨_, rfl⟩
                    rw [hbe] at Fn33 ⊢
                    generalize wn30.alloc (.cells #[.slice none 0 0, .slice none 0 0] 25) = wn33 at Fn33 ⊢
                    clear hbe Fn30
                    refine hK.out _ _ (HRD.out _ Fn33.out.kp) (fun hS => ?_)
                    clear hK
                    simp only [List.setIfInBounds_toArray, List.set_cons_zero, List.set_cons_succ]
                    clear hS
                    refine wpAnyH_ready (rs := [8]) (by kernel_rfl) (by simp) (AllReadyH.cons rfl (fun K hK => ?_) AllReadyH.nil)
                    have hmU := (Fn33.out.mks (bu28, 41, #[.int .i64 (T + 1), .int .i64 (gid), .int .i64 (1 + wt), .int .u64 co, .bool false, .int .i64 0, .int .i64 0, .int .i64 0]) (by simp)).1
                    refine step_app1 usT tc_one (by rfl) (.tmp 70) (.tmp 72) (by rfl) (base := w5.heap.size) (xs := ([] ++ ts)) (y := (⟨T + 1, gid, 1 + wt, co, false, 0, 0, 0⟩ : TS)) (by rfl) (by exact Fn33.out.ow) (by rfl) (fun i hi => by
                        match i, hi with
                        | 0, _ => exact hmU.cell 0
                        | 1, _ => exact hmU.cell 1
                        | 2, _ => exact hmU.cell 2
                        | 3, _ => exact hmU.cell 3
                        | 4, _ => exact hmU.cell 4
                        | 5, _ => exact hmU.cell 5
                        | 6, _ => exact hmU.cell 6
                        | 7, _ => exact hmU.cell 7) (by rw [List.nil_append, HM.out]; omega) (by rw [List.nil_append, HM.out]; simp only [maxLen]; omega) (by exact Fn33.out.kp.size) ?_
                    intro vp34 wn34 o8 g8 p8
                    obtain ⟨Ap34, cp34, rfl⟩ := o8.formN (m := m + 1) (by rw [List.nil_append, List.length_append, HM.out]; rfl)
                    have Fn34 := hid (Fn33.out.app o8 g8 p8)
                    clear o8 g8 p8 hmU Fn33
                    refine hK.out _ _ (HRD.out _ Fn34.out.kp) (fun hS => ?_)
                    clear hK
                    simp only [List.setIfInBounds_toArray, List.set_cons_zero, List.set_cons_succ, Act.put]
                    refine wpAnyH_take (i := 9) (v := ?_) rfl (by kernel_rfl) (by kernel_rfl) (by kernel_rfl) (fun _ _ _ h => h) (Or.inl ⟨by rfl, ?_⟩) hS ?_
                    rotate_left
                    · (intro w6 hS6; obtain ⟨hB6, hX6⟩ := hS6; have z0 := hB6.cell 0; have z1 := hB6.cell 1; have y0 := hX6.cell 0; have y1 := hX6.cell 1; have y2 := hX6.cell 2; have y3 := hX6.cell 3; have y4 := hX6.cell 4; have y5 := hX6.cell 5; have y6 := hX6.cell 6; have y7 := hX6.cell 7; simp only [List.getElem?_toArray, List.getElem?_cons_zero, List.getElem?_cons_succ] at z0 z1 y0 y1 y2 y3 y4 y5 y6 y7; (try go_simp); (try with_reducible rfl))
                    simp only [List.getElem_toArray, List.getElem_cons_zero, List.getElem_cons_succ, Act.put, List.setIfInBounds_toArray, List.set_cons_zero, List.set_cons_succ]
                    clear hS
                    refine wpAnyH_done (by kernel_rfl) ?_ _
                    refine then_of ?_
                    simp only [List.cons_append, List.nil_append]
                    have hmC := (Fn34.out.mks (bc33, 25, #[.slice none 0 0, .slice none 0 0]) (by simp)).1
                    have c0 := hmC.cell 0
                    have c1 := hmC.cell 1
                    have f0 := hmC.frozen 0
                    have f1 := hmC.frozen 1
                    simp only [List.getElem?_toArray, List.getElem?_cons_zero, List.getElem?_cons_succ] at c0 c1
                    have FB := hid (Fn34.out.fin (b := bc33) (c0 := .slice none 0 0) (c1 := .slice none 0 0) (by simp) (.slice (some ⟨b, off, none⟩) n c))
                    clear hmC Fn34
                    go_wp2_with fail
                    go_meet
                    exact ⟨_, _, _, rfl, FB⟩
                · simp only [List.getElem_toArray, List.getElem_cons_zero, List.getElem_cons_succ]
                  go_simp
                  have Fn35 := hid (Fn29.out.mark 25 #[.slice none 0 0, .slice none 0 0])
                  obtain ⟨bc35, hbe⟩ : ∃ b, wn29.heap.size = b := ⟨_, rfl⟩
                  rw [hbe] at Fn35 ⊢
                  generalize wn29.alloc (.cells #[.slice none 0 0, .slice none 0 0] 25) = wn35 at Fn35 ⊢
                  clear hbe Fn29
                  refine hK.out _ _ (HRD.out _ Fn35.out.kp) (fun hS => ?_)
                  clear hK
                  simp only [List.setIfInBounds_toArray, List.set_cons_zero, List.set_cons_succ]
                  clear hS
                  refine wpAnyH_ready (rs := [5]) (by kernel_rfl) (by simp) (AllReadyH.cons rfl (fun K hK => ?_) AllReadyH.nil)
                  refine step_appl usT tc_one (by rfl) (.tmp 67) (.tmp 69) (by rfl) (.slice (some ⟨be29, 0, none⟩) 0 0) (.slice A2 m c2) (by rfl) (by rfl) Fn35.out.ow (HT.out.kp0 (KL5.out.trans Fn35.out.kp)) (by rw [HM.out]; simp; omega) (by rw [HM.out]; simp [maxLen]; omega) Fn35.out.kp.size ?_
                  intro va36 wn36 o8 g8 p8
                  have Fn36 := hid (Fn35.out.app o8 g8 p8)
                  clear o8 g8 p8 Fn35
                  refine hK.out _ _ (HRD.out _ Fn36.out.kp) (fun hS => ?_)
                  clear hK
                  simp only [List.setIfInBounds_toArray, List.set_cons_zero, List.set_cons_succ, Act.put]
                  clear hS
                  refine wpAnyH_ready (rs := [8]) (by kernel_rfl) (by simp) (AllReadyH.cons rfl (fun K hK => ?_) AllReadyH.nil)
                  have hmU := (Fn36.out.mks (bu28, 41, #[.int .i64 (T + 1), .int .i64 (gid), .int .i64 (1 + wt), .int .u64 co, .bool false, .int .i64 0, .int .i64 0, .int .i64 0]) (by simp)).1
                  refine step_app1 usT tc_one (by rfl) (.tmp 70) (.tmp 72) (by rfl) (base := w5.heap.size) (xs := ([] ++ ts)) (y := (⟨T + 1, gid, 1 + wt, co, false, 0, 0, 0⟩ : TS)) (by rfl) (by exact Fn36.out.ow) (by rfl) (fun i hi => by
                      match i, hi with
                      | 0, _ => exact hmU.cell 0
                      | 1, _ => exact hmU.cell 1
                      | 2, _ => exact hmU.cell 2
                      | 3, _ => exact hmU.cell 3
                      | 4, _ => exact hmU.cell 4
                      | 5, _ => exact hmU.cell 5
                      | 6, _ => exact hmU.cell 6
                      | 7, _ => exact hmU.cell 7) (by rw [List.nil_append, HM.out]; omega) (by rw [List.nil_append, HM.out]; simp only [maxLen]; omega) (by exact Fn36.out.kp.size) ?_
                  intro vp37 wn37 o8 g8 p8
                  obtain ⟨Ap37, cp37, rfl⟩ := o8.formN (m := m + 1) (by rw [List.nil_append, List.length_append, HM.out]; rfl)
                  have Fn37 := hid (Fn36.out.app o8 g8 p8)
                  clear o8 g8 p8 hmU Fn36
                  refine hK.out _ _ (HRD.out _ Fn37.out.kp) (fun hS => ?_)
                  clear hK
                  simp only [List.setIfInBounds_toArray, List.set_cons_zero, List.set_cons_succ, Act.put]
                  refine wpAnyH_take (i := 9) (v := ?_) rfl (by kernel_rfl) (by kernel_rfl) (by kernel_rfl) (fun _ _ _ h => h) (Or.inl ⟨by rfl, ?_⟩) hS ?_
                  rotate_left
                  · (intro w6 hS6; obtain ⟨hB6, hX6⟩ := hS6; have z0 := hB6.cell 0; have z1 := hB6.cell 1; have y0 := hX6.cell 0; have y1 := hX6.cell 1; have y2 := hX6.cell 2; have y3 := hX6.cell 3; have y4 := hX6.cell 4; have y5 := hX6.cell 5; have y6 := hX6.cell 6; have y7 := hX6.cell 7; simp only [List.getElem?_toArray, List.getElem?_cons_zero, List.getElem?_cons_succ] at z0 z1 y0 y1 y2 y3 y4 y5 y6 y7; (try go_simp); (try with_reducible rfl))
                  simp only [List.getElem_toArray, List.getElem_cons_zero, List.getElem_cons_succ, Act.put, List.setIfInBounds_toArray, List.set_cons_zero, List.set_cons_succ]
                  clear hS
                  refine wpAnyH_done (by kernel_rfl) ?_ _
                  refine then_of ?_
                  simp only [List.cons_append, List.nil_append]
                  have hmC := (Fn37.out.mks (bc35, 25, #[.slice none 0 0, .slice none 0 0]) (by simp)).1
                  have c0 := hmC.cell 0
                  have c1 := hmC.cell 1
                  have f0 := hmC.frozen 0
                  have f1 := hmC.frozen 1
                  simp only [List.getElem?_toArray, List.getElem?_cons_zero, List.getElem?_cons_succ] at c0 c1
                  have FB := hid (Fn37.out.fin (b := bc35) (c0 := .slice none 0 0) (c1 := .slice none 0 0) (by simp) (.slice (some ⟨b, off, none⟩) n c))
                  clear hmC Fn37
                  go_wp2_with fail
                  go_meet
                  exact ⟨_, _, _, rfl, FB⟩
              · simp only [List.getElem_toArray, List.getElem_cons_zero, List.getElem_cons_succ]
                go_simp
                have Fn38 := hid (Fn28.out.mark 25 #[.slice none 0 0, .slice none 0 0])
                obtain ⟨bc38, hbe⟩ : ∃ b, wn28.heap.size = b := ⟨_, rfl⟩
                rw [hbe] at Fn38 ⊢
                generalize wn28.alloc (.cells #[.slice none 0 0, .slice none 0 0] 25) = wn38 at Fn38 ⊢
                clear hbe Fn28
                refine hK.out _ _ (HRD.out _ Fn38.out.kp) (fun hS => ?_)
                clear hK
                simp only [List.setIfInBounds_toArray, List.set_cons_zero, List.set_cons_succ]
                clear hS
                refine wpAnyH_ready (rs := [2]) (by kernel_rfl) (by simp) (AllReadyH.cons rfl (fun K hK => ?_) AllReadyH.nil)
                simp only [List.getElem_toArray, List.getElem_cons_zero, List.getElem_cons_succ]
                go_simp
                have Fn39 := hid Fn38.out.mt
                obtain ⟨be39, hbe⟩ : ∃ b, wn38.heap.size = b := ⟨_, rfl⟩
                rw [hbe] at Fn39 ⊢
                generalize wn38.alloc (.cells #[] 41) = wn39 at Fn39 ⊢
                clear hbe Fn38
                refine hK.out _ _ (HRD.out _ Fn39.out.kp) (fun hS => ?_)
                clear hK
                simp only [List.setIfInBounds_toArray, List.set_cons_zero, List.set_cons_succ]
                clear hS
                refine wpAnyH_ready (rs := [5]) (by kernel_rfl) (by simp) (AllReadyH.cons rfl (fun K hK => ?_) AllReadyH.nil)
                refine step_appl usT tc_one (by rfl) (.tmp 67) (.tmp 69) (by rfl) (.slice (some ⟨be39, 0, none⟩) 0 0) (.slice A2 m c2) (by rfl) (by rfl) Fn39.out.ow (HT.out.kp0 (KL5.out.trans Fn39.out.kp)) (by rw [HM.out]; simp; omega) (by rw [HM.out]; simp [maxLen]; omega) Fn39.out.kp.size ?_
                intro va40 wn40 o8 g8 p8
                have Fn40 := hid (Fn39.out.app o8 g8 p8)
                clear o8 g8 p8 Fn39
                refine hK.out _ _ (HRD.out _ Fn40.out.kp) (fun hS => ?_)
                clear hK
                simp only [List.setIfInBounds_toArray, List.set_cons_zero, List.set_cons_succ, Act.put]
                clear hS
                refine wpAnyH_ready (rs := [8]) (by kernel_rfl) (by simp) (AllReadyH.cons rfl (fun K hK => ?_) AllReadyH.nil)
                have hmU := (Fn40.out.mks (bu28, 41, #[.int .i64 (T + 1), .int .i64 (gid), .int .i64 (1 + wt), .int .u64 co, .bool false, .int .i64 0, .int .i64 0, .int .i64 0]) (by simp)).1
                refine step_app1 usT tc_one (by rfl) (.tmp 70) (.tmp 72) (by rfl) (base := w5.heap.size) (xs := ([] ++ ts)) (y := (⟨T + 1, gid, 1 + wt, co, false, 0, 0, 0⟩ : TS)) (by rfl) (by exact Fn40.out.ow) (by rfl) (fun i hi => by
                    match i, hi with
                    | 0, _ => exact hmU.cell 0
                    | 1, _ => exact hmU.cell 1
                    | 2, _ => exact hmU.cell 2
                    | 3, _ => exact hmU.cell 3
                    | 4, _ => exact hmU.cell 4
                    | 5, _ => exact hmU.cell 5
                    | 6, _ => exact hmU.cell 6
                    | 7, _ => exact hmU.cell 7) (by rw [List.nil_append, HM.out]; omega) (by rw [List.nil_append, HM.out]; simp only [maxLen]; omega) (by exact Fn40.out.kp.size) ?_
                intro vp41 wn41 o8 g8 p8
                obtain ⟨Ap41, cp41, rfl⟩ := o8.formN (m := m + 1) (by rw [List.nil_append, List.length_append, HM.out]; rfl)
                have Fn41 := hid (Fn40.out.app o8 g8 p8)
                clear o8 g8 p8 hmU Fn40
                refine hK.out _ _ (HRD.out _ Fn41.out.kp) (fun hS => ?_)
                clear hK
                simp only [List.setIfInBounds_toArray, List.set_cons_zero, List.set_cons_succ, Act.put]
                refine wpAnyH_take (i := 9) (v := ?_) rfl (by kernel_rfl) (by kernel_rfl) (by kernel_rfl) (fun _ _ _ h => h) (Or.inl ⟨by rfl, ?_⟩) hS ?_
                rotate_left
                · (intro w6 hS6; obtain ⟨hB6, hX6⟩ := hS6; have z0 := hB6.cell 0; have z1 := hB6.cell 1; have y0 := hX6.cell 0; have y1 := hX6.cell 1; have y2 := hX6.cell 2; have y3 := hX6.cell 3; have y4 := hX6.cell 4; have y5 := hX6.cell 5; have y6 := hX6.cell 6; have y7 := hX6.cell 7; simp only [List.getElem?_toArray, List.getElem?_cons_zero, List.getElem?_cons_succ] at z0 z1 y0 y1 y2 y3 y4 y5 y6 y7; (try go_simp); (try with_reducible rfl))
                simp only [List.getElem_toArray, List.getElem_cons_zero, List.getElem_cons_succ, Act.put, List.setIfInBounds_toArray, List.set_cons_zero, List.set_cons_succ]
                clear hS
                refine wpAnyH_done (by kernel_rfl) ?_ _
                refine then_of ?_
                simp only [List.cons_append, List.nil_append]
                have hmC := (Fn41.out.mks (bc38, 25, #[.slice none 0 0, .slice none 0 0]) (by simp)).1
                have c0 := hmC.cell 0
                have c1 := hmC.cell 1
                have f0 := hmC.frozen 0
                have f1 := hmC.frozen 1
                simp only [List.getElem?_toArray, List.getElem?_cons_zero, List.getElem?_cons_succ] at c0 c1
                have FB := hid (Fn41.out.fin (b := bc38) (c0 := .slice none 0 0) (c1 := .slice none 0 0) (by simp) (.slice (some ⟨b, off, none⟩) n c))
                clear hmC Fn41
                go_wp2_with fail
                go_meet
                exact ⟨_, _, _, rfl, FB⟩
            · simp only [List.getElem_toArray, List.getElem_cons_zero, List.getElem_cons_succ]
              go_simp
              have Fn42 := hid (Fd1.out.mark 25 #[.slice none 0 0, .slice none 0 0])
              obtain ⟨bc42, hbe⟩ : ∃ b, Wd1.heap.size = b := ⟨_, rfl⟩
              rw [hbe] at Fn42 ⊢
              generalize Wd1.alloc (.cells #[.slice none 0 0, .slice none 0 0] 25) = wn42 at Fn42 ⊢
              clear hbe Fd1
              refine hK.out _ _ (HRD.out _ Fn42.out.kp) (fun hS => ?_)
              clear hK
              simp only [List.setIfInBounds_toArray, List.set_cons_zero, List.set_cons_succ]
              clear hS
              refine wpAnyH_ready (rs := [2, 7]) (by kernel_rfl) (by simp) (AllReadyH.cons rfl (fun K hK => ?_) (AllReadyH.cons rfl (fun K hK => ?_) AllReadyH.nil))
              · simp only [List.getElem_toArray, List.getElem_cons_zero, List.getElem_cons_succ]
                go_simp
                have Fn43 := hid Fn42.out.mt
                obtain ⟨be43, hbe⟩ : ∃ b, wn42.heap.size = b := ⟨_, rfl⟩
                rw [hbe] at Fn43 ⊢
                generalize wn42.alloc (.cells #[] 41) = wn43 at Fn43 ⊢
                clear hbe Fn42
                refine hK.out _ _ (HRD.out _ Fn43.out.kp) (fun hS => ?_)
                clear hK
                simp only [List.setIfInBounds_toArray, List.set_cons_zero, List.set_cons_succ]
                clear hS
                refine wpAnyH_ready (rs := [5, 7]) (by kernel_rfl) (by simp) (AllReadyH.cons rfl (fun K hK => ?_) (AllReadyH.cons rfl (fun K hK => ?_) AllReadyH.nil))
                · refine step_appl usT tc_one (by rfl) (.tmp 67) (.tmp 69) (by rfl) (.slice (some ⟨be43, 0, none⟩) 0 0) (.slice A2 m c2) (by rfl) (by rfl) Fn43.out.ow (HT.out.kp0 (KL5.out.trans Fn43.out.kp)) (by rw [HM.out]; simp; omega) (by rw [HM.out]; simp [maxLen]; omega) Fn43.out.kp.size ?_
                  intro va44 wn44 o8 g8 p8
                  have Fn44 := hid (Fn43.out.app o8 g8 p8)
                  clear o8 g8 p8 Fn43
                  refine hK.out _ _ (HRD.out _ Fn44.out.kp) (fun hS => ?_)
                  clear hK
                  simp only [List.setIfInBounds_toArray, List.set_cons_zero, List.set_cons_succ, Act.put]
                  clear hS
                  refine wpAnyH_ready (rs := [7]) (by kernel_rfl) (by simp) (AllReadyH.cons rfl (fun K hK => ?_) AllReadyH.nil)
                  simp only [List.getElem_toArray, List.getElem_cons_zero, List.getElem_cons_succ]
                  go_simp
                  have Fn45 := hid (Fn44.out.mark 41 #[.int .i64 (T + 1), .int .i64 (gid), .int .i64 (1 + wt), .int .u64 co, .bool false, .int .i64 0, .int .i64 0, .int .i64 0])
                  obtain ⟨bu45, hbe⟩ : ∃ b, wn44.heap.size = b := ⟨_, rfl⟩
                  rw [hbe] at Fn45 ⊢
                  generalize wn44.alloc (.cells #[.int .i64 (T + 1), .int .i64 (gid), .int .i64 (1 + wt), .int .u64 co, .bool false, .int .i64 0, .int .i64 0, .int .i64 0] 41) = wn45 at Fn45 ⊢
                  clear hbe Fn44
                  refine hK.out _ _ (HRD.out _ Fn45.out.kp) (fun hS => ?_)
                  clear hK
                  simp only [List.setIfInBounds_toArray, List.set_cons_zero, List.set_cons_succ]
                  clear hS
                  refine wpAnyH_ready (rs := [8]) (by kernel_rfl) (by simp) (AllReadyH.cons rfl (fun K hK => ?_) AllReadyH.nil)
                  have hmU := (Fn45.out.mks (bu45, 41, #[.int .i64 (T + 1), .int .i64 (gid), .int .i64 (1 + wt), .int .u64 co, .bool false, .int .i64 0, .int .i64 0, .int .i64 0]) (by simp)).1
                  refine step_app1 usT tc_one (by rfl) (.tmp 70) (.tmp 72) (by rfl) (base := w5.heap.size) (xs := ([] ++ ts)) (y := (⟨T + 1, gid, 1 + wt, co, false, 0, 0, 0⟩ : TS)) (by rfl) (by exact Fn45.out.ow) (by rfl) (fun i hi => by
                      match i, hi with
                      | 0, _ => exact hmU.cell 0
                      | 1, _ => exact hmU.cell 1
                      | 2, _ => exact hmU.cell 2
                      | 3, _ => exact hmU.cell 3
                      | 4, _ => exact hmU.cell 4
                      | 5, _ => exact hmU.cell 5
                      | 6, _ => exact hmU.cell 6
                      | 7, _ => exact hmU.cell 7) (by rw [List.nil_append, HM.out]; omega) (by rw [List.nil_append, HM.out]; simp only [maxLen]; omega) (by exact Fn45.out.kp.size) ?_
                  intro vp46 wn46 o8 g8 p8
                  obtain ⟨Ap46, cp46, rfl⟩ := o8.formN (m := m + 1) (by rw [List.nil_append, List.length_append, HM.out]; rfl)
                  have Fn46 := hid (Fn45.out.app o8 g8 p8)
                  clear o8 g8 p8 hmU Fn45
                  refine hK.out _ _ (HRD.out _ Fn46.out.kp) (fun hS => ?_)
                  clear hK
                  simp only [List.setIfInBounds_toArray, List.set_cons_zero, List.set_cons_succ, Act.put]
                  refine wpAnyH_take (i := 9) (v := ?_) rfl (by kernel_rfl) (by kernel_rfl) (by kernel_rfl) (fun _ _ _ h => h) (Or.inl ⟨by rfl, ?_⟩) hS ?_
                  rotate_left
                  · (intro w6 hS6; obtain ⟨hB6, hX6⟩ := hS6; have z0 := hB6.cell 0; have z1 := hB6.cell 1; have y0 := hX6.cell 0; have y1 := hX6.cell 1; have y2 := hX6.cell 2; have y3 := hX6.cell 3; have y4 := hX6.cell 4; have y5 := hX6.cell 5; have y6 := hX6.cell 6; have y7 := hX6.cell 7; simp only [List.getElem?_toArray, List.getElem?_cons_zero, List.getElem?_cons_succ] at z0 z1 y0 y1 y2 y3 y4 y5 y6 y7; (try go_simp); (try with_reducible rfl))
                  simp only [List.getElem_toArray, List.getElem_cons_zero, List.getElem_cons_succ, Act.put, List.setIfInBounds_toArray, List.set_cons_zero, List.set_cons_succ]
                  clear hS
                  refine wpAnyH_done (by kernel_rfl) ?_ _
                  refine then_of ?_
                  simp only [List.cons_append, List.nil_append]
                  have hmC := (Fn46.out.mks (bc42, 25, #[.slice none 0 0, .slice none 0 0]) (by simp)).1
                  have c0 := hmC.cell 0
                  have c1 := hmC.cell 1
                  have f0 := hmC.frozen 0
                  have f1 := hmC.frozen 1
                  simp only [List.getElem?_toArray, List.getElem?_cons_zero, List.getElem?_cons_succ] at c0 c1
                  have FB := hid (Fn46.out.fin (b := bc42) (c0 := .slice none 0 0) (c1 := .slice none 0 0) (by simp) (.slice (some ⟨b, off, none⟩) n c))
                  clear hmC Fn46
                  go_wp2_with fail
                  go_meet
                  exact ⟨_, _, _, rfl, FB⟩
                · simp only [List.getElem_toArray, List.getElem_cons_zero, List.getElem_cons_succ]
                  go_simp
                  have Fn47 := hid (Fn43.out.mark 41 #[.int .i64 (T + 1), .int .i64 (gid), .int .i64 (1 + wt), .int .u64 co, .bool false, .int .i64 0, .int .i64 0, .int .i64 0])
                  obtain ⟨bu47, hbe⟩ : ∃ b, wn43.heap.size = b := ⟨_, rfl⟩
                  rw [hbe] at Fn47 ⊢
                  generalize wn43.alloc (.cells #[.int .i64 (T + 1), .int .i64 (gid), .int .i64 (1 + wt), .int .u64 co, .bool false, .int .i64 0, .int .i64 0, .int .i64 0] 41) = wn47 at Fn47 ⊢
                  clear hbe Fn43
                  refine hK.out _ _ (HRD.out _ Fn47.out.kp) (fun hS => ?_)
                  clear hK
                  simp only [List.setIfInBounds_toArray, List.set_cons_zero, List.set_cons_succ]
                  clear hS
                  refine wpAnyH_ready (rs := [5]) (by kernel_rfl) (by simp) (AllReadyH.cons rfl (fun K hK => ?_) AllReadyH.nil)
                  refine step_appl usT tc_one (by rfl) (.tmp 67) (.tmp 69) (by rfl) (.slice (some ⟨be43, 0, none⟩) 0 0) (.slice A2 m c2) (by rfl) (by rfl) Fn47.out.ow (HT.out.kp0 (KL5.out.trans Fn47.out.kp)) (by rw [HM.out]; simp; omega) (by rw [HM.out]; simp [maxLen]; omega) Fn47.out.kp.size ?_
                  intro va48 wn48 o8 g8 p8
                  have Fn48 := hid (Fn47.out.app o8 g8 p8)
                  clear o8 g8 p8 Fn47
                  refine hK.out _ _ (HRD.out _ Fn48.out.kp) (fun hS => ?_)
                  clear hK
                  simp only [List.setIfInBounds_toArray, List.set_cons_zero, List.set_cons_succ, Act.put]
                  clear hS
                  refine wpAnyH_ready (rs := [8]) (by kernel_rfl) (by simp) (AllReadyH.cons rfl (fun K hK => ?_) AllReadyH.nil)
                  have hmU := (Fn48.out.mks (bu47, 41, #[.int .i64 (T + 1), .int .i64 (gid), .int .i64 (1 + wt), .int .u64 co, .bool false, .int .i64 0, .int .i64 0, .int .i64 0]) (by simp)).1
                  refine step_app1 usT tc_one (by rfl) (.tmp 70) (.tmp 72) (by rfl) (base := w5.heap.size) (xs := ([] ++ ts)) (y := (⟨T + 1, gid, 1 + wt, co, false, 0, 0, 0⟩ : TS)) (by rfl) (by exact Fn48.out.ow) (by rfl) (fun i hi => by
                      match i, hi with
                      | 0, _ => exact hmU.cell 0
                      | 1, _ => exact hmU.cell 1
                      | 2, _ => exact hmU.cell 2
                      | 3, _ => exact hmU.cell 3
                      | 4, _ => exact hmU.cell 4
                      | 5, _ => exact hmU.cell 5
                      | 6, _ => exact hmU.cell 6
                      | 7, _ => exact hmU.cell 7) (by rw [List.nil_append, HM.out]; omega) (by rw [List.nil_append, HM.out]; simp only [maxLen]; omega) (by exact Fn48.out.kp.size) ?_
                  intro vp49 wn49 o8 g8 p8
                  obtain ⟨Ap49, cp49, rfl⟩ := o8.formN (m := m + 1) (by rw [List.nil_append, List.length_append, HM.out]; rfl)
                  have Fn49 := hid (Fn48.out.app o8 g8 p8)
                  clear o8 g8 p8 hmU Fn48
                  refine hK.out _ _ (HRD.out _ Fn49.out.kp) (fun hS => ?_)
                  clear hK
                  simp only [List.setIfInBounds_toArray, List.set_cons_zero, List.set_cons_succ, Act.put]
                  refine wpAnyH_take (i := 9) (v := ?_) rfl (by kernel_rfl) (by kernel_rfl) (by kernel_rfl) (fun _ _ _ h => h) (Or.inl ⟨by rfl, ?_⟩) hS ?_
                  rotate_left
                  · (intro w6 hS6; obtain ⟨hB6, hX6⟩ := hS6; have z0 := hB6.cell 0; have z1 := hB6.cell 1; have y0 := hX6.cell 0; have y1 := hX6.cell 1; have y2 := hX6.cell 2; have y3 := hX6.cell 3; have y4 := hX6.cell 4; have y5 := hX6.cell 5; have y6 := hX6.cell 6; have y7 := hX6.cell 7; simp only [List.getElem?_toArray, List.getElem?_cons_zero, List.getElem?_cons_succ] at z0 z1 y0 y1 y2 y3 y4 y5 y6 y7; (try go_simp); (try with_reducible rfl))
                  simp only [List.getElem_toArray, List.getElem_cons_zero, List.getElem_cons_succ, Act.put, List.setIfInBounds_toArray, List.set_cons_zero, List.set_cons_succ]
                  clear hS
                  refine wpAnyH_done (by kernel_rfl) ?_ _
                  refine then_of ?_
                  simp only [List.cons_append, List.nil_append]
                  have hmC := (Fn49.out.mks (bc42, 25, #[.slice none 0 0, .slice none 0 0]) (by simp)).1
                  have c0 := hmC.cell 0
                  have c1 := hmC.cell 1
                  have f0 := hmC.frozen 0
                  have f1 := hmC.frozen 1
                  simp only [List.getElem?_toArray, List.getElem?_cons_zero, List.getElem?_cons_succ] at c0 c1
                  have FB := hid (Fn49.out.fin (b := bc42) (c0 := .slice none 0 0) (c1 := .slice none 0 0) (by simp) (.slice (some ⟨b, off, none⟩) n c))
                  clear hmC Fn49
                  go_wp2_with fail
                  go_meet
                  exact ⟨_, _, _, rfl, FB⟩
              · simp only [List.getElem_toArray, List.getElem_cons_zero, List.getElem_cons_succ]
                go_simp
                have Fn50 := hid (Fn42.out.mark 41 #[.int .i64 (T + 1), .int .i64 (gid), .int .i64 (1 + wt), .int .u64 co, .bool false, .int .i64 0, .int .i64 0, .int .i64 0])
                obtain ⟨bu50, hbe⟩ : ∃ b, wn42.heap.size = b := ⟨_, rfl⟩
                rw [hbe] at Fn50 ⊢
                generalize wn42.alloc (.cells #[.int .i64 (T + 1), .int .i64 (gid), .int .i64 (1 + wt), .int .u64 co, .bool false, .int .i64 0, .int .i64 0, .int .i64 0] 41) = wn50 at Fn50 ⊢
                clear hbe Fn42
                refine hK.out _ _ (HRD.out _ Fn50.out.kp) (fun hS => ?_)
                clear hK
                simp only [List.setIfInBounds_toArray, List.set_cons_zero, List.set_cons_succ]
                clear hS
                refine wpAnyH_ready (rs := [2]) (by kernel_rfl) (by simp) (AllReadyH.cons rfl (fun K hK => ?_) AllReadyH.nil)
                simp only [List.getElem_toArray, List.getElem_cons_zero, List.getElem_cons_succ]
                go_simp
                have Fn51 := hid Fn50.out.mt
                obtain ⟨be51, hbe⟩ : ∃ b, wn50.heap.size = b := ⟨_, rfl⟩
                rw [hbe] at Fn51 ⊢
                generalize wn50.alloc (.cells #[] 41) = wn51 at Fn51 ⊢
                clear hbe Fn50
                refine hK.out _ _ (HRD.out _ Fn51.out.kp) (fun hS => ?_)
                clear hK
                simp only [List.setIfInBounds_toArray, List.set_cons_zero, List.set_cons_succ]
                clear hS
                refine wpAnyH_ready (rs := [5]) (by kernel_rfl) (by simp) (AllReadyH.cons rfl (fun K hK => ?_) AllReadyH.nil)
                refine step_appl usT tc_one (by rfl) (.tmp 67) (.tmp 69) (by rfl) (.slice (some ⟨be51, 0, none⟩) 0 0) (.slice A2 m c2) (by rfl) (by rfl) Fn51.out.ow (HT.out.kp0 (KL5.out.trans Fn51.out.kp)) (by rw [HM.out]; simp; omega) (by rw [HM.out]; simp [maxLen]; omega) Fn51.out.kp.size ?_
                intro va52 wn52 o8 g8 p8
                have Fn52 := hid (Fn51.out.app o8 g8 p8)
                clear o8 g8 p8 Fn51
                refine hK.out _ _ (HRD.out _ Fn52.out.kp) (fun hS => ?_)
                clear hK
                simp only [List.setIfInBounds_toArray, List.set_cons_zero, List.set_cons_succ, Act.put]
                clear hS
                refine wpAnyH_ready (rs := [8]) (by kernel_rfl) (by simp) (AllReadyH.cons rfl (fun K hK => ?_) AllReadyH.nil)
                have hmU := (Fn52.out.mks (bu50, 41, #[.int .i64 (T + 1), .int .i64 (gid), .int .i64 (1 + wt), .int .u64 co, .bool false, .int .i64 0, .int .i64 0, .int .i64 0]) (by simp)).1
                refine step_app1 usT tc_one (by rfl) (.tmp 70) (.tmp 72) (by rfl) (base := w5.heap.size) (xs := ([] ++ ts)) (y := (⟨T + 1, gid, 1 + wt, co, false, 0, 0, 0⟩ : TS)) (by rfl) (by exact Fn52.out.ow) (by rfl) (fun i hi => by
                    match i, hi with
                    | 0, _ => exact hmU.cell 0
                    | 1, _ => exact hmU.cell 1
                    | 2, _ => exact hmU.cell 2
                    | 3, _ => exact hmU.cell 3
                    | 4, _ => exact hmU.cell 4
                    | 5, _ => exact hmU.cell 5
                    | 6, _ => exact hmU.cell 6
                    | 7, _ => exact hmU.cell 7) (by rw [List.nil_append, HM.out]; omega) (by rw [List.nil_append, HM.out]; simp only [maxLen]; omega) (by exact Fn52.out.kp.size) ?_
                intro vp53 wn53 o8 g8 p8
                obtain ⟨Ap53, cp53, rfl⟩ := o8.formN (m := m + 1) (by rw [List.nil_append, List.length_append, HM.out]; rfl)
                have Fn53 := hid (Fn52.out.app o8 g8 p8)
                clear o8 g8 p8 hmU Fn52
                refine hK.out _ _ (HRD.out _ Fn53.out.kp) (fun hS => ?_)
                clear hK
                simp only [List.setIfInBounds_toArray, List.set_cons_zero, List.set_cons_succ, Act.put]
                refine wpAnyH_take (i := 9) (v := ?_) rfl (by kernel_rfl) (by kernel_rfl) (by kernel_rfl) (fun _ _ _ h => h) (Or.inl ⟨by rfl, ?_⟩) hS ?_
                rotate_left
                · (intro w6 hS6; obtain ⟨hB6, hX6⟩ := hS6; have z0 := hB6.cell 0; have z1 := hB6.cell 1; have y0 := hX6.cell 0; have y1 := hX6.cell 1; have y2 := hX6.cell 2; have y3 := hX6.cell 3; have y4 := hX6.cell 4; have y5 := hX6.cell 5; have y6 := hX6.cell 6; have y7 := hX6.cell 7; simp only [List.getElem?_toArray, List.getElem?_cons_zero, List.getElem?_cons_succ] at z0 z1 y0 y1 y2 y3 y4 y5 y6 y7; (try go_simp); (try with_reducible rfl))
                simp only [List.getElem_toArray, List.getElem_cons_zero, List.getElem_cons_succ, Act.put, List.setIfInBounds_toArray, List.set_cons_zero, List.set_cons_succ]
                clear hS
                refine wpAnyH_done (by kernel_rfl) ?_ _
                refine then_of ?_
                simp only [List.cons_append, List.nil_append]
                have hmC := (Fn53.out.mks (bc42, 25, #[.slice none 0 0, .slice none 0 0]) (by simp)).1
                have c0 := hmC.cell 0
                have c1 := hmC.cell 1
                have f0 := hmC.frozen 0
                have f1 := hmC.frozen 1
                simp only [List.getElem?_toArray, List.getElem?_cons_zero, List.getElem?_cons_succ] at c0 c1
                have FB := hid (Fn53.out.fin (b := bc42) (c0 := .slice none 0 0) (c1 := .slice none 0 0) (by simp) (.slice (some ⟨b, off, none⟩) n c))
                clear hmC Fn53
                go_wp2_with fail
                go_meet
                exact ⟨_, _, _, rfl, FB⟩
          case rest =>
            obtain ⟨q1, A1, c1, rfl, HB1⟩ := hcut
            obtain ⟨w6, hw6⟩ : ∃ w6, wc = w6 := ⟨_, rfl⟩
            rw [hw6] at HB1 ⊢
            clear hw6 HRD
            have X6 := hid (X5.out.kp0 HB1.out.kp)
            have XN := hid (show xb < w5.heap.size from X5.out.lt)
            have kx : Kp (Only xb) w6 (w6.setCell ⟨xb, 1, none⟩ (.int .i64 (T + 2))) := Kp.set1 xb 1 w6 _
            have X7 := hid (X6.out.put 1 (.int .i64 (T + 2)))
            simp only [List.setIfInBounds_toArray, List.set_cons_zero, List.set_cons_succ] at X7
            have B7 := hid ((B5.out.kp0 HB1.out.kp).kp kx fun e => by have e : w.heap.size = xb := e; have h1 := B0.out.lt; have h2 := HXN.out; omega)
            have HB2 := hid (show Bx w5 (w6.setCell ⟨xb, 1, none⟩ (.int .i64 (T + 2))) q1 (.slice (some ⟨b, off, none⟩) n c) (.slice A1 (m + 1) c1) (([] ++ ts) ++ [(⟨T + 1, gid, 1 + wt, co, false, 0, 0, 0⟩ : TS)]) ∨ True from .inr trivial)
            have O7 := hid (HB1.out.ow.kpx kx fun i hi e => by have e : i = xb := e; have h1 := (HB1.out.ow.blk hi).1; have h2 := XN.out; omega)
            have Q7 := hid (HB1.out.bx.kp kx fun e => by have e : q1 = xb := e; have h1 := HB1.out.lb; have h2 := XN.out; omega)
            have K7 := hid (show Kp No w0 (w6.setCell ⟨xb, 1, none⟩ (.int .i64 (T + 2))) from (KL5.out.trans HB1.out.kp).step kx fun i hi e => by have e : i = xb := e; have h2 := HXN.out; omega)
            have x61 : w6.cell? ⟨xb, 1, none⟩ = some (.int .i64 gid) := X6.out.cell 1
            have f61 : w6.frozen? ⟨xb, 1, none⟩ = false := X6.out.frozen 1
            clear kx HB2
            go_upto_region 15 with fail
            clear x61 f61
            obtain ⟨w7, hw7⟩ : ∃ w7, w6.setCell ⟨xb, 1, none⟩ (.int .i64 (T + 2)) = w7 := ⟨_, rfl⟩
            rw [hw7] at X7 B7 O7 Q7 K7 ⊢
            clear hw7 X6 HB1 X5 B5 KL5
            have KL5 := K7
            have HRD := hid (fun (W : World) (k : Kp No w7 W) => show Blk W w.heap.size 25 #[.slice (some ⟨b, off, none⟩) n c, .slice A2 m c2] ∧ Blk W xb 41 #[.int .i64 (T + 1), .int .i64 (T + 2), .int .i64 (1 + wt), .int .u64 co, .bool false, .int .i64 0, .int .i64 0, .int .i64 0] from ⟨B7.out.kp0 k, X7.out.kp0 k⟩)
            go_cut [17] (fun s wx => ∃ (q2 : Nat) (A1 : Option Addr) (c1 : Nat), s = .pointer (some ⟨q2, 0, none⟩) ∧ Hid (Bx w7 wx q2 (.slice (some ⟨b, off, none⟩) n c) (.slice A1 (m + 1) c1) (([] ++ ts) ++ [(⟨T + 1, T + 2, 1 + wt, co, false, 0, 0, 0⟩ : TS)])))
            case first =>
              refine region_last 11 rfl (by kernel_rfl) (by kernel_rfl) ?_
              simp only [List.take_succ_cons, List.take_zero, List.length_cons, List.length_nil, Nat.reduceAdd]
              have Fd54 := hid ((Ga.start w7).kp0 (Kp.refl No w7).drew)
              generalize World.drew w7 = Wd54 at Fd54 ⊢
              have HS5 := HRD.out _ Fd54.out.kp
              refine wpAny_of_held (S := (fun w' => Blk w' w.heap.size 25 #[.slice (some ⟨b, off, none⟩) n c, .slice A2 m c2] ∧ Blk w' xb 41 #[.int .i64 (T + 1), .int .i64 (T + 2), .int .i64 (1 + wt), .int .u64 co, .bool false, .int .i64 0, .int .i64 0, .int .i64 0])) _ _ _ _ ?_
              simp only [Array.replicate_succ, Array.replicate_zero, List.push_toArray, List.nil_append, List.cons_append]
              refine wpAnyH_take (i := 0) (v := ?_) rfl (by kernel_rfl) (by kernel_rfl) (by kernel_rfl) (fun _ _ _ h => h) (Or.inl ⟨by rfl, ?_⟩) HS5 ?_
              rotate_left
              · (intro w6 hS6; obtain ⟨hB6, hX6⟩ := hS6; have z0 := hB6.cell 0; have z1 := hB6.cell 1; have y0 := hX6.cell 0; have y1 := hX6.cell 1; have y2 := hX6.cell 2; have y3 := hX6.cell 3; have y4 := hX6.cell 4; have y5 := hX6.cell 5; have y6 := hX6.cell 6; have y7 := hX6.cell 7; simp only [List.getElem?_toArray, List.getElem?_cons_zero, List.getElem?_cons_succ] at z0 z1 y0 y1 y2 y3 y4 y5 y6 y7; (try go_simp); (try with_reducible rfl))
              simp only [List.getElem_toArray, List.getElem_cons_zero, Act.put, List.setIfInBounds_toArray, List.set_cons_zero, List.set_cons_succ]
              refine wpAnyH_take (i := 1) (v := ?_) rfl (by kernel_rfl) (by kernel_rfl) (by kernel_rfl) (fun _ _ _ h => h) (Or.inl ⟨by rfl, ?_⟩) HS5 ?_
              rotate_left
              · (intro w6 hS6; obtain ⟨hB6, hX6⟩ := hS6; have z0 := hB6.cell 0; have z1 := hB6.cell 1; have y0 := hX6.cell 0; have y1 := hX6.cell 1; have y2 := hX6.cell 2; have y3 := hX6.cell 3; have y4 := hX6.cell 4; have y5 := hX6.cell 5; have y6 := hX6.cell 6; have y7 := hX6.cell 7; simp only [List.getElem?_toArray, List.getElem?_cons_zero, List.getElem?_cons_succ] at z0 z1 y0 y1 y2 y3 y4 y5 y6 y7; (try go_simp); (try with_reducible rfl))
              simp only [List.getElem_toArray, List.getElem_cons_zero, List.getElem_cons_succ, Act.put, List.setIfInBounds_toArray, List.set_cons_zero, List.set_cons_succ]
              refine wpAnyH_take (i := 3) (v := ?_) rfl (by kernel_rfl) (by kernel_rfl) (by kernel_rfl) (fun _ _ _ h => h) (Or.inl ⟨by rfl, ?_⟩) HS5 ?_
              rotate_left
              · (intro w6 hS6; obtain ⟨hB6, hX6⟩ := hS6; have z0 := hB6.cell 0; have z1 := hB6.cell 1; have y0 := hX6.cell 0; have y1 := hX6.cell 1; have y2 := hX6.cell 2; have y3 := hX6.cell 3; have y4 := hX6.cell 4; have y5 := hX6.cell 5; have y6 := hX6.cell 6; have y7 := hX6.cell 7; simp only [List.getElem?_toArray, List.getElem?_cons_zero, List.getElem?_cons_succ] at z0 z1 y0 y1 y2 y3 y4 y5 y6 y7; (try go_simp); (try with_reducible rfl))
              simp only [List.getElem_toArray, List.getElem_cons_zero, List.getElem_cons_succ, Act.put, List.setIfInBounds_toArray, List.set_cons_zero, List.set_cons_succ]
              refine wpAnyH_take (i := 4) (v := ?_) rfl (by kernel_rfl) (by kernel_rfl) (by kernel_rfl) (fun _ _ _ h => h) (Or.inl ⟨by rfl, ?_⟩) HS5 ?_
              rotate_left
              · (intro w6 hS6; obtain ⟨hB6, hX6⟩ := hS6; have z0 := hB6.cell 0; have z1 := hB6.cell 1; have y0 := hX6.cell 0; have y1 := hX6.cell 1; have y2 := hX6.cell 2; have y3 := hX6.cell 3; have y4 := hX6.cell 4; have y5 := hX6.cell 5; have y6 := hX6.cell 6; have y7 := hX6.cell 7; simp only [List.getElem?_toArray, List.getElem?_cons_zero, List.getElem?_cons_succ] at z0 z1 y0 y1 y2 y3 y4 y5 y6 y7; (try go_simp); (try with_reducible rfl))
              simp only [List.getElem_toArray, List.getElem_cons_zero, List.getElem_cons_succ, Act.put, List.setIfInBounds_toArray, List.set_cons_zero, List.set_cons_succ]
              refine wpAnyH_take (i := 6) (v := ?_) rfl (by kernel_rfl) (by kernel_rfl) (by kernel_rfl) (fun _ _ _ h => h) (Or.inl ⟨by rfl, ?_⟩) HS5 ?_
              rotate_left
              · (intro w6 hS6; obtain ⟨hB6, hX6⟩ := hS6; have z0 := hB6.cell 0; have z1 := hB6.cell 1; have y0 := hX6.cell 0; have y1 := hX6.cell 1; have y2 := hX6.cell 2; have y3 := hX6.cell 3; have y4 := hX6.cell 4; have y5 := hX6.cell 5; have y6 := hX6.cell 6; have y7 := hX6.cell 7; simp only [List.getElem?_toArray, List.getElem?_cons_zero, List.getElem?_cons_succ] at z0 z1 y0 y1 y2 y3 y4 y5 y6 y7; (try go_simp); (try with_reducible rfl))
              simp only [List.getElem_toArray, List.getElem_cons_zero, List.getElem_cons_succ, Act.put, List.setIfInBounds_toArray, List.set_cons_zero, List.set_cons_succ]
              clear HS5
              refine wpAnyH_ready (rs := [2, 7, 10]) (by kernel_rfl) (by simp) (AllReadyH.cons rfl (fun K hK => ?_) (AllReadyH.cons rfl (fun K hK => ?_) (AllReadyH.cons rfl (fun K hK => ?_) AllReadyH.nil)))
              · simp only [List.getElem_toArray, List.getElem_cons_zero, List.getElem_cons_succ]
                go_simp
                have Fn55 := hid Fd54.out.mt
                obtain ⟨be55, hbe⟩ : ∃ b, Wd54.heap.size = b := ⟨_, rfl⟩
                rw [hbe] at Fn55 ⊢
                generalize Wd54.alloc (.cells #[] 41) = wn55 at Fn55 ⊢
                clear hbe Fd54
                refine hK.out _ _ (HRD.out _ Fn55.out.kp) (fun hS => ?_)
                clear hK
                simp only [List.setIfInBounds_toArray, List.set_cons_zero, List.set_cons_succ]
                clear hS
                refine wpAnyH_ready (rs := [5, 7, 10]) (by kernel_rfl) (by simp) (AllReadyH.cons rfl (fun K hK => ?_) (AllReadyH.cons rfl (fun K hK => ?_) (AllReadyH.cons rfl (fun K hK => ?_) AllReadyH.nil)))
                · refine step_appl usT tc_one (by rfl) (.tmp 80) (.tmp 82) (by rfl) (.slice (some ⟨be55, 0, none⟩) 0 0) (.slice A2 m c2) (by rfl) (by rfl) Fn55.out.ow (HT.out.kp0 (KL5.out.trans Fn55.out.kp)) (by rw [HM.out]; simp; omega) (by rw [HM.out]; simp [maxLen]; omega) Fn55.out.kp.size ?_
                  intro va56 wn56 o8 g8 p8
                  have Fn56 := hid (Fn55.out.app o8 g8 p8)
                  clear o8 g8 p8 Fn55
                  refine hK.out _ _ (HRD.out _ Fn56.out.kp) (fun hS => ?_)
                  clear hK
                  simp only [List.setIfInBounds_toArray, List.set_cons_zero, List.set_cons_succ, Act.put]
                  clear hS
                  refine wpAnyH_ready (rs := [7, 10]) (by kernel_rfl) (by simp) (AllReadyH.cons rfl (fun K hK => ?_) (AllReadyH.cons rfl (fun K hK => ?_) AllReadyH.nil))
                  · simp only [List.getElem_toArray, List.getElem_cons_zero, List.getElem_cons_succ]
                    go_simp
                    have Fn57 := hid (Fn56.out.mark 41 #[.int .i64 (T + 1), .int .i64 (T + 2), .int .i64 (1 + wt), .int .u64 co, .bool false, .int .i64 0, .int .i64 0, .int .i64 0])
                    obtain ⟨bu57, hbe⟩ : ∃ b, wn56.heap.size = b := ⟨_, rfl⟩
                    rw [hbe] at Fn57 ⊢
                    generalize wn56.alloc (.cells #[.int .i64 (T + 1), .int .i64 (T + 2), .int .i64 (1 + wt), .int .u64 co, .bool false, .int .i64 0, .int .i64 0, .int .i64 0] 41) = wn57 at Fn57 ⊢
                    clear hbe Fn56
                    refine hK.out _ _ (HRD.out _ Fn57.out.kp) (fun hS => ?_)
                    clear hK
                    simp only [List.setIfInBounds_toArray, List.set_cons_zero, List.set_cons_succ]
                    clear hS
                    refine wpAnyH_ready (rs := [8, 10]) (by kernel_rfl) (by simp) (AllReadyH.cons rfl (fun K hK => ?_) (AllReadyH.cons rfl (fun K hK => ?_) AllReadyH.nil))
                    · have hmU := (Fn57.out.mks (bu57, 41, #[.int .i64 (T + 1), .int .i64 (T + 2), .int .i64 (1 + wt), .int .u64 co, .bool false, .int .i64 0, .int .i64 0, .int .i64 0]) (by simp)).1
                      refine step_app1 usT tc_one (by rfl) (.tmp 83) (.tmp 85) (by rfl) (base := w7.heap.size) (xs := ([] ++ ts)) (y := (⟨T + 1, T + 2, 1 + wt, co, false, 0, 0, 0⟩ : TS)) (by rfl) (by exact Fn57.out.ow) (by rfl) (fun i hi => by
                          match i, hi with
                          | 0, _ => exact hmU.cell 0
                          | 1, _ => exact hmU.cell 1
                          | 2, _ => exact hmU.cell 2
                          | 3, _ => exact hmU.cell 3
                          | 4, _ => exact hmU.cell 4
                          | 5, _ => exact hmU.cell 5
                          | 6, _ => exact hmU.cell 6
                          | 7, _ => exact hmU.cell 7) (by rw [List.nil_append, HM.out]; omega) (by rw [List.nil_append, HM.out]; simp only [maxLen]; omega) (by exact Fn57.out.kp.size) ?_
                      intro vp58 wn58 o8 g8 p8
                      obtain ⟨Ap58, cp58, rfl⟩ := o8.formN (m := m + 1) (by rw [List.nil_append, List.length_append, HM.out]; rfl)
                      have Fn58 := hid (Fn57.out.app o8 g8 p8)
                      clear o8 g8 p8 hmU Fn57
                      refine hK.out _ _ (HRD.out _ Fn58.out.kp) (fun hS => ?_)
                      clear hK
                      simp only [List.setIfInBounds_toArray, List.set_cons_zero, List.set_cons_succ, Act.put]
                      refine wpAnyH_take (i := 9) (v := ?_) rfl (by kernel_rfl) (by kernel_rfl) (by kernel_rfl) (fun _ _ _ h => h) (Or.inl ⟨by rfl, ?_⟩) hS ?_
                      rotate_left
                      · (intro w6 hS6; obtain ⟨hB6, hX6⟩ := hS6; have z0 := hB6.cell 0; have z1 := hB6.cell 1; have y0 := hX6.cell 0; have y1 := hX6.cell 1; have y2 := hX6.cell 2; have y3 := hX6.cell 3; have y4 := hX6.cell 4; have y5 := hX6.cell 5; have y6 := hX6.cell 6; have y7 := hX6.cell 7; simp only [List.getElem?_toArray, List.getElem?_cons_zero, List.getElem?_cons_succ] at z0 z1 y0 y1 y2 y3 y4 y5 y6 y7; (try go_simp); (try with_reducible rfl))
                      simp only [List.getElem_toArray, List.getElem_cons_zero, List.getElem_cons_succ, Act.put, List.setIfInBounds_toArray, List.set_cons_zero, List.set_cons_succ]
                      clear hS
                      refine wpAnyH_ready (rs := [10]) (by kernel_rfl) (by simp) (AllReadyH.cons rfl (fun K hK => ?_) AllReadyH.nil)
                      simp only [List.getElem_toArray, List.getElem_cons_zero, List.getElem_cons_succ]
                      go_simp
                      have Fn59 := hid (Fn58.out.mark 25 #[.slice none 0 0, .slice none 0 0])
                      obtain ⟨bc59, hbe⟩ : ∃ b, wn58.heap.size = b := ⟨_, rfl⟩
                      rw [hbe] at Fn59 ⊢
                      generalize wn58.alloc (.cells #[.slice none 0 0, .slice none 0 0] 25) = wn59 at Fn59 ⊢
                      clear hbe Fn58
                      refine hK.out _ _ (HRD.out _ Fn59.out.kp) (fun hS => ?_)
                      clear hK
                      simp only [List.setIfInBounds_toArray, List.set_cons_zero, List.set_cons_succ]
                      clear hS
                      refine wpAnyH_done (by kernel_rfl) ?_ _
                      refine then_of ?_
                      simp only [List.cons_append, List.nil_append]
                      have hmC := (Fn59.out.mks (bc59, 25, #[.slice none 0 0, .slice none 0 0]) (by simp)).1
                      have c0 := hmC.cell 0
                      have c1 := hmC.cell 1
                      have f0 := hmC.frozen 0
                      have f1 := hmC.frozen 1
                      simp only [List.getElem?_toArray, List.getElem?_cons_zero, List.getElem?_cons_succ] at c0 c1
                      have FB := hid (Fn59.out.fin (b := bc59) (c0 := .slice none 0 0) (c1 := .slice none 0 0) (by simp) (.slice (some ⟨b, off, none⟩) n c))
                      clear hmC Fn59
                      go_wp2_with fail
                      go_meet
                      exact ⟨_, _, _, rfl, FB⟩
                    · simp only [List.getElem_toArray, List.getElem_cons_zero, List.getElem_cons_succ]
                      go_simp
                      have Fn60 := hid (Fn57.out.mark 25 #[.slice none 0 0, .slice none 0 0])
                      obtain ⟨bc60, hbe⟩ : ∃ b, wn57.heap.size = b := ⟨_, rfl⟩
                      rw [hbe] at Fn60 ⊢
                      generalize wn57.alloc (.cells #[.slice none 0 0, .slice none 0 0] 25) = wn60 at Fn60 ⊢
                      clear hbe Fn57
                      refine hK.out _ _ (HRD.out _ Fn60.out.kp) (fun hS => ?_)
                      clear hK
                      simp only [List.setIfInBounds_toArray, List.set_cons_zero, List.set_cons_succ]
                      clear hS
                      refine wpAnyH_ready (rs := [8]) (by kernel_rfl) (by simp) (AllReadyH.cons rfl (fun K hK => ?_) AllReadyH.nil)
                      have hmU := (Fn60.out.mks (bu57, 41, #[.int .i64 (T + 1), .int .i64 (T + 2), .int .i64 (1 + wt), .int .u64 co, .bool false, .int .i64 0, .int .i64 0, .int .i64 0]) (by simp)).1
                      refine step_app1 usT tc_one (by rfl) (.tmp 83) (.tmp 85) (by rfl) (base := w7.heap.size) (xs := ([] ++ ts)) (y := (⟨T + 1, T + 2, 1 + wt, co, false, 0, 0, 0⟩ : TS)) (by rfl) (by exact Fn60.out.ow) (by rfl) (fun i hi => by
                          match i, hi with
                          | 0, _ => exact hmU.cell 0
                          | 1, _ => exact hmU.cell 1
                          | 2, _ => exact hmU.cell 2
                          | 3, _ => exact hmU.cell 3
                          | 4, _ => exact hmU.cell 4
                          | 5, _ => exact hmU.cell 5
                          | 6, _ => exact hmU.cell 6
                          | 7, _ => exact hmU.cell 7) (by rw [List.nil_append, HM.out]; omega) (by rw [List.nil_append, HM.out]; simp only [maxLen]; omega) (by exact Fn60.out.kp.size) ?_
                      intro vp61 wn61 o8 g8 p8
                      obtain ⟨Ap61, cp61, rfl⟩ := o8.formN (m := m + 1) (by rw [List.nil_append, List.length_append, HM.out]; rfl)
                      have Fn61 := hid (Fn60.out.app o8 g8 p8)
                      clear o8 g8 p8 hmU Fn60
                      refine hK.out _ _ (HRD.out _ Fn61.out.kp) (fun hS => ?_)
                      clear hK
                      simp only [List.setIfInBounds_toArray, List.set_cons_zero, List.set_cons_succ, Act.put]
                      refine wpAnyH_take (i := 9) (v := ?_) rfl (by kernel_rfl) (by kernel_rfl) (by kernel_rfl) (fun _ _ _ h => h) (Or.inl ⟨by rfl, ?_⟩) hS ?_
                      rotate_left
                      · (intro w6 hS6; obtain ⟨hB6, hX6⟩ := hS6; have z0 := hB6.cell 0; have z1 := hB6.cell 1; have y0 := hX6.cell 0; have y1 := hX6.cell 1; have y2 := hX6.cell 2; have y3 := hX6.cell 3; have y4 := hX6.cell 4; have y5 := hX6.cell 5; have y6 := hX6.cell 6; have y7 := hX6.cell 7; simp only [List.getElem?_toArray, List.getElem?_cons_zero, List.getElem?_cons_succ] at z0 z1 y0 y1 y2 y3 y4 y5 y6 y7; (try go_simp); (try with_reducible rfl))
                      simp only [List.getElem_toArray, List.getElem_cons_zero, List.getElem_cons_succ, Act.put, List.setIfInBounds_toArray, List.set_cons_zero, List.set_cons_succ]
                      clear hS
                      refine wpAnyH_done (by kernel_rfl) ?_ _
                      refine then_of ?_
                      simp only [List.cons_append, List.nil_append]
                      have hmC := (Fn61.out.mks (bc60, 25, #[.slice none 0 0, .slice none 0 0]) (by simp)).1
                      have c0 := hmC.cell 0
                      have c1 := hmC.cell 1
                      have f0 := hmC.frozen 0
                      have f1 := hmC.frozen 1
                      simp only [List.getElem?_toArray, List.getElem?_cons_zero, List.getElem?_cons_succ] at c0 c1
                      have FB := hid (Fn61.out.fin (b := bc60) (c0 := .slice none 0 0) (c1 := .slice none 0 0) (by simp) (.slice (some ⟨b, off, none⟩) n c))
                      clear hmC Fn61
                      go_wp2_with fail
                      go_meet
                      exact ⟨_, _, _, rfl, FB⟩
                  · simp only [List.getElem_toArray, List.getElem_cons_zero, List.getElem_cons_succ]
                    go_simp
                    have Fn62 := hid (Fn56.out.mark 25 #[.slice none 0 0, .slice none 0 0])
                    obtain ⟨bc62, hbe⟩ : ∃ b, wn56.heap.size = b := ⟨_, rfl⟩
                    rw [hbe] at Fn62 ⊢
                    generalize wn56.alloc (.cells #[.slice none 0 0, .slice none 0 0] 25) = wn62 at Fn62 ⊢
                    clear hbe Fn56
                    refine hK.out _ _ (HRD.out _ Fn62.out.kp) (fun hS => ?_)
                    clear hK
                    simp only [List.setIfInBounds_toArray, List.set_cons_zero, List.set_cons_succ]
                    clear hS
                    refine wpAnyH_ready (rs := [7]) (by kernel_rfl) (by simp) (AllReadyH.cons rfl (fun K hK => ?_) AllReadyH.nil)
                    simp only [List.getElem_toArray, List.getElem_cons_zero, List.getElem_cons_succ]
                    go_simp
                    have Fn63 := hid (Fn62.out.mark 41 #[.int .i64 (T + 1), .int .i64 (T + 2), .int .i64 (1 + wt), .int .u64 co, .bool false, .int .i64 0, .int .i64 0, .int .i64 0])
                    obtain ⟨bu63, hbe⟩ : ∃ b, wn62.heap.size = b := ⟨_, rfl⟩
                    rw [hbe] at Fn63 ⊢
                    generalize wn62.alloc (.cells #[.int .i64 (T + 1), .int .i64 (T + 2), .int .i64 (1 + wt), .int .u64 co, .bool false, .int .i64 0, .int .i64 0, .int .i64 0] 41) = wn63 at Fn63 ⊢
                    clear hbe Fn62
                    refine hK.out _ _ (HRD.out _ Fn63.out.kp) (fun hS => ?_)
                    clear hK
                    simp only [List.setIfInBounds_toArray, List.set_cons_zero, List.set_cons_succ]
                    clear hS
                    refine wpAnyH_ready (rs := [8]) (by kernel_rfl) (by simp) (AllReadyH.cons rfl (fun K hK => ?_) AllReadyH.nil)
                    have hmU := (Fn63.out.mks (bu63, 41, #[.int .i64 (T + 1), .int .i64 (T + 2), .int .i64 (1 + wt), .int .u64 co, .bool false, .int .i64 0, .int .i64 0, .int .i64 0]) (by simp)).1
                    refine step_app1 usT tc_one (by rfl) (.tmp 83) (.tmp 85) (by rfl) (base := w7.heap.size) (xs := ([] ++ ts)) (y := (⟨T + 1, T + 2, 1 + wt, co, false, 0, 0, 0⟩ : TS)) (by rfl) (by exact Fn63.out.ow) (by rfl) (fun i hi => by
                        match i, hi with
                        | 0, _ => exact hmU.cell 0
                        | 1, _ => exact hmU.cell 1
                        | 2, _ => exact hmU.cell 2
                        | 3, _ => exact hmU.cell 3
                        | 4, _ => exact hmU.cell 4
                        | 5, _ => exact hmU.cell 5
                        | 6, _ => exact hmU.cell 6
                        | 7, _ => exact hmU.cell 7) (by rw [List.nil_append, HM.out]; omega) (by rw [List.nil_append, HM.out]; simp only [maxLen]; omega) (by exact Fn63.out.kp.size) ?_
                    intro vp64 wn64 o8 g8 p8
                    obtain ⟨Ap64, cp64, rfl⟩ := o8.formN (m := m + 1) (by rw [List.nil_append, List.length_append, HM.out]; rfl)
                    have Fn64 := hid (Fn63.out.app o8 g8 p8)
                    clear o8 g8 p8 hmU Fn63
                    refine hK.out _ _ (HRD.out _ Fn64.out.kp) (fun hS => ?_)
                    clear hK
                    simp only [List.setIfInBounds_toArray, List.set_cons_zero, List.set_cons_succ, Act.put]
                    refine wpAnyH_take (i := 9) (v := ?_) rfl (by kernel_rfl) (by kernel_rfl) (by kernel_rfl) (fun _ _ _ h => h) (Or.inl ⟨by rfl, ?_⟩) hS ?_
                    rotate_left
                    · (intro w6 hS6; obtain ⟨hB6, hX6⟩ := hS6; have z0 := hB6.cell 0; have z1 := hB6.cell 1; have y0 := hX6.cell 0; have y1 := hX6.cell 1; have y2 := hX6.cell 2; have y3 := hX6.cell 3; have y4 := hX6.cell 4; have y5 := hX6.cell 5; have y6 := hX6.cell 6; have y7 := hX6.cell 7; simp only [List.getElem?_toArray, List.getElem?_cons_zero, List.getElem?_cons_succ] at z0 z1 y0 y1 y2 y3 y4 y5 y6 y7; (try go_simp); (try with_reducible rfl))
                    simp only [List.getElem_toArray, List.getElem_cons_zero, List.getElem_cons_succ, Act.put, List.setIfInBounds_toArray, List.set_cons_zero, List.set_cons_succ]
                    clear hS
                    refine wpAnyH_done (by kernel_rfl) ?_ _
                    refine then_of ?_
                    simp only [List.cons_append, List.nil_append]
                    have hmC := (Fn64.out.mks (bc62, 25, #[.slice none 0 0, .slice none 0 0]) (by simp)).1
                    have c0 := hmC.cell 0
                    have c1 := hmC.cell 1
                    have f0 := hmC.frozen 0
                    have f1 := hmC.frozen 1
                    simp only [List.getElem?_toArray, List.getElem?_cons_zero, List.getElem?_cons_succ] at c0 c1
                    have FB := hid (Fn64.out.fin (b := bc62) (c0 := .slice none 0 0) (c1 := .slice none 0 0) (by simp) (.slice (some ⟨b, off, none⟩) n c))
                    clear hmC Fn64
                    go_wp2_with fail
                    go_meet
                    exact ⟨_, _, _, rfl, FB⟩
                · simp only [List.getElem_toArray, List.getElem_cons_zero, List.getElem_cons_succ]
                  go_simp
                  have Fn65 := hid (Fn55.out.mark 41 #[.int .i64 (T + 1), .int .i64 (T + 2), .int .i64 (1 + wt), .int .u64 co, .bool false, .int .i64 0, .int .i64 0, .int .i64 0])
                  obtain ⟨bu65, hbe⟩ : ∃ b, wn55.heap.size = b := ⟨_, rfl⟩
                  rw [hbe] at Fn65 ⊢
                  generalize wn55.alloc (.cells #[.int .i64 (T + 1), .int .i64 (T + 2), .int .i64 (1 + wt), .int .u64 co, .bool false, .int .i64 0, .int .i64 0, .int .i64 0] 41) = wn65 at Fn65 ⊢
                  clear hbe Fn55
                  refine hK.out _ _ (HRD.out _ Fn65.out.kp) (fun hS => ?_)
                  clear hK
                  simp only [List.setIfInBounds_toArray, List.set_cons_zero, List.set_cons_succ]
                  clear hS
                  refine wpAnyH_ready (rs := [5, 10]) (by kernel_rfl) (by simp) (AllReadyH.cons rfl (fun K hK => ?_) (AllReadyH.cons rfl (fun K hK => ?_) AllReadyH.nil))
                  · refine step_appl usT tc_one (by rfl) (.tmp 80) (.tmp 82) (by rfl) (.slice (some ⟨be55, 0, none⟩) 0 0) (.slice A2 m c2) (by rfl) (by rfl) Fn65.out.ow (HT.out.kp0 (KL5.out.trans Fn65.out.kp)) (by rw [HM.out]; simp; omega) (by rw [HM.out]; simp [maxLen]; omega) Fn65.out.kp.size ?_
                    intro va66 wn66 o8 g8 p8
                    have Fn66 := hid (Fn65.out.app o8 g8 p8)
                    clear o8 g8 p8 Fn65
                    refine hK.out _ _ (HRD.out _ Fn66.out.kp) (fun hS => ?_)
                    clear hK
                    simp only [List.setIfInBounds_toArray, List.set_cons_zero, List.set_cons_succ, Act.put]
                    clear hS
                    refine wpAnyH_ready (rs := [8, 10]) (by kernel_rfl) (by simp) (AllReadyH.cons rfl (fun K hK => ?_) (AllReadyH.cons rfl (fun K hK => ?_) AllReadyH.nil))
                    · have hmU := (Fn66.out.mks (bu65, 41, #[.int .i64 (T + 1), .int .i64 (T + 2), .int .i64 (1 + wt), .int .u64 co, .bool false, .int .i64 0, .int .i64 0, .int .i64 0]) (by simp)).1
                      refine step_app1 usT tc_one (by rfl) (.tmp 83) (.tmp 85) (by rfl) (base := w7.heap.size) (xs := ([] ++ ts)) (y := (⟨T + 1, T + 2, 1 + wt, co, false, 0, 0, 0⟩ : TS)) (by rfl) (by exact Fn66.out.ow) (by rfl) (fun i hi => by
                          match i, hi with
                          | 0, _ => exact hmU.cell 0
                          | 1, _ => exact hmU.cell 1
                          | 2, _ => exact hmU.cell 2
                          | 3, _ => exact hmU.cell 3
                          | 4, _ => exact hmU.cell 4
                          | 5, _ => exact hmU.cell 5
                          | 6, _ => exact hmU.cell 6
                          | 7, _ => exact hmU.cell 7) (by rw [List.nil_append, HM.out]; omega) (by rw [List.nil_append, HM.out]; simp only [maxLen]; omega) (by exact Fn66.out.kp.size) ?_
                      intro vp67 wn67 o8 g8 p8
                      obtain ⟨Ap67, cp67, rfl⟩ := o8.formN (m := m + 1) (by rw [List.nil_append, List.length_append, HM.out]; rfl)
                      have Fn67 := hid (Fn66.out.app o8 g8 p8)
                      clear o8 g8 p8 hmU Fn66
                      refine hK.out _ _ (HRD.out _ Fn67.out.kp) (fun hS => ?_)
                      clear hK
                      simp only [List.setIfInBounds_toArray, List.set_cons_zero, List.set_cons_succ, Act.put]
                      refine wpAnyH_take (i := 9) (v := ?_) rfl (by kernel_rfl) (by kernel_rfl) (by kernel_rfl) (fun _ _ _ h => h) (Or.inl ⟨by rfl, ?_⟩) hS ?_
                      rotate_left
                      · (intro w6 hS6; obtain ⟨hB6, hX6⟩ := hS6; have z0 := hB6.cell 0; have z1 := hB6.cell 1; have y0 := hX6.cell 0; have y1 := hX6.cell 1; have y2 := hX6.cell 2; have y3 := hX6.cell 3; have y4 := hX6.cell 4; have y5 := hX6.cell 5; have y6 := hX6.cell 6; have y7 := hX6.cell 7; simp only [List.getElem?_toArray, List.getElem?_cons_zero, List.getElem?_cons_succ] at z0 z1 y0 y1 y2 y3 y4 y5 y6 y7; (try go_simp); (try with_reducible rfl))
                      simp only [List.getElem_toArray, List.getElem_cons_zero, List.getElem_cons_succ, Act.put, List.setIfInBounds_toArray, List.set_cons_zero, List.set_cons_succ]
                      clear hS
                      refine wpAnyH_ready (rs := [10]) (by kernel_rfl) (by simp) (AllReadyH.cons rfl (fun K hK => ?_) AllReadyH.nil)
                      simp only [List.getElem_toArray, List.getElem_cons_zero, List.getElem_cons_succ]
                      go_simp
                      have Fn68 := hid (Fn67.out.mark 25 #[.slice none 0 0, .slice none 0 0])
                      obtain ⟨bc68, hbe⟩ : ∃ b, wn67.heap.size = b := ⟨_, rfl⟩
                      rw [hbe] at Fn68 ⊢
                      generalize wn67.alloc (.cells #[.slice none 0 0, .slice none 0 0] 25) = wn68 at Fn68 ⊢
                      clear hbe Fn67
                      refine hK.out _ _ (HRD.out _ Fn68.out.kp) (fun hS => ?_)
                      clear hK
                      simp only [List.setIfInBounds_toArray, List.set_cons_zero, List.set_cons_succ]
                      clear hS
                      refine wpAnyH_done (by kernel_rfl) ?_ _
                      refine then_of ?_
                      simp only [List.cons_append, List.nil_append]
                      have hmC := (Fn68.out.mks (bc68, 25, #[.slice none 0 0, .slice none 0 0]) (by simp)).1
                      have c0 := hmC.cell 0
                      have c1 := hmC.cell 1
                      have f0 := hmC.frozen 0
                      have f1 := hmC.frozen 1
                      simp only [List.getElem?_toArray, List.getElem?_cons_zero, List.getElem?_cons_succ] at c0 c1
                      have FB := hid (Fn68.out.fin (b := bc68) (c0 := .slice none 0 0) (c1 := .slice none 0 0) (by simp) (.slice (some ⟨b, off, none⟩) n c))
                      clear hmC Fn68
                      go_wp2_with fail
                      go_meet
                      exact ⟨_, _, _, rfl, FB⟩
                    · simp only [List.getElem_toArray, List.getElem_cons_zero, List.getElem_cons_succ]
                      go_simp
                      have Fn69 := hid (Fn66.out.mark 25 #[.slice none 0 0, .slice none 0 0])
                      obtain ⟨bc69, hbe⟩ : ∃ b, wn66.heap.size = b := ⟨_, rfl⟩
                      rw [hbe] at Fn69 ⊢
                      generalize wn66.alloc (.cells #[.slice none 0 0, .slice none 0 0] 25) = wn69 at Fn69 ⊢
                      clear hbe Fn66
                      refine hK.out _ _ (HRD.out _ Fn69.out.kp) (fun hS => ?_)
                      clear hK
                      simp only [List.setIfInBounds_toArray, List.set_cons_zero, List.set_cons_succ]
                      clear hS
                      refine wpAnyH_ready (rs := [8]) (by kernel_rfl) (by simp) (AllReadyH.cons rfl (fun K hK => ?_) AllReadyH.nil)
                      have hmU := (Fn69.out.mks (bu65, 41, #[.int .i64 (T + 1), .int .i64 (T + 2), .int .i64 (1 + wt), .int .u64 co, .bool false, .int .i64 0, .int .i64 0, .int .i64 0]) (by simp)).1
                      refine step_app1 usT tc_one (by rfl) (.tmp 83) (.tmp 85) (by rfl) (base := w7.heap.size) (xs := ([] ++ ts)) (y := (⟨T + 1, T + 2, 1 + wt, co, false, 0, 0, 0⟩ : TS)) (by rfl) (by exact Fn69.out.ow) (by rfl) (fun i hi => by
                          match i, hi with
                          | 0, _ => exact hmU.cell 0
                          | 1, _ => exact hmU.cell 1
                          | 2, _ => exact hmU.cell 2
                          | 3, _ => exact hmU.cell 3
                          | 4, _ => exact hmU.cell 4
                          | 5, _ => exact hmU.cell 5
                          | 6, _ => exact hmU.cell 6
                          | 7, _ => exact hmU.cell 7) (by rw [List.nil_append, HM.out]; omega) (by rw [List.nil_append, HM.out]; simp only [maxLen]; omega) (by exact Fn69.out.kp.size) ?_
                      intro vp70 wn70 o8 g8 p8
                      obtain ⟨Ap70, cp70, rfl⟩ := o8.formN (m := m + 1) (by rw [List.nil_append, List.length_append, HM.out]; rfl)
                      have Fn70 := hid (Fn69.out.app o8 g8 p8)
                      clear o8 g8 p8 hmU Fn69
                      refine hK.out _ _ (HRD.out _ Fn70.out.kp) (fun hS => ?_)
                      clear hK
                      simp only [List.setIfInBounds_toArray, List.set_cons_zero, List.set_cons_succ, Act.put]
                      refine wpAnyH_take (i := 9) (v := ?_) rfl (by kernel_rfl) (by kernel_rfl) (by kernel_rfl) (fun _ _ _ h => h) (Or.inl ⟨by rfl, ?_⟩) hS ?_
                      rotate_left
                      · (intro w6 hS6; obtain ⟨hB6, hX6⟩ := hS6; have z0 := hB6.cell 0; have z1 := hB6.cell 1; have y0 := hX6.cell 0; have y1 := hX6.cell 1; have y2 := hX6.cell 2; have y3 := hX6.cell 3; have y4 := hX6.cell 4; have y5 := hX6.cell 5; have y6 := hX6.cell 6; have y7 := hX6.cell 7; simp only [List.getElem?_toArray, List.getElem?_cons_zero, List.getElem?_cons_succ] at z0 z1 y0 y1 y2 y3 y4 y5 y6 y7; (try go_simp); (try with_reducible rfl))
                      simp only [List.getElem_toArray, List.getElem_cons_zero, List.getElem_cons_succ, Act.put, List.setIfInBounds_toArray, List.set_cons_zero, List.set_cons_succ]
                      clear hS
                      refine wpAnyH_done (by kernel_rfl) ?_ _
                      refine then_of ?_
                      simp only [List.cons_append, List.nil_append]
                      have hmC := (Fn70.out.mks (bc69, 25, #[.slice none 0 0, .slice none 0 0]) (by simp)).1
                      have c0 := hmC.cell 0
                      have c1 := hmC.cell 1
                      have f0 := hmC.frozen 0
                      have f1 := hmC.frozen 1
                      simp only [List.getElem?_toArray, List.getElem?_cons_zero, List.getElem?_cons_succ] at c0 c1
                      have FB := hid (Fn70.out.fin (b := bc69) (c0 := .slice none 0 0) (c1 := .slice none 0 0) (by simp) (.slice (some ⟨b, off, none⟩) n c))
                      clear hmC Fn70
                      go_wp2_with fail
                      go_meet
                      exact ⟨_, _, _, rfl, FB⟩
                  · simp only [List.getElem_toArray, List.getElem_cons_zero, List.getElem_cons_succ]
                    go_simp
                    have Fn71 := hid (Fn65.out.mark 25 #[.slice none 0 0, .slice none 0 0])
                    obtain ⟨bc71, hbe⟩ : ∃ b, wn65.heap.size = b := ⟨_, rfl⟩
                    rw [hbe] at Fn71 ⊢
                    generalize wn65.alloc (.cells #[.slice none 0 0, .slice none 0 0] 25) = wn71 at Fn71 ⊢
                    clear hbe Fn65
                    refine hK.out _ _ (HRD.out _ Fn71.out.kp) (fun hS => ?_)
                    clear hK
                    simp only [List.setIfInBounds_toArray, List.set_cons_zero, List.set_cons_succ]
                    clear hS
                    refine wpAnyH_ready (rs := [5]) (by kernel_rfl) (by simp) (AllReadyH.cons rfl (fun K hK => ?_) AllReadyH.nil)
                    refine step_appl usT tc_one (by rfl) (.tmp 80) (.tmp 82) (by rfl) (.slice (some ⟨be55, 0, none⟩) 0 0) (.slice A2 m c2) (by rfl) (by rfl) Fn71.out.ow (HT.out.kp0 (KL5.out.trans Fn71.out.kp)) (by rw [HM.out]; simp; omega) (by rw [HM.out]; simp [maxLen]; omega) Fn71.out.kp.size ?_
                    intro va72 wn72 o8 g8 p8
                    have Fn72 := hid (Fn71.out.app o8 g8 p8)
                    clear o8 g8 p8 Fn71
                    refine hK.out _ _ (HRD.out _ Fn72.out.kp) (fun hS => ?_)
                    clear hK
                    simp only [List.setIfInBounds_toArray, List.set_cons_zero, List.set_cons_succ, Act.put]
                    clear hS
                    refine wpAnyH_ready (rs := [8]) (by kernel_rfl) (by simp) (AllReadyH.cons rfl (fun K hK => ?_) AllReadyH.nil)
                    have hmU := (Fn72.out.mks (bu65, 41, #[.int .i64 (T + 1), .int .i64 (T + 2), .int .i64 (1 + wt), .int .u64 co, .bool false, .int .i64 0, .int .i64 0, .int .i64 0]) (by simp)).1
                    refine step_app1 usT tc_one (by rfl) (.tmp 83) (.tmp 85) (by rfl) (base := w7.heap.size) (xs := ([] ++ ts)) (y := (⟨T + 1, T + 2, 1 + wt, co, false, 0, 0, 0⟩ : TS)) (by rfl) (by exact Fn72.out.ow) (by rfl) (fun i hi => by
                        match i, hi with
                        | 0, _ => exact hmU.cell 0
                        | 1, _ => exact hmU.cell 1
                        | 2, _ => exact hmU.cell 2
                        | 3, _ => exact hmU.cell 3
                        | 4, _ => exact hmU.cell 4
                        | 5, _ => exact hmU.cell 5
                        | 6, _ => exact hmU.cell 6
                        | 7, _ => exact hmU.cell 7) (by rw [List.nil_append, HM.out]; omega) (by rw [List.nil_append, HM.out]; simp only [maxLen]; omega) (by exact Fn72.out.kp.size) ?_
                    intro vp73 wn73 o8 g8 p8
                    obtain ⟨Ap73, cp73, rfl⟩ := o8.formN (m := m + 1) (by rw [List.nil_append, List.length_append, HM.out]; rfl)
                    have Fn73 := hid (Fn72.out.app o8 g8 p8)
                    clear o8 g8 p8 hmU Fn72
                    refine hK.out _ _ (HRD.out _ Fn73.out.kp) (fun hS => ?_)
                    clear hK
                    simp only [List.setIfInBounds_toArray, List.set_cons_zero, List.set_cons_succ, Act.put]
                    refine wpAnyH_take (i := 9) (v := ?_) rfl (by kernel_rfl) (by kernel_rfl) (by kernel_rfl) (fun _ _ _ h => h) (Or.inl ⟨by rfl, ?_⟩) hS ?_
                    rotate_left
                    · (intro w6 hS6; obtain ⟨hB6, hX6⟩ := hS6; have z0 := hB6.cell 0; have z1 := hB6.cell 1; have y0 := hX6.cell 0; have y1 := hX6.cell 1; have y2 := hX6.cell 2; have y3 := hX6.cell 3; have y4 := hX6.cell 4; have y5 := hX6.cell 5; have y6 := hX6.cell 6; have y7 := hX6.cell 7; simp only [List.getElem?_toArray, List.getElem?_cons_zero, List.getElem?_cons_succ] at z0 z1 y0 y1 y2 y3 y4 y5 y6 y7; (try go_simp); (try with_reducible rfl))
                    simp only [List.getElem_toArray, List.getElem_cons_zero, List.getElem_cons_succ, Act.put, List.setIfInBounds_toArray, List.set_cons_zero, List.set_cons_succ]
                    clear hS
                    refine wpAnyH_done (by kernel_rfl) ?_ _
                    refine then_of ?_
                    simp only [List.cons_append, List.nil_append]
                    have hmC := (Fn73.out.mks (bc71, 25, #[.slice none 0 0, .slice none 0 0]) (by simp)).1
                    have c0 := hmC.cell 0
                    have c1 := hmC.cell 1
                    have f0 := hmC.frozen 0
                    have f1 := hmC.frozen 1
                    simp only [List.getElem?_toArray, List.getElem?_cons_zero, List.getElem?_cons_succ] at c0 c1
                    have FB := hid (Fn73.out.fin (b := bc71) (c0 := .slice none 0 0) (c1 := .slice none 0 0) (by simp) (.slice (some ⟨b, off, none⟩) n c))
                    clear hmC Fn73
                    go_wp2_with fail
                    go_meet
                    exact ⟨_, _, _, rfl, FB⟩
                · simp only [List.getElem_toArray, List.getElem_cons_zero, List.getElem_cons_succ]
                  go_simp
                  have Fn74 := hid (Fn55.out.mark 25 #[.slice none 0 0, .slice none 0 0])
                  obtain ⟨bc74, hbe⟩ : ∃ b, wn55.heap.size = b := ⟨_, rfl⟩
                  rw [hbe] at Fn74 ⊢
                  generalize wn55.alloc (.cells #[.slice none 0 0, .slice none 0 0] 25) = wn74 at Fn74 ⊢
                  clear hbe Fn55
                  refine hK.out _ _ (HRD.out _ Fn74.out.kp) (fun hS => ?_)
                  clear hK
                  simp only [List.setIfInBounds_toArray, List.set_cons_zero, List.set_cons_succ]
                  clear hS
                  refine wpAnyH_ready (rs := [5, 7]) (by kernel_rfl) (by simp) (AllReadyH.cons rfl (fun K hK => ?_) (AllReadyH.cons rfl (fun K hK => ?_) AllReadyH.nil))
                  · refine step_appl usT tc_one (by rfl) (.tmp 80) (.tmp 82) (by rfl) (.slice (some ⟨be55, 0, none⟩) 0 0) (.slice A2 m c2) (by rfl) (by rfl) Fn74.out.ow (HT.out.kp0 (KL5.out.trans Fn74.out.kp)) (by rw [HM.out]; simp; omega) (by rw [HM.out]; simp [maxLen]; omega) Fn74.out.kp.size ?_
                    intro va75 wn75 o8 g8 p8
                    have Fn75 := hid (Fn74.out.app o8 g8 p8)
                    clear o8 g8 p8 Fn74
                    refine hK.out _ _ (HRD.out _ Fn75.out.kp) (fun hS => ?_)
                    clear hK
                    simp only [List.setIfInBounds_toArray, List.set_cons_zero, List.set_cons_succ, Act.put]
                    clear hS
                    refine wpAnyH_ready (rs := [7]) (by kernel_rfl) (by simp) (AllReadyH.cons rfl (fun K hK => ?_) AllReadyH.nil)
                    simp only [List.getElem_toArray, List.getElem_cons_zero, List.getElem_cons_succ]
                    go_simp
                    have Fn76 := hid (Fn75.out.mark 41 #[.int .i64 (T + 1), .int .i64 (T + 2), .int .i64 (1 + wt), .int .u64 co, .bool false, .int .i64 0, .int .i64 0, .int .i64 0])
                    obtain ⟨bu76, hbe⟩ : ∃ b, wn75.heap.size = b := ⟨_, rfl⟩
                    rw [hbe] at Fn76 ⊢
                    generalize wn75.alloc (.cells #[.int .i64 (T + 1), .int .i64 (T + 2), .int .i64 (1 + wt), .int .u64 co, .bool false, .int .i64 0, .int .i64 0, .int .i64 0] 41) = wn76 at Fn76 ⊢
                    clear hbe Fn75
                    refine hK.out _ _ (HRD.out _ Fn76.out.kp) (fun hS => ?_)
                    clear hK
                    simp only [List.setIfInBounds_toArray, List.set_cons_zero, List.set_cons_succ]
                    clear hS
                    refine wpAnyH_ready (rs := [8]) (by kernel_rfl) (by simp) (AllReadyH.cons rfl (fun K hK => ?_) AllReadyH.nil)
                    have hmU := (Fn76.out.mks (bu76, 41, #[.int .i64 (T + 1), .int .i64 (T + 2), .int .i64 (1 + wt), .int .u64 co, .bool false, .int .i64 0, .int .i64 0, .int .i64 0]) (by simp)).1
                    refine step_app1 usT tc_one (by rfl) (.tmp 83) (.tmp 85) (by rfl) (base := w7.heap.size) (xs := ([] ++ ts)) (y := (⟨T + 1, T + 2, 1 + wt, co, false, 0, 0, 0⟩ : TS)) (by rfl) (by exact Fn76.out.ow) (by rfl) (fun i hi => by
                        match i, hi with
                        | 0, _ => exact hmU.cell 0
                        | 1, _ => exact hmU.cell 1
                        | 2, _ => exact hmU.cell 2
                        | 3, _ => exact hmU.cell 3
                        | 4, _ => exact hmU.cell 4
                        | 5, _ => exact hmU.cell 5
                        | 6, _ => exact hmU.cell 6
                        | 7, _ => exact hmU.cell 7) (by rw [List.nil_append, HM.out]; omega) (by rw [List.nil_append, HM.out]; simp only [maxLen]; omega) (by exact Fn76.out.kp.size) ?_
                    intro vp77 wn77 o8 g8 p8
                    obtain ⟨Ap77, cp77, rfl⟩ := o8.formN (m := m + 1) (by rw [List.nil_append, List.length_append, HM.out]; rfl)
                    have Fn77 := hid (Fn76.out.app o8 g8 p8)
                    clear o8 g8 p8 hmU Fn76
                    refine hK.out _ _ (HRD.out _ Fn77.out.kp) (fun hS => ?_)
                    clear hK
                    simp only [List.setIfInBounds_toArray, List.set_cons_zero, List.set_cons_succ, Act.put]
                    refine wpAnyH_take (i := 9) (v := ?_) rfl (by kernel_rfl) (by kernel_rfl) (by kernel_rfl) (fun _ _ _ h => h) (Or.inl ⟨by rfl, ?_⟩) hS ?_
                    rotate_left
                    · (intro w6 hS6; obtain ⟨hB6, hX6⟩ := hS6; have z0 := hB6.cell 0; have z1 := hB6.cell 1; have y0 := hX6.cell 0; have y1 := hX6.cell 1; have y2 := hX6.cell 2; have y3 := hX6.cell 3; have y4 := hX6.cell 4; have y5 := hX6.cell 5; have y6 := hX6.cell 6; have y7 := hX6.cell 7; simp only [List.getElem?_toArray, List.getElem?_cons_zero, List.getElem?_cons_succ] at z0 z1 y0 y1 y2 y3 y4 y5 y6 y7; (try go_simp); (try with_reducible rfl))
                    simp only [List.getElem_toArray, List.getElem_cons_zero, List.getElem_cons_succ, Act.put, List.setIfInBounds_toArray, List.set_cons_zero, List.set_cons_succ]
                    clear hS
                    refine wpAnyH_done (by kernel_rfl) ?_ _
                    refine then_of ?_
                    simp only [List.cons_append, List.nil_append]
                    have hmC := (Fn77.out.mks (bc74, 25, #[.slice none 0 0, .slice none 0 0]) (by simp)).1
                    have c0 := hmC.cell 0
                    have c1 := hmC.cell 1
                    have f0 := hmC.frozen 0
                    have f1 := hmC.frozen 1
                    simp only [List.getElem?_toArray, List.getElem?_cons_zero, List.getElem?_cons_succ] at c0 c1
                    have FB := hid (Fn77.out.fin (b := bc74) (c0 := .slice none 0 0) (c1 := .slice none 0 0) (by simp) (.slice (some ⟨b, off, none⟩) n c))
                    clear hmC Fn77
                    go_wp2_with fail
                    go_meet
                    exact ⟨_, _, _, rfl, FB⟩
                  · simp only [List.getElem_toArray, List.getElem_cons_zero, List.getElem_cons_succ]
                    go_simp
                    have Fn78 := hid (Fn74.out.mark 41 #[.int .i64 (T + 1), .int .i64 (T + 2), .int .i64 (1 + wt), .int .u64 co, .bool false, .int .i64 0, .int .i64 0, .int .i64 0])
                    obtain ⟨bu78, hbe⟩ : ∃ b, wn74.heap.size = b := ⟨_, rfl⟩
                    rw [hbe] at Fn78 ⊢
                    generalize wn74.alloc (.cells #[.int .i64 (T + 1), .int .i64 (T + 2), .int .i64 (1 + wt), .int .u64 co, .bool false, .int .i64 0, .int .i64 0, .int .i64 0] 41) = wn78 at Fn78 ⊢
                    clear hbe Fn74
                    refine hK.out _ _ (HRD.out _ Fn78.out.kp) (fun hS => ?_)
                    clear hK
                    simp only [List.setIfInBounds_toArray, List.set_cons_zero, List.set_cons_succ]
                    clear hS
                    refine wpAnyH_ready (rs := [5]) (by kernel_rfl) (by simp) (AllReadyH.cons rfl (fun K hK => ?_) AllReadyH.nil)
                    refine step_appl usT tc_one (by rfl) (.tmp 80) (.tmp 82) (by rfl) (.slice (some ⟨be55, 0, none⟩) 0 0) (.slice A2 m c2) (by rfl) (by rfl) Fn78.out.ow (HT.out.kp0 (KL5.out.trans Fn78.out.kp)) (by rw [HM.out]; simp; omega) (by rw [HM.out]; simp [maxLen]; omega) Fn78.out.kp.size ?_
                    intro va79 wn79 o8 g8 p8
                    have Fn79 := hid (Fn78.out.app o8 g8 p8)
                    clear o8 g8 p8 Fn78
                    refine hK.out _ _ (HRD.out _ Fn79.out.kp) (fun hS => ?_)
                    clear hK
                    simp only [List.setIfInBounds_toArray, List.set_cons_zero, List.set_cons_succ, Act.put]
                    clear hS
                    refine wpAnyH_ready (rs := [8]) (by kernel_rfl) (by simp) (AllReadyH.cons rfl (fun K hK => ?_) AllReadyH.nil)
                    have hmU := (Fn79.out.mks (bu78, 41, #[.int .i64 (T + 1), .int .i64 (T + 2), .int .i64 (1 + wt), .int .u64 co, .bool false, .int .i64 0, .int .i64 0, .int .i64 0]) (by simp)).1
                    refine step_app1 usT tc_one (by rfl) (.tmp 83) (.tmp 85) (by rfl) (base := w7.heap.size) (xs := ([] ++ ts)) (y := (⟨T + 1, T + 2, 1 + wt, co, false, 0, 0, 0⟩ : TS)) (by rfl) (by exact Fn79.out.ow) (by rfl) (fun i hi => by
                        match i, hi with
                        | 0, _ => exact hmU.cell 0
                        | 1, _ => exact hmU.cell 1
                        | 2, _ => exact hmU.cell 2
                        | 3, _ => exact hmU.cell 3
                        | 4, _ => exact hmU.cell 4
                        | 5, _ => exact hmU.cell 5
                        | 6, _ => exact hmU.cell 6
                        | 7, _ => exact hmU.cell 7) (by rw [List.nil_append, HM.out]; omega) (by rw [List.nil_append, HM.out]; simp only [maxLen]; omega) (by exact Fn79.out.kp.size) ?_
                    intro vp80 wn80 o8 g8 p8
                    obtain ⟨Ap80, cp80, rfl⟩ := o8.formN (m := m + 1) (by rw [List.nil_append, List.length_append, HM.out]; rfl)
                    have Fn80 := hid (Fn79.out.app o8 g8 p8)
                    clear o8 g8 p8 hmU Fn79
                    refine hK.out _ _ (HRD.out _ Fn80.out.kp) (fun hS => ?_)
                    clear hK
                    simp only [List.setIfInBounds_toArray, List.set_cons_zero, List.set_cons_succ, Act.put]
                    refine wpAnyH_take (i := 9) (v := ?_) rfl (by kernel_rfl) (by kernel_rfl) (by kernel_rfl) (fun _ _ _ h => h) (Or.inl ⟨by rfl, ?_⟩) hS ?_
                    rotate_left
                    · (intro w6 hS6; obtain ⟨hB6, hX6⟩ := hS6; have z0 := hB6.cell 0; have z1 := hB6.cell 1; have y0 := hX6.cell 0; have y1 := hX6.cell 1; have y2 := hX6.cell 2; have y3 := hX6.cell 3; have y4 := hX6.cell 4; have y5 := hX6.cell 5; have y6 := hX6.cell 6; have y7 := hX6.cell 7; simp only [List.getElem?_toArray, List.getElem?_cons_zero, List.getElem?_cons_succ] at z0 z1 y0 y1 y2 y3 y4 y5 y6 y7; (try go_simp); (try with_reducible rfl))
                    simp only [List.getElem_toArray, List.getElem_cons_zero, List.getElem_cons_succ, Act.put, List.setIfInBounds_toArray, List.set_cons_zero, List.set_cons_succ]
                    clear hS
                    refine wpAnyH_done (by kernel_rfl) ?_ _
                    refine then_of ?_
                    simp only [List.cons_append, List.nil_append]
                    have hmC := (Fn80.out.mks (bc74, 25, #[.slice none 0 0, .slice none 0 0]) (by simp)).1
                    have c0 := hmC.cell 0
                    have c1 := hmC.cell 1
                    have f0 := hmC.frozen 0
                    have f1 := hmC.frozen 1
                    simp only [List.getElem?_toArray, List.getElem?_cons_zero, List.getElem?_cons_succ] at c0 c1
                    have FB := hid (Fn80.out.fin (b := bc74) (c0 := .slice none 0 0) (c1 := .slice none 0 0) (by simp) (.slice (some ⟨b, off, none⟩) n c))
                    clear hmC Fn80
                    go_wp2_with fail
                    go_meet
                    exact ⟨_, _, _, rfl, FB⟩
              · simp only [List.getElem_toArray, List.getElem_cons_zero, List.getElem_cons_succ]
                go_simp
                have Fn81 := hid (Fd54.out.mark 41 #[.int .i64 (T + 1), .int .i64 (T + 2), .int .i64 (1 + wt), .int .u64 co, .bool false, .int .i64 0, .int .i64 0, .int .i64 0])
                obtain ⟨bu81, hbe⟩ : ∃ b, Wd54.heap.size = b := ⟨_, rfl⟩
                rw [hbe] at Fn81 ⊢
                generalize Wd54.alloc (.cells #[.int .i64 (T + 1), .int .i64 (T + 2), .int .i64 (1 + wt), .int .u64 co, .bool false, .int .i64 0, .int .i64 0, .int .i64 0] 41) = wn81 at Fn81 ⊢
                clear hbe Fd54
                refine hK.out _ _ (HRD.out _ Fn81.out.kp) (fun hS => ?_)
                clear hK
                simp only [List.setIfInBounds_toArray, List.set_cons_zero, List.set_cons_succ]
                clear hS
                refine wpAnyH_ready (rs := [2, 10]) (by kernel_rfl) (by simp) (AllReadyH.cons rfl (fun K hK => ?_) (AllReadyH.cons rfl (fun K hK => ?_) AllReadyH.nil))
                · simp only [List.getElem_toArray, List.getElem_cons_zero, List.getElem_cons_succ]
                  go_simp
                  have Fn82 := hid Fn81.out.mt
                  obtain ⟨be82, hbe⟩ : ∃ b, wn81.heap.size = b := ⟨_, rfl⟩
                  rw [hbe] at Fn82 ⊢
                  generalize wn81.alloc (.cells #[] 41) = wn82 at Fn82 ⊢
                  clear hbe Fn81
                  refine hK.out _ _ (HRD.out _ Fn82.out.kp) (fun hS => ?_)
                  clear hK
                  simp only [List.setIfInBounds_toArray, List.set_cons_zero, List.set_cons_succ]
                  clear hS
                  refine wpAnyH_ready (rs := [5, 10]) (by kernel_rfl) (by simp) (AllReadyH.cons rfl (fun K hK => ?_) (AllReadyH.cons rfl (fun K hK => ?_) AllReadyH.nil))
                  · refine step_appl usT tc_one (by rfl) (.tmp 80) (.tmp 82) (by rfl) (.slice (some ⟨be82, 0, none⟩) 0 0) (.slice A2 m c2) (by rfl) (by rfl) Fn82.out.ow (HT.out.kp0 (KL5.out.trans Fn82.out.kp)) (by rw [HM.out]; simp; omega) (by rw [HM.out]; simp [maxLen]; omega) Fn82.out.kp.size ?_
                    intro va83 wn83 o8 g8 p8
                    have Fn83 := hid (Fn82.out.app o8 g8 p8)
                    clear o8 g8 p8 Fn82
                    refine hK.out _ _ (HRD.out _ Fn83.out.kp) (fun hS => ?_)
                    clear hK
                    simp only [List.setIfInBounds_toArray, List.set_cons_zero, List.set_cons_succ, Act.put]
                    clear hS
                    refine wpAnyH_ready (rs := [8, 10]) (by kernel_rfl) (by simp) (AllReadyH.cons rfl (fun K hK => ?_) (AllReadyH.cons rfl (fun K hK => ?_) AllReadyH.nil))
                    · have hmU := (Fn83.out.mks (bu81, 41, #[.int .i64 (T + 1), .int .i64 (T + 2), .int .i64 (1 + wt), .int .u64 co, .bool false, .int .i64 0, .int .i64 0, .int .i64 0]) (by simp)).1
                      refine step_app1 usT tc_one (by rfl) (.tmp 83) (.tmp 85) (by rfl) (base := w7.heap.size) (xs := ([] ++ ts)) (y := (⟨T + 1, T + 2, 1 + wt, co, false, 0, 0, 0⟩ : TS)) (by rfl) (by exact Fn83.out.ow) (by rfl) (fun i hi => by
                          match i, hi with
                          | 0, _ => exact hmU.cell 0
                          | 1, _ => exact hmU.cell 1
                          | 2, _ => exact hmU.cell 2
                          | 3, _ => exact hmU.cell 3
                          | 4, _ => exact hmU.cell 4
                          | 5, _ => exact hmU.cell 5
                          | 6, _ => exact hmU.cell 6
                          | 7, _ => exact hmU.cell 7) (by rw [List.nil_append, HM.out]; omega) (by rw [List.nil_append, HM.out]; simp only [maxLen]; omega) (by exact Fn83.out.kp.size) ?_
                      intro vp84 wn84 o8 g8 p8
                      obtain ⟨Ap84, cp84, rfl⟩ := o8.formN (m := m + 1) (by rw [List.nil_append, List.length_append, HM.out]; rfl)
                      have Fn84 := hid (Fn83.out.app o8 g8 p8)
                      clear o8 g8 p8 hmU Fn83
                      refine hK.out _ _ (HRD.out _ Fn84.out.kp) (fun hS => ?_)
                      clear hK
                      simp only [List.setIfInBounds_toArray, List.set_cons_zero, List.set_cons_succ, Act.put]
                      refine wpAnyH_take (i := 9) (v := ?_) rfl (by kernel_rfl) (by kernel_rfl) (by kernel_rfl) (fun _ _ _ h => h) (Or.inl ⟨by rfl, ?_⟩) hS ?_
                      rotate_left
                      · (intro w6 hS6; obtain ⟨hB6, hX6⟩ := hS6; have z0 := hB6.cell 0; have z1 := hB6.cell 1; have y0 := hX6.cell 0; have y1 := hX6.cell 1; have y2 := hX6.cell 2; have y3 := hX6.cell 3; have y4 := hX6.cell 4; have y5 := hX6.cell 5; have y6 := hX6.cell 6; have y7 := hX6.cell 7; simp only [List.getElem?_toArray, List.getElem?_cons_zero, List.getElem?_cons_succ] at z0 z1 y0 y1 y2 y3 y4 y5 y6 y7; (try go_simp); (try with_reducible rfl))
                      simp only [List.getElem_toArray, List.getElem_cons_zero, List.getElem_cons_succ, Act.put, List.setIfInBounds_toArray, List.set_cons_zero, List.set_cons_succ]
                      clear hS
                      refine wpAnyH_ready (rs := [10]) (by kernel_rfl) (by simp) (AllReadyH.cons rfl (fun K hK => ?_) AllReadyH.nil)
                      simp only [List.getElem_toArray, List.getElem_cons_zero, List.getElem_cons_succ]
                      go_simp
                      have Fn85 := hid (Fn84.out.mark 25 #[.slice none 0 0, .slice none 0 0])
                      obtain ⟨bc85, hbe⟩ : ∃ b, wn84.heap.size = b := ⟨_, rfl⟩
                      rw [hbe] at Fn85 ⊢
                      generalize wn84.alloc (.cells #[.slice none 0 0, .slice none 0 0] 25) = wn85 at Fn85 ⊢
                      clear hbe Fn84
                      refine hK.out _ _ (HRD.out _ Fn85.out.kp) (fun hS => ?_)
                      clear hK
                      simp only [List.setIfInBounds_toArray, List.set_cons_zero, List.set_cons_succ]
                      clear hS
                      refine wpAnyH_done (by kernel_rfl) ?_ _
                      refine then_of ?_
                      simp only [List.cons_append, List.nil_append]
                      have hmC := (Fn85.out.mks (bc85, 25, #[.slice none 0 0, .slice none 0 0]) (by simp)).1
                      have c0 := hmC.cell 0
                      have c1 := hmC.cell 1
                      have f0 := hmC.frozen 0
                      have f1 := hmC.frozen 1
                      simp only [List.getElem?_toArray, List.getElem?_cons_zero, List.getElem?_cons_succ] at c0 c1
                      have FB := hid (Fn85.out.fin (b := bc85) (c0 := .slice none 0 0) (c1 := .slice none 0 0) (by simp) (.slice (some ⟨b, off, none⟩) n c))
                      clear hmC Fn85
                      go_wp2_with fail
                      go_meet
                      exact ⟨_, _, _, rfl, FB⟩
                    · simp only [List.getElem_toArray, List.getElem_cons_zero, List.getElem_cons_succ]
                      go_simp
                      have Fn86 := hid (Fn83.out.mark 25 #[.slice none 0 0, .slice none 0 0])
                      obtain ⟨bc86, hbe⟩ : ∃ b, wn83.heap.size = b := ⟨_, rfl⟩
                      rw [hbe] at Fn86 ⊢
                      generalize wn83.alloc (.cells #[.slice none 0 0, .slice none 0 0] 25) = wn86 at Fn86 ⊢
                      clear hbe Fn83
                      refine hK.out _ _ (HRD.out _ Fn86.out.kp) (fun hS => ?_)
                      clear hK
                      simp only [List.setIfInBounds_toArray, List.set_cons_zero, List.set_cons_succ]
                      clear hS
                      refine wpAnyH_ready (rs := [8]) (by kernel_rfl) (by simp) (AllReadyH.cons rfl (fun K hK => ?_) AllReadyH.nil)
                      have hmU := (Fn86.out.mks (bu81, 41, #[.int .i64 (T + 1), .int .i64 (T + 2), .int .i64 (1 + wt), .int .u64 co, .bool false, .int .i64 0, .int .i64 0, .int .i64 0]) (by simp)).1
                      refine step_app1 usT tc_one (by rfl) (.tmp 83) (.tmp 85) (by rfl) (base := w7.heap.size) (xs := ([] ++ ts)) (y := (⟨T + 1, T + 2, 1 + wt, co, false, 0, 0, 0⟩ : TS)) (by rfl) (by exact Fn86.out.ow) (by rfl) (fun i hi => by
                          match i, hi with
                          | 0, _ => exact hmU.cell 0
                          | 1, _ => exact hmU.cell 1
                          | 2, _ => exact hmU.cell 2
                          | 3, _ => exact hmU.cell 3
                          | 4, _ => exact hmU.cell 4
                          | 5, _ => exact hmU.cell 5
                          | 6, _ => exact hmU.cell 6
                          | 7, _ => exact hmU.cell 7) (by rw [List.nil_append, HM.out]; omega) (by rw [List.nil_append, HM.out]; simp only [maxLen]; omega) (by exact Fn86.out.kp.size) ?_
                      intro vp87 wn87 o8 g8 p8
                      obtain ⟨Ap87, cp87, rfl⟩ := o8.formN (m := m + 1) (by rw [List.nil_append, List.length_append, HM.out]; rfl)
                      have Fn87 := hid (Fn86.out.app o8 g8 p8)
                      clear o8 g8 p8 hmU Fn86
                      refine hK.out _ _ (HRD.out _ Fn87.out.kp) (fun hS => ?_)
                      clear hK
                      simp only [List.setIfInBounds_toArray, List.set_cons_zero, List.set_cons_succ, Act.put]
                      refine wpAnyH_take (i := 9) (v := ?_) rfl (by kernel_rfl) (by kernel_rfl) (by kernel_rfl) (fun _ _ _ h => h) (Or.inl ⟨by rfl, ?_⟩) hS ?_
                      rotate_left
                      · (intro w6 hS6; obtain ⟨hB6, hX6⟩ := hS6; have z0 := hB6.cell 0; have z1 := hB6.cell 1; have y0 := hX6.cell 0; have y1 := hX6.cell 1; have y2 := hX6.cell 2; have y3 := hX6.cell 3; have y4 := hX6.cell 4; have y5 := hX6.cell 5; have y6 := hX6.cell 6; have y7 := hX6.cell 7; simp only [List.getElem?_toArray, List.getElem?_cons_zero, List.getElem?_cons_succ] at z0 z1 y0 y1 y2 y3 y4 y5 y6 y7; (try go_simp); (try with_reducible rfl))
                      simp only [List.getElem_toArray, List.getElem_cons_zero, List.getElem_cons_succ, Act.put, List.setIfInBounds_toArray, List.set_cons_zero, List.set_cons_succ]
                      clear hS
                      refine wpAnyH_done (by kernel_rfl) ?_ _
                      refine then_of ?_
                      simp only [List.cons_append, List.nil_append]
                      have hmC := (Fn87.out.mks (bc86, 25, #[.slice none 0 0, .slice none 0 0]) (by simp)).1
                      have c0 := hmC.cell 0
                      have c1 := hmC.cell 1
                      have f0 := hmC.frozen 0
                      have f1 := hmC.frozen 1
                      simp only [List.getElem?_toArray, List.getElem?_cons_zero, List.getElem?_cons_succ] at c0 c1
                      have FB := hid (Fn87.out.fin (b := bc86) (c0 := .slice none 0 0) (c1 := .slice none 0 0) (by simp) (.slice (some ⟨b, off, none⟩) n c))
                      clear hmC Fn87
                      go_wp2_with fail
                      go_meet
                      exact ⟨_, _, _, rfl, FB⟩
                  · simp only [List.getElem_toArray, List.getElem_cons_zero, List.getElem_cons_succ]
                    go_simp
                    have Fn88 := hid (Fn82.out.mark 25 #[.slice none 0 0, .slice none 0 0])
                    obtain ⟨bc88, hbe⟩ : ∃ b, wn82.heap.size = b := ⟨_, rfl⟩
                    rw [hbe] at Fn88 ⊢
                    generalize wn82.alloc (.cells #[.slice none 0 0, .slice none 0 0] 25) = wn88 at Fn88 ⊢
                    clear hbe Fn82
                    refine hK.out _ _ (HRD.out _ Fn88.out.kp) (fun hS => ?_)
                    clear hK
                    simp only [List.setIfInBounds_toArray, List.set_cons_zero, List.set_cons_succ]
                    clear hS
                    refine wpAnyH_ready (rs := [5]) (by kernel_rfl) (by simp) (AllReadyH.cons rfl (fun K hK => ?_) AllReadyH.nil)
                    refine step_appl usT tc_one (by rfl) (.tmp 80) (.tmp 82) (by rfl) (.slice (some ⟨be82, 0, none⟩) 0 0) (.slice A2 m c2) (by rfl) (by rfl) Fn88.out.ow (HT.out.kp0 (KL5.out.trans Fn88.out.kp)) (by rw [HM.out]; simp; omega) (by rw [HM.out]; simp [maxLen]; omega) Fn88.out.kp.size ?_
                    intro va89 wn89 o8 g8 p8
                    have Fn89 := hid (Fn88.out.app o8 g8 p8)
                    clear o8 g8 p8 Fn88
                    refine hK.out _ _ (HRD.out _ Fn89.out.kp) (fun hS => ?_)
                    clear hK
                    simp only [List.setIfInBounds_toArray, List.set_cons_zero, List.set_cons_succ, Act.put]
                    clear hS
                    refine wpAnyH_ready (rs := [8]) (by kernel_rfl) (by simp) (AllReadyH.cons rfl (fun K hK => ?_) AllReadyH.nil)
                    have hmU := (Fn89.out.mks (bu81, 41, #[.int .i64 (T + 1), .int .i64 (T + 2), .int .i64 (1 + wt), .int .u64 co, .bool false, .int .i64 0, .int .i64 0, .int .i64 0]) (by simp)).1
                    refine step_app1 usT tc_one (by rfl) (.tmp 83) (.tmp 85) (by rfl) (base := w7.heap.size) (xs := ([] ++ ts)) (y := (⟨T + 1, T + 2, 1 + wt, co, false, 0, 0, 0⟩ : TS)) (by rfl) (by exact Fn89.out.ow) (by rfl) (fun i hi => by
                        match i, hi with
                        | 0, _ => exact hmU.cell 0
                        | 1, _ => exact hmU.cell 1
                        | 2, _ => exact hmU.cell 2
                        | 3, _ => exact hmU.cell 3
                        | 4, _ => exact hmU.cell 4
                        | 5, _ => exact hmU.cell 5
                        | 6, _ => exact hmU.cell 6
                        | 7, _ => exact hmU.cell 7) (by rw [List.nil_append, HM.out]; omega) (by rw [List.nil_append, HM.out]; simp only [maxLen]; omega) (by exact Fn89.out.kp.size) ?_
                    intro vp90 wn90 o8 g8 p8
                    obtain ⟨Ap90, cp90, rfl⟩ := o8.formN (m := m + 1) (by rw [List.nil_append, List.length_append, HM.out]; rfl)
                    have Fn90 := hid (Fn89.out.app o8 g8 p8)
                    clear o8 g8 p8 hmU Fn89
                    refine hK.out _ _ (HRD.out _ Fn90.out.kp) (fun hS => ?_)
                    clear hK
                    simp only [List.setIfInBounds_toArray, List.set_cons_zero, List.set_cons_succ, Act.put]
                    refine wpAnyH_take (i := 9) (v := ?_) rfl (by kernel_rfl) (by kernel_rfl) (by kernel_rfl) (fun _ _ _ h => h) (Or.inl ⟨by rfl, ?_⟩) hS ?_
                    rotate_left
                    · (intro w6 hS6; obtain ⟨hB6, hX6⟩ := hS6; have z0 := hB6.cell 0; have z1 := hB6.cell 1; have y0 := hX6.cell 0; have y1 := hX6.cell 1; have y2 := hX6.cell 2; have y3 := hX6.cell 3; have y4 := hX6.cell 4; have y5 := hX6.cell 5; have y6 := hX6.cell 6; have y7 := hX6.cell 7; simp only [List.getElem?_toArray, List.getElem?_cons_zero, List.getElem?_cons_succ] at z0 z1 y0 y1 y2 y3 y4 y5 y6 y7; (try go_simp); (try with_reducible rfl))
                    simp only [List.getElem_toArray, List.getElem_cons_zero, List.getElem_cons_succ, Act.put, List.setIfInBounds_toArray, List.set_cons_zero, List.set_cons_succ]
                    clear hS
                    refine wpAnyH_done (by kernel_rfl) ?_ _
                    refine then_of ?_
                    simp only [List.cons_append, List.nil_append]
                    have hmC := (Fn90.out.mks (bc88, 25, #[.slice none 0 0, .slice none 0 0]) (by simp)).1
                    have c0 := hmC.cell 0
                    have c1 := hmC.cell 1
                    have f0 := hmC.frozen 0
                    have f1 := hmC.frozen 1
                    simp only [List.getElem?_toArray, List.getElem?_cons_zero, List.getElem?_cons_succ] at c0 c1
                    have FB := hid (Fn90.out.fin (b := bc88) (c0 := .slice none 0 0) (c1 := .slice none 0 0) (by simp) (.slice (some ⟨b, off, none⟩) n c))
                    clear hmC Fn90
                    go_wp2_with fail
                    go_meet
                    exact ⟨_, _, _, rfl, FB⟩
                · simp only [List.getElem_toArray, List.getElem_cons_zero, List.getElem_cons_succ]
                  go_simp
                  have Fn91 := hid (Fn81.out.mark 25 #[.slice none 0 0, .slice none 0 0])
                  obtain ⟨bc91, hbe⟩ : ∃ b, wn81.heap.size = b := ⟨_, rfl⟩
                  rw [hbe] at Fn91 ⊢
                  generalize wn81.alloc (.cells #[.slice none 0 0, .slice none 0 0] 25) = wn91 at Fn91 ⊢
                  clear hbe Fn81
                  refine hK.out _ _ (HRD.out _ Fn91.out.kp) (fun hS => ?_)
                  clear hK
                  simp only [List.setIfInBounds_toArray, List.set_cons_zero, List.set_cons_succ]
                  clear hS
                  refine wpAnyH_ready (rs := [2]) (by kernel_rfl) (by simp) (AllReadyH.cons rfl (fun K hK => ?_) AllReadyH.nil)
                  simp only [List.getElem_toArray, List.getElem_cons_zero, List.getElem_cons_succ]
                  go_simp
                  have Fn92 := hid Fn91.out.mt
                  obtain ⟨be92, hbe⟩ : ∃ b, wn91.heap.size = b := ⟨_, rfl⟩
                  rw [hbe] at Fn92 ⊢
                  generalize wn91.alloc (.cells #[] 41) = wn92 at Fn92 ⊢
                  clear hbe Fn91
                  refine hK.out _ _ (HRD.out _ Fn92.out.kp) (fun hS => ?_)
                  clear hK
                  simp only [List.setIfInBounds_toArray, List.set_cons_zero, List.set_cons_succ]
                  clear hS
                  refine wpAnyH_ready (rs := [5]) (by kernel_rfl) (by simp) (AllReadyH.cons rfl (fun K hK => ?_) AllReadyH.nil)
                  refine step_appl usT tc_one (by rfl) (.tmp 80) (.tmp 82) (by rfl) (.slice (some ⟨be92, 0, none⟩) 0 0) (.slice A2 m c2) (by rfl) (by rfl) Fn92.out.ow (HT.out.kp0 (KL5.out.trans Fn92.out.kp)) (by rw [HM.out]; simp; omega) (by rw [HM.out]; simp [maxLen]; omega) Fn92.out.kp.size ?_
                  intro va93 wn93 o8 g8 p8
                  have Fn93 := hid (Fn92.out.app o8 g8 p8)
                  clear o8 g8 p8 Fn92
                  refine hK.out _ _ (HRD.out _ Fn93.out.kp) (fun hS => ?_)
                  clear hK
                  simp only [List.setIfInBounds_toArray, List.set_cons_zero, List.set_cons_succ, Act.put]
                  clear hS
                  refine wpAnyH_ready (rs := [8]) (by kernel_rfl) (by simp) (AllReadyH.cons rfl (fun K hK => ?_) AllReadyH.nil)
                  have hmU := (Fn93.out.mks (bu81, 41, #[.int .i64 (T + 1), .int .i64 (T + 2), .int .i64 (1 + wt), .int .u64 co, .bool false, .int .i64 0, .int .i64 0, .int .i64 0]) (by simp)).1
                  refine step_app1 usT tc_one (by rfl) (.tmp 83) (.tmp 85) (by rfl) (base := w7.heap.size) (xs := ([] ++ ts)) (y := (⟨T + 1, T + 2, 1 + wt, co, false, 0, 0, 0⟩ : TS)) (by rfl) (by exact Fn93.out.ow) (by rfl) (fun i hi => by
                      match i, hi with
                      | 0, _ => exact hmU.cell 0
                      | 1, _ => exact hmU.cell 1
                      | 2, _ => exact hmU.cell 2
                      | 3, _ => exact hmU.cell 3
                      | 4, _ => exact hmU.cell 4
                      | 5, _ => exact hmU.cell 5
                      | 6, _ => exact hmU.cell 6
                      | 7, _ => exact hmU.cell 7) (by rw [List.nil_append, HM.out]; omega) (by rw [List.nil_append, HM.out]; simp only [maxLen]; omega) (by exact Fn93.out.kp.size) ?_
                  intro vp94 wn94 o8 g8 p8
                  obtain ⟨Ap94, cp94, rfl⟩ := o8.formN (m := m + 1) (by rw [List.nil_append, List.length_append, HM.out]; rfl)
                  have Fn94 := hid (Fn93.out.app o8 g8 p8)
                  clear o8 g8 p8 hmU Fn93
                  refine hK.out _ _ (HRD.out _ Fn94.out.kp) (fun hS => ?_)
                  clear hK
                  simp only [List.setIfInBounds_toArray, List.set_cons_zero, List.set_cons_succ, Act.put]
                  refine wpAnyH_take (i := 9) (v := ?_) rfl (by kernel_rfl) (by kernel_rfl) (by kernel_rfl) (fun _ _ _ h => h) (Or.inl ⟨by rfl, ?_⟩) hS ?_
                  rotate_left
                  · (intro w6 hS6; obtain ⟨hB6, hX6⟩ := hS6; have z0 := hB6.cell 0; have z1 := hB6.cell 1; have y0 := hX6.cell 0; have y1 := hX6.cell 1; have y2 := hX6.cell 2; have y3 := hX6.cell 3; have y4 := hX6.cell 4; have y5 := hX6.cell 5; have y6 := hX6.cell 6; have y7 := hX6.cell 7; simp only [List.getElem?_toArray, List.getElem?_cons_zero, List.getElem?_cons_succ] at z0 z1 y0 y1 y2 y3 y4 y5 y6 y7; (try go_simp); (try with_reducible rfl))
                  simp only [List.getElem_toArray, List.getElem_cons_zero, List.getElem_cons_succ, Act.put, List.setIfInBounds_toArray, List.set_cons_zero, List.set_cons_succ]
                  clear hS
                  refine wpAnyH_done (by kernel_rfl) ?_ _
                  refine then_of ?_
                  simp only [List.cons_append, List.nil_append]
                  have hmC := (Fn94.out.mks (bc91, 25, #[.slice none 0 0, .slice none 0 0]) (by simp)).1
                  have c0 := hmC.cell 0
                  have c1 := hmC.cell 1
                  have f0 := hmC.frozen 0
                  have f1 := hmC.frozen 1
                  simp only [List.getElem?_toArray, List.getElem?_cons_zero, List.getElem?_cons_succ] at c0 c1
                  have FB := hid (Fn94.out.fin (b := bc91) (c0 := .slice none 0 0) (c1 := .slice none 0 0) (by simp) (.slice (some ⟨b, off, none⟩) n c))
                  clear hmC Fn94
                  go_wp2_with fail
                  go_meet
                  exact ⟨_, _, _, rfl, FB⟩
              · simp only [List.getElem_toArray, List.getElem_cons_zero, List.getElem_cons_succ]
                go_simp
                have Fn95 := hid (Fd54.out.mark 25 #[.slice none 0 0, .slice none 0 0])
                obtain ⟨bc95, hbe⟩ : ∃ b, Wd54.heap.size = b := ⟨_, rfl⟩
                rw [hbe] at Fn95 ⊢
                generalize Wd54.alloc (.cells #[.slice none 0 0, .slice none 0 0] 25) = wn95 at Fn95 ⊢
                clear hbe Fd54
                refine hK.out _ _ (HRD.out _ Fn95.out.kp) (fun hS => ?_)
                clear hK
                simp only [List.setIfInBounds_toArray, List.set_cons_zero, List.set_cons_succ]
                clear hS
                refine wpAnyH_ready (rs := [2, 7]) (by kernel_rfl) (by simp) (AllReadyH.cons rfl (fun K hK => ?_) (AllReadyH.cons rfl (fun K hK => ?_) AllReadyH.nil))
                · simp only [List.getElem_toArray, List.getElem_cons_zero, List.getElem_cons_succ]
                  go_simp
                  have Fn96 := hid Fn95.out.mt
                  obtain ⟨be96, hbe⟩ : ∃ b, wn95.heap.size = b := ⟨_, rfl⟩
                  rw [hbe] at Fn96 ⊢
                  generalize wn95.alloc (.cells #[] 41) = wn96 at Fn96 ⊢
                  clear hbe Fn95
                  refine hK.out _ _ (HRD.out _ Fn96.out.kp) (fun hS => ?_)
                  clear hK
                  simp only [List.setIfInBounds_toArray, List.set_cons_zero, List.set_cons_succ]
                  clear hS
                  refine wpAnyH_ready (rs := [5, 7]) (by kernel_rfl) (by simp) (AllReadyH.cons rfl (fun K hK => ?_) (AllReadyH.cons rfl (fun K hK => ?_) AllReadyH.nil))
                  · refine step_appl usT tc_one (by rfl) (.tmp 80) (.tmp 82) (by rfl) (.slice (some ⟨be96, 0, none⟩) 0 0) (.slice A2 m c2) (by rfl) (by rfl) Fn96.out.ow (HT.out.kp0 (KL5.out.trans Fn96.out.kp)) (by rw [HM.out]; simp; omega) (by rw [HM.out]; simp [maxLen]; omega) Fn96.out.kp.size ?_
                    intro va97 wn97 o8 g8 p8
                    have Fn97 := hid (Fn96.out.app o8 g8 p8)
                    clear o8 g8 p8 Fn96
                    refine hK.out _ _ (HRD.out _ Fn97.out.kp) (fun hS => ?_)
                    clear hK
                    simp only [List.setIfInBounds_toArray, List.set_cons_zero, List.set_cons_succ, Act.put]
                    clear hS
                    refine wpAnyH_ready (rs := [7]) (by kernel_rfl) (by simp) (AllReadyH.cons rfl (fun K hK => ?_) AllReadyH.nil)
                    simp only [List.getElem_toArray, List.getElem_cons_zero, List.getElem_cons_succ]
                    go_simp
                    have Fn98 := hid (Fn97.out.mark 41 #[.int .i64 (T + 1), .int .i64 (T + 2), .int .i64 (1 + wt), .int .u64 co, .bool false, .int .i64 0, .int .i64 0, .int .i64 0])
                    obtain ⟨bu98, hbe⟩ : ∃ b, wn97.heap.size = b := ⟨_, rfl⟩
                    rw [hbe] at Fn98 ⊢
                    generalize wn97.alloc (.cells #[.int .i64 (T + 1), .int .i64 (T + 2), .int .i64 (1 + wt), .int .u64 co, .bool false, .int .i64 0, .int .i64 0, .int .i64 0] 41) = wn98 at Fn98 ⊢
                    clear hbe Fn97
                    refine hK.out _ _ (HRD.out _ Fn98.out.kp) (fun hS => ?_)
                    clear hK
                    simp only [List.setIfInBounds_toArray, List.set_cons_zero, List.set_cons_succ]
                    clear hS
                    refine wpAnyH_ready (rs := [8]) (by kernel_rfl) (by simp) (AllReadyH.cons rfl (fun K hK => ?_) AllReadyH.nil)
                    have hmU := (Fn98.out.mks (bu98, 41, #[.int .i64 (T + 1), .int .i64 (T + 2), .int .i64 (1 + wt), .int .u64 co, .bool false, .int .i64 0, .int .i64 0, .int .i64 0]) (by simp)).1
                    refine step_app1 usT tc_one (by rfl) (.tmp 83) (.tmp 85) (by rfl) (base := w7.heap.size) (xs := ([] ++ ts)) (y := (⟨T + 1, T + 2, 1 + wt, co, false, 0, 0, 0⟩ : TS)) (by rfl) (by exact Fn98.out.ow) (by rfl) (fun i hi => by
                        match i, hi with
                        | 0, _ => exact hmU.cell 0
                        | 1, _ => exact hmU.cell 1
                        | 2, _ => exact hmU.cell 2
                        | 3, _ => exact hmU.cell 3
                        | 4, _ => exact hmU.cell 4
                        | 5, _ => exact hmU.cell 5
                        | 6, _ => exact hmU.cell 6
                        | 7, _ => exact hmU.cell 7) (by rw [List.nil_append, HM.out]; omega) (by rw [List.nil_append, HM.out]; simp only [maxLen]; omega) (by exact Fn98.out.kp.size) ?_
                    intro vp99 wn99 o8 g8 p8
                    obtain ⟨Ap99, cp99, rfl⟩ := o8.formN (m := m + 1) (by rw [List.nil_append, List.length_append, HM.out]; rfl)
                    have Fn99 := hid (Fn98.out.app o8 g8 p8)
                    clear o8 g8 p8 hmU Fn98
                    refine hK.out _ _ (HRD.out _ Fn99.out.kp) (fun hS => ?_)
                    clear hK
                    simp only [List.setIfInBounds_toArray, List.set_cons_zero, List.set_cons_succ, Act.put]
                    refine wpAnyH_take (i := 9) (v := ?_) rfl (by kernel_rfl) (by kernel_rfl) (by kernel_rfl) (fun _ _ _ h => h) (Or.inl ⟨by rfl, ?_⟩) hS ?_
                    rotate_left
                    · (intro w6 hS6; obtain ⟨hB6, hX6⟩ := hS6; have z0 := hB6.cell 0; have z1 := hB6.cell 1; have y0 := hX6.cell 0; have y1 := hX6.cell 1; have y2 := hX6.cell 2; have y3 := hX6.cell 3; have y4 := hX6.cell 4; have y5 := hX6.cell 5; have y6 := hX6.cell 6; have y7 := hX6.cell 7; simp only [List.getElem?_toArray, List.getElem?_cons_zero, List.getElem?_cons_succ] at z0 z1 y0 y1 y2 y3 y4 y5 y6 y7; (try go_simp); (try with_reducible rfl))
                    simp only [List.getElem_toArray, List.getElem_cons_zero, List.getElem_cons_succ, Act.put, List.setIfInBounds_toArray, List.set_cons_zero, List.set_cons_succ]
                    clear hS
                    refine wpAnyH_done (by kernel_rfl) ?_ _
                    refine then_of ?_
                    simp only [List.cons_append, List.nil_append]
                    have hmC := (Fn99.out.mks (bc95, 25, #[.slice none 0 0, .slice none 0 0]) (by simp)).1
                    have c0 := hmC.cell 0
                    have c1 := hmC.cell 1
                    have f0 := hmC.frozen 0
                    have f1 := hmC.frozen 1
                    simp only [List.getElem?_toArray, List.getElem?_cons_zero, List.getElem?_cons_succ] at c0 c1
                    have FB := hid (Fn99.out.fin (b := bc95) (c0 := .slice none 0 0) (c1 := .slice none 0 0) (by simp) (.slice (some ⟨b, off, none⟩) n c))
                    clear hmC Fn99
                    go_wp2_with fail
                    go_meet
                    exact ⟨_, _, _, rfl, FB⟩
                  · simp only [List.getElem_toArray, List.getElem_cons_zero, List.getElem_cons_succ]
                    go_simp
                    have Fn100 := hid (Fn96.out.mark 41 #[.int .i64 (T + 1), .int .i64 (T + 2), .int .i64 (1 + wt), .int .u64 co, .bool false, .int .i64 0, .int .i64 0, .int .i64 0])
                    obtain ⟨bu100, hbe⟩ : ∃ b, wn96.heap.size = b := ⟨_, rfl⟩
                    rw [hbe] at Fn100 ⊢
                    generalize wn96.alloc (.cells #[.int .i64 (T + 1), .int .i64 (T + 2), .int .i64 (1 + wt), .int .u64 co, .bool false, .int .i64 0, .int .i64 0, .int .i64 0] 41) = wn100 at Fn100 ⊢
                    clear hbe Fn96
                    refine hK.out _ _ (HRD.out _ Fn100.out.kp) (fun hS => ?_)
                    clear hK
                    simp only [List.setIfInBounds_toArray, List.set_cons_zero, List.set_cons_succ]
                    clear hS
                    refine wpAnyH_ready (rs := [5]) (by kernel_rfl) (by simp) (AllReadyH.cons rfl (fun K hK => ?_) AllReadyH.nil)
                    refine step_appl usT tc_one (by rfl) (.tmp 80) (.tmp 82) (by rfl) (.slice (some ⟨be96, 0, none⟩) 0 0) (.slice A2 m c2) (by rfl) (by rfl) Fn100.out.ow (HT.out.kp0 (KL5.out.trans Fn100.out.kp)) (by rw [HM.out]; simp; omega) (by rw [HM.out]; simp [maxLen]; omega) Fn100.out.kp.size ?_
                    intro va101 wn101 o8 g8 p8
                    have Fn101 := hid (Fn100.out.app o8 g8 p8)
                    clear o8 g8 p8 Fn100
                    refine hK.out _ _ (HRD.out _ Fn101.out.kp) (fun hS => ?_)
                    clear hK
                    simp only [List.setIfInBounds_toArray, List.set_cons_zero, List.set_cons_succ, Act.put]
                    clear hS
                    refine wpAnyH_ready (rs := [8]) (by kernel_rfl) (by simp) (AllReadyH.cons rfl (fun K hK => ?_) AllReadyH.nil)
                    have hmU := (Fn101.out.mks (bu100, 41, #[.int .i64 (T + 1), .int .i64 (T + 2), .int .i64 (1 + wt), .int .u64 co, .bool false, .int .i64 0, .int .i64 0, .int .i64 0]) (by simp)).1
                    refine step_app1 usT tc_one (by rfl) (.tmp 83) (.tmp 85) (by rfl) (base := w7.heap.size) (xs := ([] ++ ts)) (y := (⟨T + 1, T + 2, 1 + wt, co, false, 0, 0, 0⟩ : TS)) (by rfl) (by exact Fn101.out.ow) (by rfl) (fun i hi => by
                        match i, hi with
                        | 0, _ => exact hmU.cell 0
                        | 1, _ => exact hmU.cell 1
                        | 2, _ => exact hmU.cell 2
                        | 3, _ => exact hmU.cell 3
                        | 4, _ => exact hmU.cell 4
                        | 5, _ => exact hmU.cell 5
                        | 6, _ => exact hmU.cell 6
                        | 7, _ => exact hmU.cell 7) (by rw [List.nil_append, HM.out]; omega) (by rw [List.nil_append, HM.out]; simp only [maxLen]; omega) (by exact Fn101.out.kp.size) ?_
                    intro vp102 wn102 o8 g8 p8
                    obtain ⟨Ap102, cp102, rfl⟩ := o8.formN (m := m + 1) (by rw [List.nil_append, List.length_append, HM.out]; rfl)
                    have Fn102 := hid (Fn101.out.app o8 g8 p8)
                    clear o8 g8 p8 hmU Fn101
                    refine hK.out _ _ (HRD.out _ Fn102.out.kp) (fun hS => ?_)
                    clear hK
                    simp only [List.setIfInBounds_toArray, List.set_cons_zero, List.set_cons_succ, Act.put]
                    refine wpAnyH_take (i := 9) (v := ?_) rfl (by kernel_rfl) (by kernel_rfl) (by kernel_rfl) (fun _ _ _ h => h) (Or.inl ⟨by rfl, ?_⟩) hS ?_
                    rotate_left
                    · (intro w6 hS6; obtain ⟨hB6, hX6⟩ := hS6; have z0 := hB6.cell 0; have z1 := hB6.cell 1; have y0 := hX6.cell 0; have y1 := hX6.cell 1; have y2 := hX6.cell 2; have y3 := hX6.cell 3; have y4 := hX6.cell 4; have y5 := hX6.cell 5; have y6 := hX6.cell 6; have y7 := hX6.cell 7; simp only [List.getElem?_toArray, List.getElem?_cons_zero, List.getElem?_cons_succ] at z0 z1 y0 y1 y2 y3 y4 y5 y6 y7; (try go_simp); (try with_reducible rfl))
                    simp only [List.getElem_toArray, List.getElem_cons_zero, List.getElem_cons_succ, Act.put, List.setIfInBounds_toArray, List.set_cons_zero, List.set_cons_succ]
                    clear hS
                    refine wpAnyH_done (by kernel_rfl) ?_ _
                    refine then_of ?_
                    simp only [List.cons_append, List.nil_append]
                    have hmC := (Fn102.out.mks (bc95, 25, #[.slice none 0 0, .slice none 0 0]) (by simp)).1
                    have c0 := hmC.cell 0
                    have c1 := hmC.cell 1
                    have f0 := hmC.frozen 0
                    have f1 := hmC.frozen 1
                    simp only [List.getElem?_toArray, List.getElem?_cons_zero, List.getElem?_cons_succ] at c0 c1
                    have FB := hid (Fn102.out.fin (b := bc95) (c0 := .slice none 0 0) (c1 := .slice none 0 0) (by simp) (.slice (some ⟨b, off, none⟩) n c))
                    clear hmC Fn102
                    go_wp2_with fail
                    go_meet
                    exact ⟨_, _, _, rfl, FB⟩
                · simp only [List.getElem_toArray, List.getElem_cons_zero, List.getElem_cons_succ]
                  go_simp
                  have Fn103 := hid (Fn95.out.mark 41 #[.int .i64 (T + 1), .int .i64 (T + 2), .int .i64 (1 + wt), .int .u64 co, .bool false, .int .i64 0, .int .i64 0, .int .i64 0])
                  obtain ⟨bu103, hbe⟩ : ∃ b, wn95.heap.size = b := ⟨_, rfl⟩
                  rw [hbe] at Fn103 ⊢
                  generalize wn95.alloc (.cells #[.int .i64 (T + 1), .int .i64 (T + 2), .int .i64 (1 + wt), .int .u64 co, .bool false, .int .i64 0, .int .i64 0, .int .i64 0] 41) = wn103 at Fn103 ⊢
                  clear hbe Fn95
                  refine hK.out _ _ (HRD.out _ Fn103.out.kp) (fun hS => ?_)
                  clear hK
                  simp only [List.setIfInBounds_toArray, List.set_cons_zero, List.set_cons_succ]
                  clear hS
                  refine wpAnyH_ready (rs := [2]) (by kernel_rfl) (by simp) (AllReadyH.cons rfl (fun K hK => ?_) AllReadyH.nil)
                  simp only [List.getElem_toArray, List.getElem_cons_zero, List.getElem_cons_succ]
                  go_simp
                  have Fn104 := hid Fn103.out.mt
                  obtain ⟨be104, hbe⟩ : ∃ b, wn103.heap.size = b := ⟨_, rfl⟩
                  rw [hbe] at Fn104 ⊢
                  generalize wn103.alloc (.cells #[] 41) = wn104 at Fn104 ⊢
                  clear hbe Fn103
                  refine hK.out _ _ (HRD.out _ Fn104.out.kp) (fun hS => ?_)
                  clear hK
                  simp only [List.setIfInBounds_toArray, List.set_cons_zero, List.set_cons_succ]
                  clear hS
                  refine wpAnyH_ready (rs := [5]) (by kernel_rfl) (by simp) (AllReadyH.cons rfl (fun K hK => ?_) AllReadyH.nil)
                  refine step_appl usT tc_one (by rfl) (.tmp 80) (.tmp 82) (by rfl) (.slice (some ⟨be104, 0, none⟩) 0 0) (.slice A2 m c2) (by rfl) (by rfl) Fn104.out.ow (HT.out.kp0 (KL5.out.trans Fn104.out.kp)) (by rw [HM.out]; simp; omega) (by rw [HM.out]; simp [maxLen]; omega) Fn104.out.kp.size ?_
                  intro va105 wn105 o8 g8 p8
                  have Fn105 := hid (Fn104.out.app o8 g8 p8)
                  clear o8 g8 p8 Fn104
                  refine hK.out _ _ (HRD.out _ Fn105.out.kp) (fun hS => ?_)
                  clear hK
                  simp only [List.setIfInBounds_toArray, List.set_cons_zero, List.set_cons_succ, Act.put]
                  clear hS
                  refine wpAnyH_ready (rs := [8]) (by kernel_rfl) (by simp) (AllReadyH.cons rfl (fun K hK => ?_) AllReadyH.nil)
                  have hmU := (Fn105.out.mks (bu103, 41, #[.int .i64 (T + 1), .int .i64 (T + 2), .int .i64 (1 + wt), .int .u64 co, .bool false, .int .i64 0, .int .i64 0, .int .i64 0]) (by simp)).1
                  refine step_app1 usT tc_one (by rfl) (.tmp 83) (.tmp 85) (by rfl) (base := w7.heap.size) (xs := ([] ++ ts)) (y := (⟨T + 1, T + 2, 1 + wt, co, false, 0, 0, 0⟩ : TS)) (by rfl) (by exact Fn105.out.ow) (by rfl) (fun i hi => by
                      match i, hi with
                      | 0, _ => exact hmU.cell 0
                      | 1, _ => exact hmU.cell 1
                      | 2, _ => exact hmU.cell 2
                      | 3, _ => exact hmU.cell 3
                      | 4, _ => exact hmU.cell 4
                      | 5, _ => exact hmU.cell 5
                      | 6, _ => exact hmU.cell 6
                      | 7, _ => exact hmU.cell 7) (by rw [List.nil_append, HM.out]; omega) (by rw [List.nil_append, HM.out]; simp only [maxLen]; omega) (by exact Fn105.out.kp.size) ?_
                  intro vp106 wn106 o8 g8 p8
                  obtain ⟨Ap106, cp106, rfl⟩ := o8.formN (m := m + 1) (by rw [List.nil_append, List.length_append, HM.out]; rfl)
                  have Fn106 := hid (Fn105.out.app o8 g8 p8)
                  clear o8 g8 p8 hmU Fn105
                  refine hK.out _ _ (HRD.out _ Fn106.out.kp) (fun hS => ?_)
                  clear hK
                  simp only [List.setIfInBounds_toArray, List.set_cons_zero, List.set_cons_succ, Act.put]
                  refine wpAnyH_take (i := 9) (v := ?_) rfl (by kernel_rfl) (by kernel_rfl) (by kernel_rfl) (fun _ _ _ h => h) (Or.inl ⟨by rfl, ?_⟩) hS ?_
                  rotate_left
                  · (intro w6 hS6; obtain ⟨hB6, hX6⟩ := hS6; have z0 := hB6.cell 0; have z1 := hB6.cell 1; have y0 := hX6.cell 0; have y1 := hX6.cell 1; have y2 := hX6.cell 2; have y3 := hX6.cell 3; have y4 := hX6.cell 4; have y5 := hX6.cell 5; have y6 := hX6.cell 6; have y7 := hX6.cell 7; simp only [List.getElem?_toArray, List.getElem?_cons_zero, List.getElem?_cons_succ] at z0 z1 y0 y1 y2 y3 y4 y5 y6 y7; (try go_simp); (try with_reducible rfl))
                  simp only [List.getElem_toArray, List.getElem_cons_zero, List.getElem_cons_succ, Act.put, List.setIfInBounds_toArray, List.set_cons_zero, List.set_cons_succ]
                  clear hS
                  refine wpAnyH_done (by kernel_rfl) ?_ _
                  refine then_of ?_
                  simp only [List.cons_append, List.nil_append]
                  have hmC := (Fn106.out.mks (bc95, 25, #[.slice none 0 0, .slice none 0 0]) (by simp)).1
                  have c0 := hmC.cell 0
                  have c1 := hmC.cell 1
                  have f0 := hmC.frozen 0
                  have f1 := hmC.frozen 1
                  simp only [List.getElem?_toArray, List.getElem?_cons_zero, List.getElem?_cons_succ] at c0 c1
                  have FB := hid (Fn106.out.fin (b := bc95) (c0 := .slice none 0 0) (c1 := .slice none 0 0) (by simp) (.slice (some ⟨b, off, none⟩) n c))
                  clear hmC Fn106
                  go_wp2_with fail
                  go_meet
                  exact ⟨_, _, _, rfl, FB⟩
            case rest =>
              obtain ⟨q2, A3, c3, rfl, HB2⟩ := hcut
              obtain ⟨w8, hw8⟩ : ∃ w8, wc = w8 := ⟨_, rfl⟩
              rw [hw8] at HB2 ⊢
              clear hw8 HRD
              have K8 := hid (K7.out.trans HB2.out.kp)
              have Q8 := hid (Q7.out.kp0 HB2.out.kp)
              have S1 := hid (show Sce w8 Anyb (.agg #[.slice (some ⟨b, off, none⟩) n c, .slice A1 (m + 1) c1]) gs (([] ++ ts) ++ [(⟨T + 1, gid, 1 + wt, co, false, 0, 0, 0⟩ : TS)]) from ⟨_, _, rfl, HG.out.kp0 K8.out, (O7.out.kp0 HB2.out.kp).rwp.any⟩)
              have S2 := hid (show Sce w8 Anyb (.agg #[.slice (some ⟨b, off, none⟩) n c, .slice A3 (m + 1) c3]) gs (([] ++ ts) ++ [(⟨T + 1, T + 2, 1 + wt, co, false, 0, 0, 0⟩ : TS)]) from ⟨_, _, rfl, HG.out.kp0 K8.out, HB2.out.ow.rwp.any⟩)
              have R2 := hid HB2.out.bx
              rw [List.nil_append] at S1 S2
              obtain ⟨can, hcan⟩ : ∃ q, decide (co ≠ 0 ∧ T < 1048576) = q := ⟨_, rfl⟩
              have e1 : checkS gs (ts ++ [(⟨T + 1, gid, 1 + wt, co, false, 0, 0, 0⟩ : TS)]) = if can then 0 else 1 := by
                rw [check_more HCE.out (by rw [HM.out]; omega) rfl HTB.out.1 HMAX.out (show 1 ≤ 1 + wt ∧ 1 + wt ≤ 65536 by omega) rfl rfl rfl]
                show (if co = 0 ∨ 1048576 ≤ T then (1 : Int) else if gid ∈ gs.map (·.id) then 0 else 8) = _
                rw [if_pos HGM.out, ← hcan]
                by_cases h : co ≠ 0 ∧ T < 1048576
                · rw [if_neg (by omega), decide_eq_true h]; rfl
                · rw [if_pos (by omega), decide_eq_false h]; rfl
              have e2 : checkS gs (ts ++ [(⟨T + 1, T + 2, 1 + wt, co, false, 0, 0, 0⟩ : TS)]) = if can then 8 else 1 := by
                rw [check_more HCE.out (by rw [HM.out]; omega) rfl HTB.out.1 HMAX.out (show 1 ≤ 1 + wt ∧ 1 + wt ≤ 65536 by omega) rfl rfl rfl]
                show (if co = 0 ∨ 1048576 ≤ T then (1 : Int) else if T + 2 ∈ gs.map (·.id) then 0 else 8) = _
                have hno : ¬ T + 2 ∈ gs.map (·.id) := fun h => by have := HMAX.out _ (List.mem_append_left _ h); omega
                rw [if_neg hno, ← hcan]
                by_cases h : co ≠ 0 ∧ T < 1048576
                · rw [if_neg (by omega), decide_eq_true h]; rfl
                · rw [if_pos (by omega), decide_eq_false h]; rfl
              have HGI := hid (show I64 gid by have h := HIDS.out gid (by unfold idsOf; exact List.mem_append_left _ HGM.out); unfold Sm at h; unfold I64; omega)
              have hpt1 : ∀ t ∈ ts ++ [(⟨T + 1, gid, 1 + wt, co, false, 0, 0, 0⟩ : TS)], I64 t.gr := fun t ht => by
                rcases List.mem_append.1 ht with ht | ht
                · exact HPT.out t ht
                · rw [List.mem_singleton.1 ht]
                  exact HGI.out
              have hpt2 : ∀ t ∈ ts ++ [(⟨T + 1, T + 2, 1 + wt, co, false, 0, 0, 0⟩ : TS)], I64 t.gr := fun t ht => by
                rcases List.mem_append.1 ht with ht | ht
                · exact HPT.out t ht
                · rw [List.mem_singleton.1 ht]
                  show I64 (T + 2)
                  unfold I64
                  omega
              have HC1 := hid (zcheck_any S1.out HP.out hpt1)
              have HC2 := hid (fun (W : World) (k : Kp No w8 W) => zcheck_any (S2.out.kp0 k) HP.out hpt2)
              rw [e1] at HC1
              rw [e2] at HC2
              have b10 := Q8.out.cell 0
              have b11 := Q8.out.cell 1
              simp only [List.getElem?_toArray, List.getElem?_cons_zero, List.getElem?_cons_succ] at b10 b11
              have HCAN := hid hcan
              clear e1 e2 hpt1 hpt2 hcan
              cases can
              · simp only [if_neg Bool.false_ne_true] at HC1 HC2
                have hno := of_decide_eq_false HCAN.out
                by_cases hc0 : co = 0
                · subst hc0
                  go_wp2_with (first
                    | (go_at_call 6
                       with_reducible refine HC1.out.mono ?_
                       rintro e w9 ⟨rfl, k9⟩
                       have K9 := hid k9
                       have r2 := R2.out.kp0 k9
                       have b20 := r2.cell 0
                       have b21 := r2.cell 1
                       simp only [List.getElem?_toArray, List.getElem?_cons_zero, List.getElem?_cons_succ] at b20 b21
                       clear k9 r2)
                    | (go_at_call 6
                       with_reducible refine (HC2.out _ K9.out).mono ?_
                       rintro e w10 ⟨rfl, k10⟩
                       have K10 := hid (K9.out.trans k10)
                       clear k10))
                  go_ret
                  exact ⟨rfl, K0.out.trans (K8.out.trans K10.out)⟩
                · have hc1 : (co != 0) = true := by rw [bne_iff_ne]; exact hc0
                  have hc2 : ¬ T < 1048576 := fun h => hno ⟨hc0, h⟩
                  go_wp2_with (first
                    | (go_at_call 6
                       with_reducible refine HC1.out.mono ?_
                       rintro e w9 ⟨rfl, k9⟩
                       have K9 := hid k9
                       have r2 := R2.out.kp0 k9
                       have b20 := r2.cell 0
                       have b21 := r2.cell 1
                       simp only [List.getElem?_toArray, List.getElem?_cons_zero, List.getElem?_cons_succ] at b20 b21
                       clear k9 r2)
                    | (go_at_call 6
                       with_reducible refine (HC2.out _ K9.out).mono ?_
                       rintro e w10 ⟨rfl, k10⟩
                       have K10 := hid (K9.out.trans k10)
                       clear k10))
                  go_ret
                  exact ⟨rfl, K0.out.trans (K8.out.trans K10.out)⟩
              · simp only [if_true] at HC1 HC2
                obtain ⟨hc0, hc2⟩ := of_decide_eq_true HCAN.out
                have hc1 : (co != 0) = true := by rw [bne_iff_ne]; exact hc0
                go_wp2_with (first
                  | (go_at_call 6
                     with_reducible refine HC1.out.mono ?_
                     rintro e w9 ⟨rfl, k9⟩
                     have K9 := hid k9
                     have r2 := R2.out.kp0 k9
                     have b20 := r2.cell 0
                     have b21 := r2.cell 1
                     simp only [List.getElem?_toArray, List.getElem?_cons_zero, List.getElem?_cons_succ] at b20 b21
                     clear k9 r2)
                  | (go_at_call 6
                     with_reducible refine (HC2.out _ K9.out).mono ?_
                     rintro e w10 ⟨rfl, k10⟩
                     have K10 := hid (K9.out.trans k10)
                     clear k10))
                go_ret
                exact ⟨rfl, K0.out.trans (K8.out.trans K10.out)⟩
    · have hce : (ce != 0) = true := by simpa using hc0
      go_enter Tryz.func3, Tryz.ntmps3
      go_upto_region 1 with fail
      clear hw0
      go_wp2_with (first
        | (go_at_call 4
           with_reducible refine (zawake_any w0).mono ?_
           rintro e w1 ⟨rfl, k1⟩
           have K1 := hid k1
           have B1 := B0.out.kp0 k1
           have s10 := B1.cell 0
           have s11 := B1.cell 1
           simp only [List.getElem?_toArray, List.getElem?_cons_zero, List.getElem?_cons_succ] at s10 s11
           clear k1 B1)
        | (go_at_call 5
           with_reducible refine (HF.out _ K1.out).mono ?_
           rintro e w2 ⟨rfl, k2⟩
           have K2 := hid (K1.out.trans k2)
           have B2 := B0.out.kp0 (K1.out.trans k2)
           have s20 := B2.cell 0
           have s21 := B2.cell 1
           simp only [List.getElem?_toArray, List.getElem?_cons_zero, List.getElem?_cons_succ] at s20 s21
           clear k2 B2)
        | (go_at_call 6
           with_reducible refine (HC.out _ K2.out).mono ?_
           rintro e w3 ⟨rfl, k3⟩
           have K3 := hid (K2.out.trans k3)
           have B3 := B0.out.kp0 (K2.out.trans k3)
           have s30 := B3.cell 0
           have s31 := B3.cell 1
           simp only [List.getElem?_toArray, List.getElem?_cons_zero, List.getElem?_cons_succ] at s30 s31
           clear k3 B3))
      go_ret
      exact ⟨rfl, K0.out.trans K3.out⟩
end Go.Proofs.YtggmdgdgljlddaaGreat
