/-
  The walk of SceneParts.
-/
import Derived.Test.YtjmaingpiieioaaGreatZParts
import Derived.Test.YtjmaingpiieioaaGreatZSame
import Derived.Test.YtjmaingpiieioaaGreatZOpen
namespace Go.Proofs.YtjmaingpiieioaaGreat
open Go.RowKit Go.Shelf

theorem check_is {w : World} {P : Nat → Prop} {v : Value} {gs : List GS} {ts : List TS} {c : Int} (h : Sn w P v gs ts) (hp : ∀ g ∈ gs, I64 g.id ∧ I64 g.par) (hpt : ∀ t ∈ ts, I64 t.gr) (hc : checkS gs ts = c) :
    Calls Tryz.prog 12 #[v] w fun e w' => e = .returned (.int .i64 c) ∧ Kp No w w' := by
  rw [← hc]
  exact check_any h hp hpt
theorem few_is {w : World} {P : Nat → Prop} {v : Value} {gs : List GS} {ts : List TS} {q : Bool} (h : Sn w P v gs ts) (hq : few gs ts = q) :
    Calls Tryz.prog 10 #[v] w fun e w' => e = .returned (.bool q) ∧ Kp No w w' := by
  rw [← hq]
  exact few_any h

section
variable {P : Program} {α : Type} {n bytes : Nat} {z : Value} {f : α → Nat → Value} {t e : TypeId} {base : Nat} {xs ys : List α} {d : α} {v : Value} {w : World} {Pb : Nat → Prop}
theorem step_apps (u : Us P t e n bytes z) (hf : ∀ x i, (f x i).oneCell' = true) {ops : Array Oper} {o : Oper} {a : Act} {K : Act → World → Prop} {Q : Exit → Act → World → Prop} {E : Prop} (hgd : o.guard = none) (s x : Operand)
    (ho : o.op = .call { callee := .builtin .append, args := #[s, x], argTypes := #[t, t] }) (hv : a.eval s = v) {r : Value} (hr : a.eval x = r) (hown : Ow w base e n f v xs) (hx : Rw n f d w Pb r ys)
    (hle : (xs.length + ys.length) * bytes ≤ 140737488355328) (h63 : xs.length + ys.length ≤ maxLen) (hbase : base ≤ w.heap.size)
    (h : ∀ v' w', Ow w' base e n f v' (xs ++ ys) → w.grownBy w' v.ownBlock → K (a.put o.dst v') w') : if Region.wanted o (yielded ops a.tmps) = true then Oper.wp P o a w K Q else E := by
  have hw : Region.wanted o (yielded ops a.tmps) = true := by simp [Region.wanted, hgd]
  rw [if_pos hw]
  obtain ⟨v', w', hrun, h2, h3⟩ := run_apps (P := P) (ty := o.type) u hf w hown hx hle h63 hbase
  unfold Oper.wp execOp
  simp only [ho, resolve, invoke, builtin, Sem.run_bind, Sem.run_pure, Result.andThen_ok, List.map_toArray, List.map_cons, List.map_nil, hv, hr, hrun]
  exact h v' w' h2 h3
theorem Rw.take {A : Option Addr} {m c k : Nat} (h : Rw n f d w Pb (.slice A m c) xs) (hk : k ≤ xs.length) : Rw n f d w Pb (.slice A k c) (xs.take k) := by
  obtain ⟨A', c', he, h1, h2, h3⟩ := h
  injection he with e1 e2 e3
  subst e1 e3
  have hl : (xs.take k).length = k := by rw [List.length_take]; omega
  refine ⟨A, c, by rw [hl], by omega, h2, fun h0 => ?_⟩
  obtain ⟨b, o, e, g1, g2, g3⟩ := h3 (by omega)
  refine ⟨b, o, e, g1, g2, fun j i hj hi => ?_⟩
  rw [hl] at hj
  rw [g3 j i (by omega) hi]
  simp [List.getD, List.getElem?_take_of_lt hj]
end
theorem parts_take {gs : List GS} {ts : List TS} {p : Nat} (h : checkS gs ts = 0) (hl : gs.length = p + 1) : checkS (gs.take p) (ts.filter fun t => decide (t.gr ≠ (gs.getD p gs0).id)) = if p = 0 then 2 else 0 := by
  cases gs with
  | nil => simp at hl
  | cons g0 gt =>
    rcases List.eq_nil_or_concat gt with e | ⟨gi, L, e⟩
    · subst e
      have : p = 0 := by simpa using hl.symm
      subst this
      rfl
    · rw [List.concat_eq_append] at e
      subst e
      have hp : p = gi.length + 1 := by simp at hl; omega
      subst hp
      have h1 : (g0 :: (gi ++ [L])).take (gi.length + 1) = g0 :: gi := by simp
      have h2 : (g0 :: (gi ++ [L])).getD (gi.length + 1) gs0 = L := by simp [List.getD]
      rw [h1, h2, if_neg (by omega)]
      exact parts_last h
theorem check_nil {gs : List GS} {ts : List TS} (h : checkS gs ts = 0) : checkS gs [] = 0 := by
  cases gs with
  | nil => exact h
  | cons g0 gt => exact parts_none h
/-- What is gathered: the groups, and the tasks so far. -/
structure PJ (w3 : World) (ob : Nat) (ug : Value) (l : List TS) (sv : Value) (W : World) : Prop where
  kp : Kp (Only ob) w3 W
  bx : Blk W ob 25 #[ug, sv]
  ow : Ow W w3.heap.size 46 8 tc sv l
def flt (ts : List TS) (lid : Int) (k : Nat) : List TS := (ts.take k).filter fun t => decide (t.gr ≠ lid)
theorem flt_succ (ts : List TS) (lid : Int) {k : Nat} (hk : k < ts.length) : flt ts lid (k + 1) = flt ts lid k ++ if (ts.getD k ts0).gr ≠ lid then [ts.getD k ts0] else [] := by
  unfold flt
  rw [take_s ts hk ts0, List.filter_append]
  congr 1
  by_cases h : (ts.getD k ts0).gr ≠ lid
  · rw [if_pos h, List.filter_cons_of_pos (by simpa using h), List.filter_nil]
  · rw [if_neg h, List.filter_cons_of_neg (by simpa using h), List.filter_nil]
theorem flt_len (ts : List TS) (lid : Int) (k : Nat) : (flt ts lid k).length ≤ k := by
  unfold flt
  have := List.length_filter_le (fun t : TS => decide (t.gr ≠ lid)) (ts.take k)
  rw [List.length_take] at this
  omega
set_option maxRecDepth 100000 in
set_option maxHeartbeats 4000000 in
theorem sceneParts_walk (w : World) {v : Value} {gs : List GS} {ts : List TS} (h : SnI w v gs ts) :
    Calls Tryz.prog 7 #[v] w fun e w' => e = .returned (.bool true) ∧ Kp No w w' := by
  obtain ⟨hS, hGI, hTI⟩ := h
  obtain ⟨vg, vt, rfl, hg, ht⟩ := id hS
  have hp : ∀ g ∈ gs, I64 g.id ∧ I64 g.par := fun g hg => ⟨(hGI g hg).id, (hGI g hg).par⟩
  have hpt : ∀ t ∈ ts, I64 t.gr := fun t ht => (hTI t ht).gr
  have k0 := (Kp.refl No w).alloc (.cells #[vg, vt] 25)
  have b0 := Blk.new w 25 #[vg, vt]
  obtain ⟨w0, hw0⟩ : ∃ w0, w.alloc (.cells #[vg, vt] 25) = w0 := ⟨_, rfl⟩
  rw [hw0] at k0 b0
  have s0 := b0.cell 0
  have s1 := b0.cell 1
  simp only [List.getElem?_toArray, List.getElem?_cons_zero, List.getElem?_cons_succ] at s0 s1
  have K0 := hid k0
  have B0 := hid b0
  have HS := hid (hS.kp0 k0)
  obtain ⟨fb, hfb⟩ : ∃ fb, few gs ts = fb := ⟨_, rfl⟩
  obtain ⟨ce, hce⟩ : ∃ ce, checkS gs ts = ce := ⟨_, rfl⟩
  have HF := hid (fun (W : World) (k : Kp No w0 W) => few_is (HS.out.kp0 k) hfb)
  have HC := hid (fun (W : World) (k : Kp No w0 W) => check_is (HS.out.kp0 k) hp hpt hce)
  have HCE := hid hce
  have HFB := hid hfb
  have HP := hid hp
  have HG := hid (hg.kp0 k0)
  have HT := hid (ht.old.kp0 k0)
  have HPT := hid hpt
  obtain ⟨A, c, rfl, _⟩ := hg
  obtain ⟨A2, c2, rfl, _⟩ := ht
  obtain ⟨n, hn⟩ : ∃ n, gs.length = n := ⟨_, rfl⟩
  obtain ⟨m, hm⟩ : ∃ m, ts.length = m := ⟨_, rfl⟩
  rw [hn] at HS HF HC HG s0 hw0 B0 ⊢
  rw [hm] at HS HF HC HT s1 hw0 B0 ⊢
  have HN := hid hn
  have HM := hid hm
  clear hS hGI hTI hp hpt k0 b0 hfb hce hn hm
  cases fb
  · go_enter Tryz.func7, Tryz.ntmps7
    go_upto_region 1 with fail
    clear hw0
    go_wp2_with (first
      | (go_at_call 9
         with_reducible refine (awake_any w0).mono ?_
         rintro e w1 ⟨rfl, k1⟩
         have K1 := hid k1
         have B1 := B0.out.kp0 k1
         have s10 := B1.cell 0
         have s11 := B1.cell 1
         simp only [List.getElem?_toArray, List.getElem?_cons_zero, List.getElem?_cons_succ] at s10 s11
         clear k1 B1)
      | (go_at_call 10
         with_reducible refine (HF.out _ K1.out).mono ?_
         rintro e w2 ⟨rfl, k2⟩
         have K2 := hid (K1.out.trans k2)
         have B2 := B0.out.kp0 (K1.out.trans k2)
         have s20 := B2.cell 0
         have s21 := B2.cell 1
         simp only [List.getElem?_toArray, List.getElem?_cons_zero, List.getElem?_cons_succ] at s20 s21
         clear k2 B2)
      | (go_at_call 12
         with_reducible refine (HC.out _ K2.out).mono ?_
         rintro e w3 ⟨rfl, k3⟩
         have K3 := hid (K2.out.trans k3)
         have B3 := B0.out.kp0 (K2.out.trans k3)
         have s30 := B3.cell 0
         have s31 := B3.cell 1
         simp only [List.getElem?_toArray, List.getElem?_cons_zero, List.getElem?_cons_succ] at s30 s31
         clear k3 B3))
    go_ret
    exact ⟨rfl, K0.out.trans K3.out⟩
  · by_cases hc0 : ce = 0
    · subst hc0
      have hfw := HFB.out
      unfold few at hfw
      rw [Bool.and_eq_true, decide_eq_true_eq, decide_eq_true_eq, HN.out, HM.out] at hfw
      have hfw1 := hfw.1
      have hfw2 := hfw.2
      obtain ⟨p, hp⟩ : ∃ p, n = p + 1 := by
        refine ⟨n - 1, ?_⟩
        have : n ≠ 0 := fun e => by
          have h2 := HN.out
          rw [e] at h2
          have h3 := HCE.out
          rw [List.eq_nil_of_length_eq_zero h2] at h3
          have h4 : (2 : Int) = 0 := h3
          exact absurd h4 (by decide)
        omega
      have FC := parts_take (ts := ts) (p := p) HCE.out (by rw [HN.out, hp])
      have HC0 := hid (fun (W : World) (k : Kp No w0 W) => check_is (c := 0) (show Sn W Anyb (.agg #[.slice A n c, .slice none 0 0]) gs [] from ⟨_, _, rfl, HG.out.kp0 k, Rw.nil _ _ _ _ _⟩) HP.out (fun t ht => by cases ht) (check_nil HCE.out))
      have hpn : p < gs.length := by rw [HN.out]; omega
      have hn1 : (n : Int) - 1 = (p : Int) := by omega
      have hwp := wrapI (x := (p : Int)) (by unfold I64; omega)
      have hpl : p < n := by omega
      have hpp : p ≤ 29 := by omega
      obtain ⟨gl, hgl⟩ : ∃ gl, gs.getD p gs0 = gl := ⟨_, rfl⟩
      rw [hgl] at FC
      obtain ⟨lid, hlid⟩ : ∃ lid, gl.id = lid := ⟨_, rfl⟩
      rw [hlid] at FC
      obtain ⟨b, off, hA⟩ := HG.out.there (by omega)
      subst hA
      have hq := HG.out.cell (j := p) (i := 0) (Kp.refl No _) hpn (by omega) rfl
      rw [hgl] at hq
      simp only [gc, ge, List.getD_cons_zero, Nat.add_zero, hlid] at hq
      have HQ := hid (fun (W : World) (k : Kp No w0 W) => (k.cell (p := ⟨b, off + p * 6, none⟩) (World.block_lt_of_cell? w0 _ hq) fun e => e).trans hq)
      have FCH := hid FC
      have HNP := hid hp
      have HPN := hid hpn
      clear FC hp hpn hgl hlid hq hfw
      go_enter Tryz.func7, Tryz.ntmps7
      go_upto_region 1 with fail
      clear hw0
      go_upto_region 11 with (first
        | (go_at_call 9
           with_reducible refine (awake_any w0).mono ?_
           rintro e w1 ⟨rfl, k1⟩
           have K1 := hid k1
           have B1 := B0.out.kp0 k1
           have s10 := B1.cell 0
           have s11 := B1.cell 1
           simp only [List.getElem?_toArray, List.getElem?_cons_zero, List.getElem?_cons_succ] at s10 s11
           clear k1 B1)
        | (go_at_call 10
           with_reducible refine (HF.out _ K1.out).mono ?_
           rintro e w2 ⟨rfl, k2⟩
           have K2 := hid (K1.out.trans k2)
           have B2 := B0.out.kp0 (K1.out.trans k2)
           have s20 := B2.cell 0
           have s21 := B2.cell 1
           simp only [List.getElem?_toArray, List.getElem?_cons_zero, List.getElem?_cons_succ] at s20 s21
           clear k2 B2)
        | (go_at_call 12
           with_reducible refine (HC.out _ K2.out).mono ?_
           rintro e w3 ⟨rfl, k3⟩
           have K3 := hid (K2.out.trans k3)
           have K4 := hid ((K2.out.trans k3).alloc (.cells #[.slice (some ⟨b, off, none⟩) n c, .slice none 0 0] 25))
           have B3 := B0.out.kp0 (K2.out.trans k3)
           have s30 := B3.cell 0
           have s31 := B3.cell 1
           simp only [List.getElem?_toArray, List.getElem?_cons_zero, List.getElem?_cons_succ] at s30 s31
           clear k3 B3)
        | (go_at_call 12
           with_reducible refine (HC0.out _ K4.out).mono ?_
           rintro e w5 ⟨rfl, k5⟩
           have K5 := hid (K4.out.trans k5)
           have B5 := hid (B0.out.kp0 K5.out)
           have s50 := B5.out.cell 0
           have s51 := B5.out.cell 1
           simp only [List.getElem?_toArray, List.getElem?_cons_zero, List.getElem?_cons_succ] at s50 s51
           have q5 := HQ.out w5 K5.out
           clear k5))
      have hnc : n ≤ c := by
        obtain ⟨_, _, he, h1, _⟩ := HG.out
        injection he with _ e2 e3
        omega
      have hpc : p ≤ c := by omega
      have k56 := (Kp.refl No w5).alloc (.cells #[.slice none 0 0, .slice none 0 0] 25)
      have b6 := Blk.new w5 25 #[.slice none 0 0, .slice none 0 0]
      have z6 := World.size_alloc w5 (.cells #[.slice none 0 0, .slice none 0 0] 25)
      obtain ⟨w6, hw6⟩ : ∃ w6, w5.alloc (.cells #[.slice none 0 0, .slice none 0 0] 25) = w6 := ⟨_, rfl⟩
      rw [hw6] at k56 b6 z6
      have K6 := hid (K5.out.trans k56)
      have B6 := hid b6
      have B06 := B5.out.kp0 k56
      have s60 := B06.cell 0
      have s61 := B06.cell 1
      have u60 := b6.cell 0
      have u61 := b6.cell 1
      simp only [List.getElem?_toArray, List.getElem?_cons_zero, List.getElem?_cons_succ] at s60 s61 u60 u61
      have GZ := hid ((HG.out.kp0 K6.out.drew).take (k := p) (by have := HPN.out; omega))
      have Z5 := hid (show w.heap.size < w5.heap.size from Nat.lt_of_lt_of_le B0.out.lt K5.out.size)
      have Z6 := hid z6
      have HTL := hid (show (gs.take p).length = p by rw [List.length_take]; have := HPN.out; omega)
      go_upto_region 12 with fail
      clear hw6 k56 b6 B06
      go_region_law (first
        | (refine step_apps usG gc_one (by rfl) (.tmp 41) (.tmp 45) (by rfl) (base := w6.heap.size) (xs := []) (ys := gs.take p) (by rfl) (by rfl) (by exact Ow.nil _ _ _ _ _) (by exact GZ.out) (by rw [HTL.out, List.length_nil]; omega) (by rw [HTL.out, List.length_nil]; simp only [maxLen]; omega) (by exact Nat.le_refl _) ?_
           intro v7 w7 o7 k7
           rw [List.nil_append] at o7
           obtain ⟨A7, c7, rfl⟩ := o7.formN HTL.out
           have kA := (Kp.refl No _).grown k7 (fun k hk => by cases hk)
           have b7 := (B6.out.kp0 (Kp.refl No _).drew).kp0 kA
           have hne7 : (Value.slice A7 p c7).ownBlock ≠ some w5.heap.size := fun e => by have := (o7.blk e).1; have := Z6.out; omega
           have f70 : w7.frozen? ⟨w5.heap.size, 0, none⟩ = false := b7.frozen 0
           have c70 := b7.cell 0
           simp only [List.getElem?_toArray, List.getElem?_cons_zero] at c70
           have kS := Kp.set1 w5.heap.size 0 w7 (.slice A7 p c7)
           have b8 := b7.put 0 (.slice A7 p c7)
           simp only [List.setIfInBounds_toArray, List.set_cons_zero] at b8
           have S9 := hid (show Blk (w7.setCell ⟨w5.heap.size, 0, none⟩ (.slice A7 p c7)) w5.heap.size 25 #[.slice A7 p c7, .slice none 0 0] ∧ Ow (w7.setCell ⟨w5.heap.size, 0, none⟩ (.slice A7 p c7)) w6.heap.size 51 6 gc (.slice A7 p c7) (gs.take p) ∧ Kp No w0 (w7.setCell ⟨w5.heap.size, 0, none⟩ (.slice A7 p c7)) from
             ⟨b8, o7.kpx kS fun i hi e => hne7 (by rw [hi]; exact congrArg some e), (K6.out.drew.trans kA).step kS fun i hi e => by have e : i = w5.heap.size := e; have := K5.out.size; omega⟩)
           clear o7 k7 kA b7 b8 kS hne7))
      all_goals
        obtain ⟨wL, hwL⟩ : ∃ wL, w7.setCell ⟨w5.heap.size, 0, none⟩ (.slice A7 p c7) = wL := ⟨_, rfl⟩
        rw [hwL] at S9 ⊢
        have KL := hid S9.out.2.2
        have OL := hid S9.out.2.1
        have BL := hid S9.out.1
        have BSL := hid (B0.out.kp0 KL.out)
        have HTL2 := hid (HT.out.kp0 KL.out)
        have ZL := hid (show w6.heap.size ≤ wL.heap.size from by
          have h1 := BL.out.lt
          have h2 := Z6.out
          omega)
        have hneL := hid (show (Value.slice A7 p c7).ownBlock ≠ some w5.heap.size from fun e => by have := (OL.out.blk e).1; have := Z6.out; omega)
        clear hwL S9 s60 s61 u60 u61 GZ f70 c70 z6
        go_wp2_with fail
        go_loopw [10] (fun i wr => ∃ k : Nat, k ≤ m ∧ i = .int .i64 (k : Int) ∧ Hid (∃ sv, PJ wL w5.heap.size (.slice A7 p c7) (flt ts lid k) sv wr)) (fun i _ => m - (vI i).toNat)
        case atStart => exact ⟨0, Nat.zero_le _, rfl, hid ⟨_, Kp.refl _ _, BL.out, Ow.nil _ _ _ _ _⟩⟩
        case round =>
          obtain ⟨k, hk2, rfl, HS'⟩ := hrel
          obtain ⟨sv, hs⟩ := HS'.out
          have T := hid hs
          have KW2 := hid hs.kp
          have zw2 := hs.kp.size
          have Bw := BSL.out.kp hs.kp (by show ¬ w.heap.size = w5.heap.size; have := Z5.out; omega)
          have s0 := Bw.cell 0
          have s1 := Bw.cell 1
          have o0 := hs.bx.cell 0
          have o1 := hs.bx.cell 1
          simp only [List.getElem?_toArray, List.getElem?_cons_zero, List.getElem?_cons_succ] at s0 s1 o0 o1
          obtain ⟨M, hM⟩ : ∃ M, (flt ts lid k).length = M := ⟨_, rfl⟩
          obtain ⟨At, ct, rfl⟩ := hs.ow.formN hM
          have hMk : M ≤ k := by rw [← hM]; exact flt_len ts lid k
          have HMM := hid hM
          clear Bw hs HS' hM
          by_cases hkn2 : k < m
          · have hxl : k < ts.length := by rw [HM.out]; exact hkn2
            have Ov := HTL2.out.kp KW2.out (fun i hi hPi e => by have e : i = w5.heap.size := e; have hPi : i < w.heap.size := hPi; have := Z5.out; omega)
            obtain ⟨bt, off2, rfl⟩ := Ov.there (by omega)
            have q0 := Ov.cell (j := k) (i := 0) (Kp.refl No _) hxl (by omega) rfl
            have q1 := Ov.cell (j := k) (i := 1) (Kp.refl No _) hxl (by omega) rfl
            have q2 := Ov.cell (j := k) (i := 2) (Kp.refl No _) hxl (by omega) rfl
            have q3 := Ov.cell (j := k) (i := 3) (Kp.refl No _) hxl (by omega) rfl
            have q4 := Ov.cell (j := k) (i := 4) (Kp.refl No _) hxl (by omega) rfl
            have q5 := Ov.cell (j := k) (i := 5) (Kp.refl No _) hxl (by omega) rfl
            have q6 := Ov.cell (j := k) (i := 6) (Kp.refl No _) hxl (by omega) rfl
            have q7 := Ov.cell (j := k) (i := 7) (Kp.refl No _) hxl (by omega) rfl
            have HE := hid (flt_succ ts lid hxl)
            obtain ⟨x, hx⟩ : ∃ x, ts.getD k ts0 = x := ⟨_, rfl⟩
            rw [hx] at q0 q1 q2 q3 q4 q5 q6 q7 HE
            simp only [tc, te, List.getD_cons_zero, List.getD_cons_succ, Nat.add_zero] at q0 q1 q2 q3 q4 q5 q6 q7
            simp only [← Nat.add_assoc] at q1 q2 q3 q4 q5 q6 q7
            have hg1 : (k : Int) < (m : Int) := by omega
            have hwk := wrapI (x := (k : Int) + 1) (by unfold I64; omega)
            clear Ov hx hxl
            by_cases hgr : x.gr = lid
            · have hgb : (x.gr != lid) = false := by simp [hgr]
              have HE2 := hid (show flt ts lid (k + 1) = flt ts lid k by rw [HE.out, if_neg (by simpa using hgr), List.append_nil])
              have T2 := hid (show ∃ sv, PJ wL w5.heap.size (.slice A7 p c7) (flt ts lid (k + 1)) sv wr from ⟨_, by rw [HE2.out]; exact T.out⟩)
              clear hgr
              go_wp2_with fail
              go_roundw
              case rel => exact ⟨k + 1, by omega, by go_num, T2⟩
              case measure => simp [vI]; omega
            · have hgb : (x.gr != lid) = true := by simpa using hgr
              have HE2 := hid (show flt ts lid (k + 1) = flt ts lid k ++ [x] by rw [HE.out, if_pos hgr])
              have k12 := ((Kp.refl No wr).alloc (.cells #[.int .i64 x.id, .int .i64 x.gr, .int .i64 x.wt, .int .u64 x.co, .bool x.sl, .int .i64 x.ra, .int .i64 x.lv, .int .i64 x.lr] 46)).drew
              have Z2 := hid ((Blk.new wr 46 #[.int .i64 x.id, .int .i64 x.gr, .int .i64 x.wt, .int .u64 x.co, .bool x.sl, .int .i64 x.ra, .int .i64 x.lv, .int .i64 x.lr]).kp0 (Kp.refl No _).drew)
              have OZ := hid (T.out.ow.kp0 k12)
              have BZ := hid (T.out.bx.kp0 k12)
              have KZ := hid k12
              have oz1 := (T.out.bx.kp0 ((Kp.refl No wr).alloc (.cells #[.int .i64 x.id, .int .i64 x.gr, .int .i64 x.wt, .int .u64 x.co, .bool x.sl, .int .i64 x.ra, .int .i64 x.lv, .int .i64 x.lr] 46))).cell 1
              simp only [List.getElem?_toArray, List.getElem?_cons_zero, List.getElem?_cons_succ] at oz1
              clear k12 hgr
              go_upto_region 17 with fail
              go_region_law (first
                | (refine step_app1 usT tc_one (by rfl) (.tmp 64) (.tmp 70) (by rfl) (base := wL.heap.size) (xs := flt ts lid k) (y := x) (by rfl) (by exact OZ.out) (by rfl) (by
                     intro i hi
                     match i, hi with
                     | 0, _ => exact Z2.out.cell 0
                     | 1, _ => exact Z2.out.cell 1
                     | 2, _ => exact Z2.out.cell 2
                     | 3, _ => exact Z2.out.cell 3
                     | 4, _ => exact Z2.out.cell 4
                     | 5, _ => exact Z2.out.cell 5
                     | 6, _ => exact Z2.out.cell 6
                     | 7, _ => exact Z2.out.cell 7) (by rw [HMM.out]; omega) (by rw [HMM.out]; simp only [maxLen]; omega) (by exact Nat.le_trans KW2.out.size KZ.out.size) ?_
                   intro v7 w8 o7 k7 p7
                   obtain ⟨A8, c8, rfl⟩ := o7.formN (m := M + 1) (by rw [List.length_append, HMM.out]; rfl)
                   have kA := (Kp.refl (fun i => (Value.slice At M ct).ownBlock = some i) _).grown k7 fun k hk => .inl hk
                   have hne6 : (Value.slice At M ct).ownBlock ≠ some w5.heap.size := fun e => by have := (T.out.ow.blk e).1; have := Z6.out; have := ZL.out; omega
                   have hne7 : (Value.slice A8 (M + 1) c8).ownBlock ≠ some w5.heap.size := fun e => by have := (o7.blk e).1; have := Z6.out; have := ZL.out; omega
                   have b7 := BZ.out.kp kA hne6
                   have f71 : w8.frozen? ⟨w5.heap.size, 1, none⟩ = false := b7.frozen 1
                   have c71 := b7.cell 1
                   simp only [List.getElem?_toArray, List.getElem?_cons_zero, List.getElem?_cons_succ] at c71
                   have kS := Kp.set1 w5.heap.size 1 w8 (.slice A8 (M + 1) c8)
                   have b8 := b7.put 1 (.slice A8 (M + 1) c8)
                   simp only [List.setIfInBounds_toArray, List.set_cons_zero, List.set_cons_succ] at b8
                   have S9 := hid (show ∃ sv, PJ wL w5.heap.size (.slice A7 p c7) (flt ts lid (k + 1)) sv (w8.setCell ⟨w5.heap.size, 1, none⟩ (.slice A8 (M + 1) c8)) from ⟨_, ⟨((KW2.out.step KZ.out fun i _ e => e.elim).step kA fun i hi e => by have := (T.out.ow.blk e).1; omega).step kS fun i _ e => e, b8, by rw [HE2.out]; exact o7.kpx kS fun i hi e => hne7 (by rw [hi]; exact congrArg some e)⟩⟩)
                   clear o7 k7 p7 kA b7 b8 kS))
              all_goals
                go_wp2_with fail
                go_roundw
                case rel => exact ⟨k + 1, by omega, by go_num, S9⟩
                case measure => simp [vI]; omega
          · have hkk : k = m := by omega
            subst hkk
            have hng2 : ¬ (k : Int) < (k : Int) := by omega
            have OGr := hid (OL.out.kpx KW2.out fun i hi e => hneL.out (by rw [hi]; exact congrArg some e))
            have hall : flt ts lid k = ts.filter fun t => decide (t.gr ≠ lid) := by
              unfold flt
              rw [List.take_of_length_le (by rw [HM.out]; omega)]
            have SU := hid (show Sn wr Anyb (.agg #[.slice A7 p c7, .slice At M ct]) (gs.take p) (ts.filter fun t => decide (t.gr ≠ lid)) from ⟨_, _, rfl, OGr.out.rwp.any, by rw [← hall]; exact T.out.ow.rwp.any⟩)
            have HCU := hid (check_is SU.out (fun g hg => HP.out g (List.mem_of_mem_take hg)) (fun t ht => HPT.out t (List.mem_filter.1 ht).1) FCH.out)
            have KF := hid (KL.out.step KW2.out fun i hi e => by have e : i = w5.heap.size := e; have := K5.out.size; omega)
            clear hall hn1 hwp
            by_cases hp0 : p = 0
            · subst hp0
              rw [if_pos rfl] at HCU
              go_wp2_with (first
                | (go_at_call 12
                   with_reducible refine HCU.out.mono ?_
                   rintro e w9 ⟨rfl, k9⟩
                   have K9 := hid (K0.out.trans (KF.out.trans k9))
                   clear k9))
              go_ret
              exact ⟨rfl, K9.out⟩
            · rw [if_neg hp0] at HCU
              have hpe : ((p : Int) == 0) = false := by simpa using hp0
              have hpg : (0 : Int) < (p : Int) := by omega
              go_wp2_with (first
                | (go_at_call 12
                   with_reducible refine HCU.out.mono ?_
                   rintro e w9 ⟨rfl, k9⟩
                   have K9 := hid (K0.out.trans (KF.out.trans k9))
                   clear k9))
              go_ret
              exact ⟨rfl, K9.out⟩
    · have hce : (ce != 0) = true := by simpa using hc0
      go_enter Tryz.func7, Tryz.ntmps7
      go_upto_region 1 with fail
      clear hw0
      go_wp2_with (first
        | (go_at_call 9
           with_reducible refine (awake_any w0).mono ?_
           rintro e w1 ⟨rfl, k1⟩
           have K1 := hid k1
           have B1 := B0.out.kp0 k1
           have s10 := B1.cell 0
           have s11 := B1.cell 1
           simp only [List.getElem?_toArray, List.getElem?_cons_zero, List.getElem?_cons_succ] at s10 s11
           clear k1 B1)
        | (go_at_call 10
           with_reducible refine (HF.out _ K1.out).mono ?_
           rintro e w2 ⟨rfl, k2⟩
           have K2 := hid (K1.out.trans k2)
           have B2 := B0.out.kp0 (K1.out.trans k2)
           have s20 := B2.cell 0
           have s21 := B2.cell 1
           simp only [List.getElem?_toArray, List.getElem?_cons_zero, List.getElem?_cons_succ] at s20 s21
           clear k2 B2)
        | (go_at_call 12
           with_reducible refine (HC.out _ K2.out).mono ?_
           rintro e w3 ⟨rfl, k3⟩
           have K3 := hid (K2.out.trans k3)
           have B3 := B0.out.kp0 (K2.out.trans k3)
           have s30 := B3.cell 0
           have s31 := B3.cell 1
           simp only [List.getElem?_toArray, List.getElem?_cons_zero, List.getElem?_cons_succ] at s30 s31
           clear k3 B3))
      go_ret
      exact ⟨rfl, K0.out.trans K3.out⟩
end Go.Proofs.YtjmaingpiieioaaGreat
