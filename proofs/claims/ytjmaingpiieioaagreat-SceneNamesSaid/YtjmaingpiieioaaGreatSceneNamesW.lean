/-
  The walk of SceneNames.
-/
import Derived.Test.YtjmaingpiieioaaGreatZNames
import Derived.Test.YtjmaingpiieioaaGreatZSame
import Derived.Test.YtjmaingpiieioaaGreatZOpen
import Derived.Deep.RegionHeldLaw
namespace Go.Proofs.YtjmaingpiieioaaGreat
open Go.RowKit Go.Shelf

theorem same_is {w : World} {P Q : Nat → Prop} {v u : Value} {gs gs' : List GS} {ts ts' : List TS} {q : Bool} (h : Sn w P v gs ts) (h' : Sn w Q u gs' ts') (hq : decide (gs = gs' ∧ ts = ts') = q) :
    Calls Tryz.prog 20 #[v, u] w fun e w' => e = .returned (.bool q) ∧ Kp No w w' := by
  rw [← hq]
  exact same_any h h'
theorem check_is {w : World} {P : Nat → Prop} {v : Value} {gs : List GS} {ts : List TS} {c : Int} (h : Sn w P v gs ts) (hp : ∀ g ∈ gs, I64 g.id ∧ I64 g.par) (hpt : ∀ t ∈ ts, I64 t.gr) (hc : checkS gs ts = c) :
    Calls Tryz.prog 12 #[v] w fun e w' => e = .returned (.int .i64 c) ∧ Kp No w w' := by
  rw [← hc]
  exact check_any h hp hpt
theorem few_is {w : World} {P : Nat → Prop} {v : Value} {gs : List GS} {ts : List TS} {q : Bool} (h : Sn w P v gs ts) (hq : few gs ts = q) :
    Calls Tryz.prog 10 #[v] w fun e w' => e = .returned (.bool q) ∧ Kp No w w' := by
  rw [← hq]
  exact few_any h
/-- What the two scenes' own boxes hold stays. -/
structure SY (w4 : World) (sb tb : Nat) (w : World) : Prop where
  kp : Kp No w4 w
  s : sb < w4.heap.size
  t : tb < w4.heap.size
section
variable {w4 w w' : World} {sb tb : Nat} {a b c d : Value}
theorem SY.kpa (h : w.cell? ⟨sb, 0, none⟩ = some a ∧ w.cell? ⟨sb, 1, none⟩ = some b ∧ w.cell? ⟨tb, 0, none⟩ = some c ∧ w.cell? ⟨tb, 1, none⟩ = some d ∧ SY w4 sb tb w) : Kp No w4 w := h.2.2.2.2.kp
theorem SY.step (h : w.cell? ⟨sb, 0, none⟩ = some a ∧ w.cell? ⟨sb, 1, none⟩ = some b ∧ w.cell? ⟨tb, 0, none⟩ = some c ∧ w.cell? ⟨tb, 1, none⟩ = some d ∧ SY w4 sb tb w) (k : Kp No w w') :
    w'.cell? ⟨sb, 0, none⟩ = some a ∧ w'.cell? ⟨sb, 1, none⟩ = some b ∧ w'.cell? ⟨tb, 0, none⟩ = some c ∧ w'.cell? ⟨tb, 1, none⟩ = some d ∧ SY w4 sb tb w' := by
  obtain ⟨h1, h2, h3, h4, h5⟩ := h
  have hs := Nat.lt_of_lt_of_le h5.s h5.kp.size
  have ht := Nat.lt_of_lt_of_le h5.t h5.kp.size
  exact ⟨(k.cell (p := ⟨sb, 0, none⟩) hs id).trans h1, (k.cell (p := ⟨sb, 1, none⟩) hs id).trans h2, (k.cell (p := ⟨tb, 0, none⟩) ht id).trans h3, (k.cell (p := ⟨tb, 1, none⟩) ht id).trans h4, h5.kp.trans k, h5.s, h5.t⟩
end
theorem tall_is {w : World} {P : Nat → Prop} {v : Value} {gs : List GS} {ts : List TS} {k : Nat} (h : Sn w P v gs ts) (hl : gs.length ≤ 1000000) (hp : ∀ g ∈ gs, I64 g.id ∧ I64 g.par) (hnd : (gs.map (·.id)).Nodup) (hk : tallG gs = k) :
    Calls Tryz.prog 16 #[v] w fun e w' => e = .returned (.int .i64 (k : Int)) ∧ Kp No w w' := by
  rw [← hk]
  exact tall_any h hl hp hnd
theorem Sn.form {w : World} {P : Nat → Prop} {u : Value} {gs : List GS} {ts : List TS} (h : Sn w P u gs ts) : ∃ A c B d, u = .agg #[.slice A gs.length c, .slice B ts.length d] := by
  obtain ⟨ug, ut, rfl, h1, h2⟩ := h
  obtain ⟨A, c, rfl, _⟩ := h1
  obtain ⟨B, d, rfl, _⟩ := h2
  exact ⟨A, c, B, d, rfl⟩
theorem ok_nd {gs : List GS} {ts : List TS} (h : checkS gs ts = 0) : (gs.map (·.id)).Nodup := by
  cases gs with
  | nil => simp
  | cons g0 gt => exact (List.nodup_append.1 (check0 h).2.2.1).1
theorem sm_i {x : Int} (h : Sm x) : I64 x := by
  unfold Sm at h
  unfold I64
  omega
set_option maxRecDepth 100000 in
set_option maxHeartbeats 4000000 in
theorem sceneNames_walk (w : World) (a b : Int) {v : Value} {gs : List GS} {ts : List TS} (h : SnI w v gs ts) (ha : 0 ≤ a ∧ a ≤ 65535) (hb : 0 ≤ b ∧ b ≤ 65535) :
    Calls Tryz.prog 6 #[v, .int .u16 a, .int .u16 b] w fun e w' => e = .returned (.bool true) ∧ Kp No w w' := by
  obtain ⟨hS, hGI, hTI⟩ := h
  obtain ⟨vg, vt, rfl, hg, ht⟩ := id hS
  have hp : ∀ g ∈ gs, I64 g.id ∧ I64 g.par := fun g hg => ⟨(hGI g hg).id, (hGI g hg).par⟩
  have hpt : ∀ t ∈ ts, I64 t.gr := fun t ht => (hTI t ht).gr
  have k0 := (Kp.refl No w).alloc (.cells #[vg, vt] 25)
  have b0 := Blk.new w 25 #[vg, vt]
  obtain ⟨w0, hw0⟩ : ∃ w0, w.alloc (.cells #[vg, vt] 25) = w0 := ⟨_, rfl⟩
  rw [hw0] at k0 b0
  have s0 := b0.cell 0
  have s1 := b0.cell 1
  simp only [List.getElem?_toArray, List.getElem?_cons_zero, List.getElem?_cons_succ] at s0 s1
  have K0 := hid k0
  have B0 := hid b0
  have HS := hid (hS.kp0 k0)
  have HT := hid (ht.kp0 k0)
  obtain ⟨fb, hfb⟩ : ∃ fb, few gs ts = fb := ⟨_, rfl⟩
  have HF := hid (fun (W : World) (k : Kp No w0 W) => few_is (HS.out.kp0 k) hfb)
  have HP := hid hp
  have HPT := hid hpt
  obtain ⟨A, c, rfl, _⟩ := hg
  obtain ⟨A2, c2, rfl, _⟩ := ht
  obtain ⟨n, hn⟩ : ∃ n, gs.length = n := ⟨_, rfl⟩
  obtain ⟨m, hm⟩ : ∃ m, ts.length = m := ⟨_, rfl⟩
  rw [hn] at HS HF s0 hw0 B0 ⊢
  rw [hm] at HS HF HT s1 hw0 B0 ⊢
  have HN := hid hn
  have HM := hid hm
  have ha1 := ha.1
  have ha2 := ha.2
  have hb1 := hb.1
  have hb2 := hb.2
  have hwa : IntKind.i64.wrap a = a := wrapI (by unfold I64; omega)
  have hwb : IntKind.i64.wrap b = b := wrapI (by unfold I64; omega)
  clear hS hGI hTI hp hpt k0 b0 hn hm ha hb
  cases fb
  · go_enter Tryz.func6, Tryz.ntmps6
    go_upto_region 1 with fail
    clear hw0
    go_wp2_with (first
      | (go_at_call 9
         with_reducible refine (awake_any w0).mono ?_
         rintro e w1 ⟨rfl, k1⟩
         have K1 := hid k1
         have B1 := B0.out.kp0 k1
         have s10 := B1.cell 0
         have s11 := B1.cell 1
         simp only [List.getElem?_toArray, List.getElem?_cons_zero, List.getElem?_cons_succ] at s10 s11
         clear k1 B1)
      | (go_at_call 10
         with_reducible refine (HF.out _ K1.out).mono ?_
         rintro e w2 ⟨rfl, k2⟩
         have K2 := hid (K1.out.trans k2)
         have B2 := B0.out.kp0 (K1.out.trans k2)
         have s20 := B2.cell 0
         have s21 := B2.cell 1
         simp only [List.getElem?_toArray, List.getElem?_cons_zero, List.getElem?_cons_succ] at s20 s21
         clear k2 B2))
    go_ret
    exact ⟨rfl, K0.out.trans K2.out⟩
  · have hfw := hfb
    unfold few at hfw
    rw [Bool.and_eq_true, decide_eq_true_eq, decide_eq_true_eq, HN.out, HM.out] at hfw
    have hfn := hfw.1
    have hfm := hfw.2
    obtain ⟨ea, hea⟩ : ∃ ea, renE gs ts a = ea := ⟨_, rfl⟩
    have HR1 := fun (W : World) (k : Kp No w0 W) => rename_any (HS.out.kp0 k) HP.out HPT.out a hea
    clear hfb hfw
    by_cases he0 : ea = 0
    · subst he0
      obtain ⟨hck, hmx⟩ := ren_good ha1 (by omega) hea
      obtain ⟨hck2, htal⟩ := check_sh ha1 hck hmx
      obtain ⟨m1, m2, _⟩ := ok_sm hck
      obtain ⟨m3, m4, _⟩ := ok_sm hck2
      have htwo := ren_two ha1 ha2 hb1 hb2 hea
      have hgg := sh_sh (b := b) ha1 (fun g hg => (m1 g hg).2)
      have htt2 := shT_shT (a := a) (b := b) (ts := ts)
      simp only [if_true] at HR1
      have HR1 := hid HR1
      have hndg := ok_nd hck
      have hndt := ok_nd hck2
      have HX := hid (fun k (hk : k < ts.length) => show (ts.map (shT a)).getD k ts0 = shT a (ts.getD k ts0) by simp [List.getD, hk])
      have HXM := hid (fun k (hk : k < ts.length) => show I64 (ts.getD k ts0).id ∧ I64 (ts.getD k ts0).gr ∧ I64 ((ts.getD k ts0).id + a) ∧ I64 ((ts.getD k ts0).gr + a) by
        have h1 := m2 (ts.getD k ts0) (by simp [List.getD, hk])
        unfold Sm at h1
        unfold I64
        omega)
      obtain ⟨tall, htl⟩ : ∃ tall, tallG gs = tall := ⟨_, rfl⟩
      rw [htl] at htal
      obtain ⟨tg, htg⟩ : ∃ tg, gs.map (shG a) = tg := ⟨_, rfl⟩
      obtain ⟨tt, htt⟩ : ∃ tt, ts.map (shT a) = tt := ⟨_, rfl⟩
      have htgl : tg.length = n := by rw [← htg, List.length_map, HN.out]
      have httl : tt.length = m := by rw [← htt, List.length_map, HM.out]
      rw [htg] at HR1 hck2 htal m3 htwo hgg hndt
      rw [htt] at HR1 hck2 m4 htwo htt2 HX
      obtain ⟨fe, hfe⟩ : ∃ fe, renE tg tt b = fe := ⟨_, rfl⟩
      rw [hfe] at htwo
      have HP2 : ∀ g ∈ tg, I64 g.id ∧ I64 g.par := fun g hg => ⟨sm_i (m3 g hg).1, sm_i (m3 g hg).2⟩
      have HPT2 : ∀ t ∈ tt, I64 t.gr := fun t ht => sm_i (m4 t ht).2
      have HCT := hid (fun (W : World) (u : Value) (hu : Sn W Anyb u tg tt) => check_is hu HP2 HPT2 hck2)
      have HCS := hid (fun (W : World) (k : Kp No w0 W) => check_is (HS.out.kp0 k) HP.out HPT.out hck)
      have HTT := hid (fun (W : World) (u : Value) (hu : Sn W Anyb u tg tt) => tall_is hu (by rw [htgl]; omega) HP2 hndt htal)
      have HTS := hid (fun (W : World) (k : Kp No w0 W) => tall_is (HS.out.kp0 k) (by rw [HN.out]; omega) HP.out hndg htl)
      have HR2 := hid (fun (W : World) (u : Value) (hu : Sn W Anyb u tg tt) => rename_any hu HP2 HPT2 b hfe)
      have HR3 := fun (W : World) (k : Kp No w0 W) => rename_any (HS.out.kp0 k) HP.out HPT.out (a + b) htwo.symm
      rw [← hgg, ← htt2] at HR3
      have HR3 := hid HR3
      have hff : (fe == fe) = true := by simp
      have hnt : ((tall : Int) != (tall : Int)) = false := by simp
      have hnm : ((m : Int) != (m : Int)) = false := by simp
      have hwab : IntKind.i64.wrap (a + b) = a + b := wrapI (by unfold I64; omega)
      have HTGL := hid htgl
      have HTTL := hid httl
      clear hea hck hmx hck2 htal m1 m2 m3 m4 htwo hgg htt2 htl htg htt hfe HP2 HPT2 hndg hndt htgl httl
      go_enter Tryz.func6, Tryz.ntmps6
      go_upto_region 1 with fail
      clear hw0
      go_upto_region 8 with (first
        | (go_at_call 9
           with_reducible refine (awake_any w0).mono ?_
           rintro e w1 ⟨rfl, k1⟩
           have K1 := hid k1
           have B1 := B0.out.kp0 k1
           have s10 := B1.cell 0
           have s11 := B1.cell 1
           simp only [List.getElem?_toArray, List.getElem?_cons_zero, List.getElem?_cons_succ] at s10 s11
           clear k1 B1)
        | (go_at_call 10
           with_reducible refine (HF.out _ K1.out).mono ?_
           rintro e w2 ⟨rfl, k2⟩
           have K2 := hid (K1.out.trans k2)
           have B2 := B0.out.kp0 (K1.out.trans k2)
           have s20 := B2.cell 0
           have s21 := B2.cell 1
           simp only [List.getElem?_toArray, List.getElem?_cons_zero, List.getElem?_cons_succ] at s20 s21
           clear k2 B2)
        | (go_at_call 18
           with_reducible refine (HR1.out _ K2.out).mono ?_
           rintro e w3 ⟨u3, rfl, su, k3⟩
           obtain ⟨Ag, cg, At, ct, rfl⟩ := su.form
           rw [HTGL.out, HTTL.out] at su ⊢
           have k34 := (Kp.refl No w3).alloc (.cells #[.slice Ag n cg, .slice At m ct] 25)
           have B4 := hid (Blk.new w3 25 #[.slice Ag n cg, .slice At m ct])
           have SU := hid (su.kp0 k34)
           have K4 := hid (K2.out.trans (k3.trans k34))
           have B04 := hid (B0.out.kp0 (K2.out.trans (k3.trans k34)))
           have t40 := B4.out.cell 0
           have t41 := B4.out.cell 1
           have s40 := B04.out.cell 0
           have s41 := B04.out.cell 1
           simp only [List.getElem?_toArray, List.getElem?_cons_zero, List.getElem?_cons_succ] at t40 t41 s40 s41
           clear su k3 k34))
      obtain ⟨w4, hw4⟩ : ∃ w4, w3.alloc (.cells #[.slice Ag n cg, .slice At m ct] 25) = w4 := ⟨_, rfl⟩
      rw [hw4] at B4 SU K4 B04 t40 t41 s40 s41 ⊢
      clear hw4
      have SZ := hid (show w4.drew.cell? ⟨w.heap.size, 0, none⟩ = some (.slice A n c) ∧ w4.drew.cell? ⟨w.heap.size, 1, none⟩ = some (.slice A2 m c2) ∧ w4.drew.cell? ⟨w3.heap.size, 0, none⟩ = some (.slice Ag n cg) ∧ w4.drew.cell? ⟨w3.heap.size, 1, none⟩ = some (.slice At m ct) ∧ SY w4 w.heap.size w3.heap.size w4.drew from
        ⟨B04.out.cell 0, B04.out.cell 1, B4.out.cell 0, B4.out.cell 1, (Kp.refl _ _).drew, B04.out.lt, B4.out.lt⟩)
      first
      | (
        go_region_held_law (fun w' => w'.cell? ⟨w.heap.size, 0, none⟩ = some (.slice A n c) ∧ w'.cell? ⟨w.heap.size, 1, none⟩ = some (.slice A2 m c2) ∧ w'.cell? ⟨w3.heap.size, 0, none⟩ = some (.slice Ag n cg) ∧ w'.cell? ⟨w3.heap.size, 1, none⟩ = some (.slice At m ct) ∧ SY w4 w.heap.size w3.heap.size w')
          (first | exact SZ.out | exact SY.step (by assumption) (by assumption) | assumption)
          (first
            | (go_at_call 12
               with_reducible refine (HCT.out _ _ (SU.out.kp0 (SY.kpa (by assumption)))).mono ?_
               rintro e w5 ⟨rfl, k5⟩)
            | (go_at_call 12
               with_reducible refine (HCS.out _ (K4.out.trans (SY.kpa (by assumption)))).mono ?_
               rintro e w6 ⟨rfl, k6⟩)
            | (go_at_call 16
               with_reducible refine (HTT.out _ _ (SU.out.kp0 (SY.kpa (by assumption)))).mono ?_
               rintro e w7 ⟨rfl, k7⟩)
            | (go_at_call 16
               with_reducible refine (HTS.out _ (K4.out.trans (SY.kpa (by assumption)))).mono ?_
               rintro e w8 ⟨rfl, k8⟩)))
      | fail "held"
      all_goals
        have KS := hid (SY.kpa (sb := w.heap.size) (tb := w3.heap.size) (w4 := w4) (by assumption))
        have HTR := hid (show Rw 8 tc ts0 w4 Anyb (.slice At m ct) tt from by
          obtain ⟨vg, vt, e, r1, r2⟩ := SU.out
          cases e
          exact r2)
        go_wp2_with fail
        go_loopw [11] (fun i wr => ∃ k : Nat, k ≤ m ∧ i = .int .i64 (k : Int) ∧ Hid (Kp No w4 wr)) (fun i _ => m - (vI i).toNat)
        case atStart => exact ⟨0, Nat.zero_le _, rfl, KS⟩
        case round =>
          obtain ⟨k, hk2, rfl, KW⟩ := hrel
          have Bw := B04.out.kp0 KW.out
          have Cw := B4.out.kp0 KW.out
          have s50 := Bw.cell 0
          have s51 := Bw.cell 1
          have t50 := Cw.cell 0
          have t51 := Cw.cell 1
          simp only [List.getElem?_toArray, List.getElem?_cons_zero, List.getElem?_cons_succ] at s50 s51 t50 t51
          clear Bw Cw
          by_cases hkn : k < m
          · have hkl : k < ts.length := by rw [HM.out]; exact hkn
            have hkt : k < tt.length := by rw [HTTL.out]; exact hkn
            have Ov := HT.out.kp0 (K4.out.trans KW.out)
            have Ov' := HTR.out.kp0 KW.out
            obtain ⟨bs, offs, hAs⟩ := Ov.there (by omega)
            obtain ⟨bt, offt, hAt⟩ := Ov'.there (by omega)
            subst hAs hAt
            have q0 := Ov.cell (j := k) (i := 0) (Kp.refl No _) hkl (by omega) rfl
            have r0 := Ov'.cell (j := k) (i := 0) (Kp.refl No _) hkt (by omega) rfl
            have q1 := Ov.cell (j := k) (i := 1) (Kp.refl No _) hkl (by omega) rfl
            have r1 := Ov'.cell (j := k) (i := 1) (Kp.refl No _) hkt (by omega) rfl
            have q2 := Ov.cell (j := k) (i := 2) (Kp.refl No _) hkl (by omega) rfl
            have r2 := Ov'.cell (j := k) (i := 2) (Kp.refl No _) hkt (by omega) rfl
            have q3 := Ov.cell (j := k) (i := 3) (Kp.refl No _) hkl (by omega) rfl
            have r3 := Ov'.cell (j := k) (i := 3) (Kp.refl No _) hkt (by omega) rfl
            have q4 := Ov.cell (j := k) (i := 4) (Kp.refl No _) hkl (by omega) rfl
            have r4 := Ov'.cell (j := k) (i := 4) (Kp.refl No _) hkt (by omega) rfl
            have q5 := Ov.cell (j := k) (i := 5) (Kp.refl No _) hkl (by omega) rfl
            have r5 := Ov'.cell (j := k) (i := 5) (Kp.refl No _) hkt (by omega) rfl
            have q6 := Ov.cell (j := k) (i := 6) (Kp.refl No _) hkl (by omega) rfl
            have r6 := Ov'.cell (j := k) (i := 6) (Kp.refl No _) hkt (by omega) rfl
            have q7 := Ov.cell (j := k) (i := 7) (Kp.refl No _) hkl (by omega) rfl
            have r7 := Ov'.cell (j := k) (i := 7) (Kp.refl No _) hkt (by omega) rfl
            have hxx := HX.out k hkl
            have hxm := HXM.out k hkl
            obtain ⟨x, hx⟩ : ∃ x, ts.getD k ts0 = x := ⟨_, rfl⟩
            rw [hx] at hxx hxm q0 q1 q2 q3 q4 q5 q6 q7
            rw [hxx] at r0 r1 r2 r3 r4 r5 r6 r7
            simp only [shT, tc, te, List.getD_cons_zero, List.getD_cons_succ, Nat.add_zero] at q0 q1 q2 q3 q4 q5 q6 q7 r0 r1 r2 r3 r4 r5 r6 r7
            simp only [← Nat.add_assoc] at q1 q2 q3 q4 q5 q6 q7 r1 r2 r3 r4 r5 r6 r7
            obtain ⟨i1, i2, i3, i4⟩ := hxm
            have hg1 : (k : Int) < (m : Int) := by omega
            have hwk := wrapI (x := (k : Int) + 1) (by unfold I64; omega)
            have hwi := wrapI i1
            have hwg := wrapI i2
            have hsi : x.id + a - a = x.id := by omega
            have hsg : x.gr + a - a = x.gr := by omega
            have hbs : bs < wr.heap.size := World.block_lt_of_cell? wr _ q0
            have QS := hid (fun (W : World) (kk : Kp No wr W) (i : Nat) (u : Value) (hq : wr.cell? ⟨bs, offs + k * 8 + i, none⟩ = some u) => (kk.cell (p := ⟨bs, offs + k * 8 + i, none⟩) hbs fun e => e).trans hq)
            have kx1 := (Kp.refl No wr).alloc (.cells #[.int .i64 (x.id + a), .int .i64 (x.gr + a), .int .i64 x.wt, .int .u64 x.co, .bool x.sl, .int .i64 x.ra, .int .i64 x.lv, .int .i64 x.lr] 46)
            have bx1 := Blk.new wr 46 #[.int .i64 (x.id + a), .int .i64 (x.gr + a), .int .i64 x.wt, .int .u64 x.co, .bool x.sl, .int .i64 x.ra, .int .i64 x.lv, .int .i64 x.lr]
            obtain ⟨y1, hy1w⟩ : ∃ y1, wr.alloc (.cells #[.int .i64 (x.id + a), .int .i64 (x.gr + a), .int .i64 x.wt, .int .u64 x.co, .bool x.sl, .int .i64 x.ra, .int .i64 x.lv, .int .i64 x.lr] 46) = y1 := ⟨_, rfl⟩
            rw [hy1w] at kx1 bx1
            have x10 := bx1.cell 0
            have fx10 : y1.frozen? ⟨wr.heap.size, 0, none⟩ = false := bx1.frozen 0
            have kx2 := kx1.step (Kp.set1 wr.heap.size 0 y1 (.int .i64 x.id)) (fun i hi e => by have e : i = wr.heap.size := e; omega)
            have bx2 := bx1.put 0 (.int .i64 x.id)
            obtain ⟨y2, hy2w⟩ : ∃ y2, y1.setCell ⟨wr.heap.size, 0, none⟩ (.int .i64 x.id) = y2 := ⟨_, rfl⟩
            rw [hy2w] at kx2 bx2
            simp only [List.setIfInBounds_toArray, List.set_cons_zero] at bx2
            have x21 := bx2.cell 1
            have fx21 : y2.frozen? ⟨wr.heap.size, 1, none⟩ = false := bx2.frozen 1
            simp only [List.getElem?_toArray, List.getElem?_cons_zero, List.getElem?_cons_succ] at x10 x21
            have kx3 := kx2.step (Kp.set1 wr.heap.size 1 y2 (.int .i64 x.gr)) (fun i hi e => by have e : i = wr.heap.size := e; omega)
            have bx3 := bx2.put 1 (.int .i64 x.gr)
            obtain ⟨y3, hy3w⟩ : ∃ y3, y2.setCell ⟨wr.heap.size, 1, none⟩ (.int .i64 x.gr) = y3 := ⟨_, rfl⟩
            rw [hy3w] at kx3 bx3
            simp only [List.setIfInBounds_toArray, List.set_cons_zero, List.set_cons_succ] at bx3
            have K9 := hid (KW.out.trans kx3)
            have e90 := bx3.cell 0
            have e91 := bx3.cell 1
            have e92 := bx3.cell 2
            have e93 := bx3.cell 3
            have e94 := bx3.cell 4
            have e95 := bx3.cell 5
            have e96 := bx3.cell 6
            have e97 := bx3.cell 7
            have s93 := (B04.out.kp0 K9.out).cell 1
            simp only [List.getElem?_toArray, List.getElem?_cons_zero, List.getElem?_cons_succ] at e90 e91 e92 e93 e94 e95 e96 e97 s93
            have z0 : y3.cell? ⟨bs, offs + k * 8, none⟩ = some (.int .i64 x.id) := QS.out y3 kx3 0 _ q0
            have z1 := QS.out y3 kx3 1 _ q1
            have z2 := QS.out y3 kx3 2 _ q2
            have z3 := QS.out y3 kx3 3 _ q3
            have z4 := QS.out y3 kx3 4 _ q4
            have z5 := QS.out y3 kx3 5 _ q5
            have z6 := QS.out y3 kx3 6 _ q6
            have z7 := QS.out y3 kx3 7 _ q7
            have hne := fun W => neqT_run x x W
            have hqe : eqT x x = true := by simp [eqT]
            simp only [hqe, te] at hne
            clear Ov Ov' hx hxx hkl hkt kx1 kx2 kx3 bx1 bx2 bx3 i1 i2 i3 i4 hqe QS
            go_upto_region 16 with fail
            clear hy1w hy2w hy3w x10 x21 fx10 fx21 q0 q1 q2 q3 q4 q5 q6 q7 r0 r1 r2 r3 r4 r5 r6 r7
            go_region
            all_goals
              go_wp2_with fail
              go_roundw
              case rel => exact ⟨k + 1, by omega, by go_num, hid K9.out.drew⟩
              case measure => simp [vI]; omega
          · have hkk : k = m := by omega
            subst hkk
            have hng2 : ¬ (k : Int) < (k : Int) := by omega
            have SUW := hid (SU.out.kp0 KW.out)
            obtain ⟨fg, hfg⟩ : ∃ fg, (if fe = 0 then List.map (shG b) tg else []) = fg := ⟨_, rfl⟩
            obtain ⟨ft, hft⟩ : ∃ ft, (if fe = 0 then List.map (shT b) tt else []) = ft := ⟨_, rfl⟩
            rw [hfg, hft] at HR2 HR3
            obtain ⟨nf, hnf⟩ : ∃ nf, fg.length = nf := ⟨_, rfl⟩
            obtain ⟨mf, hmf⟩ : ∃ mf, ft.length = mf := ⟨_, rfl⟩
            have HNF := hid hnf
            have HMF := hid hmf
            have K0W := hid (K4.out.trans KW.out)
            clear hfg hft hnf hmf
            go_wp2_with (first
              | (go_at_call 18
                 with_reducible refine (HR2.out _ _ SUW.out).mono ?_
                 rintro e w9 ⟨u9, rfl, su9, k9⟩
                 obtain ⟨A9, c9, B9, d9, rfl⟩ := su9.form
                 rw [HNF.out, HMF.out] at su9 ⊢
                 have k99 := (Kp.refl No w9).alloc (.cells #[.slice A9 nf c9, .slice B9 mf d9] 25)
                 have BU := hid (Blk.new w9 25 #[.slice A9 nf c9, .slice B9 mf d9])
                 have S9 := hid (su9.kp0 k99)
                 have K9 := hid (K0W.out.trans (k9.trans k99))
                 have B09 := B0.out.kp0 K9.out
                 have s90 := B09.cell 0
                 have s91 := B09.cell 1
                 simp only [List.getElem?_toArray, List.getElem?_cons_zero, List.getElem?_cons_succ] at s90 s91
                 clear su9 k9 k99 B09)
              | (go_at_call 18
                 with_reducible refine (HR3.out _ K9.out).mono ?_
                 rintro e w10 ⟨u10, rfl, su10, k10⟩
                 obtain ⟨A10, c10, B10, d10, rfl⟩ := su10.form
                 rw [HNF.out, HMF.out] at su10 ⊢
                 have k11 := (Kp.refl No w10).alloc (.cells #[.slice A10 nf c10, .slice B10 mf d10] 25)
                 have BV := Blk.new w10 25 #[.slice A10 nf c10, .slice B10 mf d10]
                 have BU2 := BU.out.kp0 (k10.trans k11)
                 have S10 := hid (su10.kp0 k11)
                 have S92 := hid (S9.out.kp0 (k10.trans k11))
                 have K10 := hid (K9.out.trans (k10.trans k11))
                 have v0 := BV.cell 0
                 have v1 := BV.cell 1
                 have u0 := BU2.cell 0
                 have u1 := BU2.cell 1
                 simp only [List.getElem?_toArray, List.getElem?_cons_zero, List.getElem?_cons_succ] at v0 v1 u0 u1
                 clear su10 k10 k11 BV BU2)
              | (go_at_call 20
                 with_reducible refine (same_is (q := true) S92.out S10.out (by simp)).mono ?_
                 rintro e w12 ⟨rfl, k12⟩
                 have K12 := hid (K10.out.trans k12)
                 clear k12))
            go_ret
            exact ⟨rfl, K0.out.trans K12.out⟩
    · have hen : (ea != 0) = true := by simpa using he0
      simp only [if_neg he0] at HR1
      have HR1 := hid HR1
      have hbad := ren_bad ha1 (by omega) (show renE gs ts a ≠ 0 by rw [hea]; exact he0)
      rw [hea] at hbad
      obtain ⟨ce, hce⟩ : ∃ ce, checkS gs ts = ce := ⟨_, rfl⟩
      rw [hce] at hbad
      have HCS := hid (fun (W : World) (k : Kp No w0 W) => check_is (HS.out.kp0 k) HP.out HPT.out hce)
      obtain ⟨q, hq⟩ : ∃ q, (ea == 6) = q := ⟨_, rfl⟩
      have hq2 : (ce == 0) = q := by
        rw [← hq, Bool.eq_iff_iff, beq_iff_eq, beq_iff_eq]
        exact hbad.symm
      have hqq : (q == q) = true := by simp
      clear hea hbad hce he0
      go_enter Tryz.func6, Tryz.ntmps6
      go_upto_region 1 with fail
      clear hw0
      cases q
      all_goals
        go_wp2_with (first
          | (go_at_call 9
             with_reducible refine (awake_any w0).mono ?_
             rintro e w1 ⟨rfl, k1⟩
             have K1 := hid k1
             have B1 := B0.out.kp0 k1
             have s10 := B1.cell 0
             have s11 := B1.cell 1
             simp only [List.getElem?_toArray, List.getElem?_cons_zero, List.getElem?_cons_succ] at s10 s11
             clear k1 B1)
          | (go_at_call 10
             with_reducible refine (HF.out _ K1.out).mono ?_
             rintro e w2 ⟨rfl, k2⟩
             have K2 := hid (K1.out.trans k2)
             have B2 := B0.out.kp0 (K1.out.trans k2)
             have s20 := B2.cell 0
             have s21 := B2.cell 1
             simp only [List.getElem?_toArray, List.getElem?_cons_zero, List.getElem?_cons_succ] at s20 s21
             clear k2 B2)
          | (go_at_call 18
             with_reducible refine (HR1.out _ K2.out).mono ?_
             rintro e w3 ⟨u3, rfl, su, k3⟩
             obtain ⟨Ag, cg, At, ct, rfl⟩ := su.form
             simp only [List.length_nil]
             have k34 := (Kp.refl No w3).alloc (.cells #[.slice Ag 0 cg, .slice At 0 ct] 25)
             have B4 := hid (Blk.new w3 25 #[.slice Ag 0 cg, .slice At 0 ct])
             have K4 := hid (K2.out.trans (k3.trans k34))
             have B04 := hid (B0.out.kp0 (K2.out.trans (k3.trans k34)))
             have t40 := B4.out.cell 0
             have t41 := B4.out.cell 1
             have s40 := B04.out.cell 0
             have s41 := B04.out.cell 1
             simp only [List.getElem?_toArray, List.getElem?_cons_zero, List.getElem?_cons_succ] at t40 t41 s40 s41
             clear su k3 k34)
          | (go_at_call 12
             with_reducible refine (HCS.out _ K4.out).mono ?_
             rintro e w5 ⟨rfl, k5⟩
             have K5 := hid (K0.out.trans (K4.out.trans k5))
             clear k5))
        go_ret
        exact ⟨rfl, K5.out⟩
end Go.Proofs.YtjmaingpiieioaaGreat
