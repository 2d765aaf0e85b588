/-
  The walk of SceneOrders.
-/
import Derived.Test.YtomoiihckbdjdaaGreatZDh
import Derived.Test.YtomoiihckbdjdaaGreatZOpen
import Derived.BigQuiet
namespace Go.Proofs.YtomoiihckbdjdaaGreat
open Go.RowKit Go.Shelf

theorem few_le2 {gs : List GS} {ts : List TS} (h : few gs ts = true) : gs.length ≤ 30 ∧ ts.length ≤ 30 := by
  unfold few at h
  simpa using h
/-- What Check tells of a scene that is at most out of order, or deep. -/
theorem far_ok {g0 : GS} {gt : List GS} {ts : List TS} (h : checkS (g0 :: gt) ts = 0 ∨ checkS (g0 :: gt) ts = 5 ∨ checkS (g0 :: gt) ts = 10) : (idsOf (g0 :: gt) ts).Nodup ∧ (∀ g ∈ g0 :: gt, 1 ≤ g.id ∧ g.id ≤ 1048576) ∧ g0.par = 0 := by
  rw [checkS_cons] at h
  by_cases h1 : 4096 < (g0 :: gt).length ∨ 4096 < ts.length
  · rw [if_pos h1] at h
    omega
  rw [if_neg h1] at h
  by_cases h2 : (g0 :: gt).any wrongG = true ∨ ts.any wrongT = true
  · rw [if_pos h2] at h
    omega
  rw [if_neg h2] at h
  by_cases h3 : (idsOf (g0 :: gt) ts).Nodup
  · rw [if_neg (fun n => n h3)] at h
    by_cases h4 : lostB g0 gt ts = true
    · rw [if_pos h4] at h
      omega
    · refine ⟨h3, fun g hg => ?_, ?_⟩
      · have hw : wrongG g = false := by
          cases e : wrongG g with
          | false => rfl
          | true => exact absurd (.inl (List.any_eq_true.2 ⟨g, hg, e⟩)) h2
        exact wrongG_bd hw
      · unfold lostB at h4
        simp only [Bool.or_eq_true, not_or, bne_iff_ne, ne_eq, Decidable.not_not] at h4
        exact h4.1.1
  · rw [if_pos h3] at h
    omega
set_option maxRecDepth 100000 in
set_option maxHeartbeats 8000000 in
theorem sceneOrders_walk (w : World) (y : Int) {v : Value} {gs : List GS} {ts : List TS} (h : SnI w v gs ts) (_ : -9223372036854775808 ≤ y ∧ y ≤ 9223372036854775807) :
    Calls Tryz.prog 4 #[v, .int .i64 y] w fun e w' => e = .returned (.bool true) ∧ Kp No w w' := by
  obtain ⟨hS, hGI, hTI⟩ := h
  obtain ⟨vg, vt, rfl, hg, ht⟩ := id hS
  have hp : ∀ g ∈ gs, I64 g.id ∧ I64 g.par := fun g hg => ⟨(hGI g hg).id, (hGI g hg).par⟩
  have hpt : ∀ t ∈ ts, I64 t.gr := fun t ht => (hTI t ht).gr
  have k0 := (Kp.refl No w).alloc (.cells #[vg, vt] 25)
  have b0 := Blk.new w 25 #[vg, vt]
  obtain ⟨w0, hw0⟩ : ∃ w0, w.alloc (.cells #[vg, vt] 25) = w0 := ⟨_, rfl⟩
  rw [hw0] at k0 b0
  have K0 := hid k0
  have B0 := hid b0
  have HS := hid (hS.kp0 k0)
  obtain ⟨fb, hfb⟩ : ∃ fb, few gs ts = fb := ⟨_, rfl⟩
  obtain ⟨ce, hce⟩ : ∃ ce, checkS gs ts = ce := ⟨_, rfl⟩
  obtain ⟨re, hre⟩ : ∃ re, renE gs ts y = re := ⟨_, rfl⟩
  have HF := hid (fun (W : World) (k : Kp No w0 W) => show Calls Tryz.prog 7 #[.agg #[vg, vt]] W (fun e w' => e = .returned (.bool fb) ∧ Kp No W w') from hfb ▸ zfew_any (HS.out.kp0 k))
  have HD := hid (fun (W : World) (k : Kp No w0 W) => show Calls Tryz.prog 8 #[.agg #[vg, vt]] W (fun e w' => e = .returned (.int .i64 ce) ∧ Kp No W w') from hce ▸ rcheck_any (HS.out.kp0 k))
  have HR1 := hid (fun (W : World) (k : Kp No w0 W) => rename_any (HS.out.kp0 k) hp hpt y hre)
  have HR2 := hid (fun (W : World) (k : Kp No w0 W) => rrename_any (HS.out.kp0 k) y hre)
  have HCE := hid hce
  have HFB := hid hfb
  have HP := hid hp
  obtain ⟨A, c, rfl, _⟩ := hg
  obtain ⟨A2, c2, rfl, _⟩ := ht
  obtain ⟨n, hn⟩ : ∃ n, gs.length = n := ⟨_, rfl⟩
  obtain ⟨m, hm⟩ : ∃ m, ts.length = m := ⟨_, rfl⟩
  rw [hn] at HS HF HD HR1 HR2 hw0 B0 b0 ⊢
  rw [hm] at HS HF HD HR1 HR2 hw0 B0 b0 ⊢
  have HN := hid hn
  have HM := hid hm
  have RDX := hid (fun (W : World) (k : Kp No w0 W) => show W.cell? ⟨w.heap.size, 0, none⟩ = some (.slice A n c) ∧ W.cell? ⟨w.heap.size, 1, none⟩ = some (.slice A2 m c2) from ⟨(B0.out.kp0 k).cell 0, (B0.out.kp0 k).cell 1⟩)
  have hbx := b0.lt
  clear hS hGI hTI hp hpt k0 b0 hfb hce hre hn hm
  cases fb
  · go_enter Tryz.func4, Tryz.ntmps4
    go_upto_region 1 with fail
    clear hw0
    go_wp2_with (first
      | (go_at_call 6
         with_reducible refine (zawake_any w0).mono ?_
         rintro e w1 ⟨rfl, k1⟩
         have K1 := hid k1
         obtain ⟨s10, s11⟩ := RDX.out _ k1
         clear k1)
      | (go_at_call 7
         with_reducible refine (HF.out _ K1.out).mono ?_
         rintro e w2 ⟨rfl, k2⟩
         have K2 := hid (K1.out.trans k2)
         clear k2))
    go_ret
    exact ⟨rfl, K0.out.trans K2.out⟩
  obtain ⟨hfl, hfm⟩ := few_le2 HFB.out
  have HFL := hid (And.intro hfl hfm)
  clear hfl hfm
  have hrr : (re != re) = false := by simp
  obtain ⟨rg, hrg⟩ : ∃ rg, (if re = 0 then gs.map (shG y) else []) = rg := ⟨_, rfl⟩
  obtain ⟨rt, hrt⟩ : ∃ rt, (if re = 0 then ts.map (shT y) else []) = rt := ⟨_, rfl⟩
  rw [hrg, hrt] at HR1 HR2
  obtain ⟨ln, hln⟩ : ∃ ln, rg.length = ln := ⟨_, rfl⟩
  obtain ⟨lm, hlm⟩ : ∃ lm, rt.length = lm := ⟨_, rfl⟩
  have HLN := hid hln
  have HLM := hid hlm
  clear hrg hrt hln hlm
  go_enter Tryz.func4, Tryz.ntmps4
  go_upto_region 1 with fail
  clear hw0
  go_upto_region 10 with (first
    | (go_at_call 6
       with_reducible refine (zawake_any w0).mono ?_
       rintro e w1 ⟨rfl, k1⟩
       have K1 := hid k1
       obtain ⟨s10, s11⟩ := RDX.out _ k1
       clear k1)
    | (go_at_call 7
       with_reducible refine (HF.out _ K1.out).mono ?_
       rintro e w2 ⟨rfl, k2⟩
       have K2 := hid (K1.out.trans k2)
       obtain ⟨s20, s21⟩ := RDX.out _ (K1.out.trans k2)
       clear k2)
    | (go_at_call 15
       with_reducible refine (HR1.out _ K2.out).mono ?_
       rintro e w3 ⟨u3, rfl, h3, k3⟩
       obtain ⟨vg3, vt3, rfl, hg3, ht3⟩ := h3
       obtain ⟨A3, c3, rfl, _⟩ := id hg3
       obtain ⟨A4, c4, rfl, _⟩ := id ht3
       rw [HLN.out, HLM.out]
       rw [HLN.out] at hg3
       rw [HLM.out] at ht3
       have kA := (Kp.refl No w3).alloc (.cells #[.slice A3 ln c3, .slice A4 lm c4] 25)
       have K3' := hid ((K2.out.trans k3).trans kA)
       have BA := hid (Blk.new w3 25 #[.slice A3 ln c3, .slice A4 lm c4])
       have SA := hid (show Sce w3 Anyb (.agg #[.slice A3 ln c3, .slice A4 lm c4]) rg rt from ⟨_, _, rfl, hg3, ht3⟩)
       have SA2 := hid (SA.out.kp0 kA)
       obtain ⟨s30, s31⟩ := RDX.out _ ((K2.out.trans k3).trans kA)
       clear k3 kA hg3 ht3)
    | (go_at_call 16
       with_reducible refine (HR2.out _ K3'.out).mono ?_
       rintro e w5 ⟨u5, rfl, h5, k5⟩
       obtain ⟨vg5, vt5, rfl, hg5, ht5⟩ := h5
       obtain ⟨A5, c5, rfl, _⟩ := id hg5
       obtain ⟨A6, c6, rfl, _⟩ := id ht5
       rw [HLN.out, HLM.out]
       rw [HLN.out] at hg5
       rw [HLM.out] at ht5
       have kB := (Kp.refl No w5).alloc (.cells #[.slice A5 ln c5, .slice A6 lm c6] 25)
       have K5 := hid ((K3'.out.trans k5).trans kB)
       have ba := (BA.out.kp0 k5).kp0 kB
       have bb := Blk.new w5 25 #[.slice A5 ln c5, .slice A6 lm c6]
       have SB := hid (show Sce w5 Anyb (.agg #[.slice A5 ln c5, .slice A6 lm c6]) rg rt from ⟨_, _, rfl, hg5, ht5⟩)
       have SB2 := hid (SB.out.kp0 kB)
       have SA5 := hid ((SA2.out.kp0 k5).kp0 kB)
       have a50 := ba.cell 0
       have a51 := ba.cell 1
       have a52 := bb.cell 0
       have a53 := bb.cell 1
       simp only [List.getElem?_toArray, List.getElem?_cons_zero, List.getElem?_cons_succ] at a50 a51 a52 a53
       clear k5 kB hg5 ht5 ba bb)
    | (go_at_call 17
       with_reducible refine (zsame_any SA5.out SB2.out).mono ?_
       rw [decide_eq_true ⟨rfl, rfl⟩]
       rintro e w6 ⟨rfl, k6⟩
       have K6 := hid (K5.out.trans k6)
       obtain ⟨s60, s61⟩ := RDX.out _ (K5.out.trans k6)
       clear k6)
    | (go_at_call 8
       with_reducible refine (HD.out _ K6.out).mono ?_
       rintro e w7 ⟨rfl, k7⟩
       have K7 := hid (K6.out.trans k7)
       obtain ⟨s70, s71⟩ := RDX.out _ (K6.out.trans k7)
       clear k7))
  have HWO := hid (fun (W : World) (k : Kp No w0 W) => rwhole_any (HS.out.kp0 k) (by have := HFL.out; omega))
  by_cases hn0 : n = 0
  · subst hn0
    have hng : ¬ (0 : Int) < ((0 : Nat) : Int) := by omega
    go_wp2_with fail
    all_goals (
      go_ret
      exact ⟨rfl, K0.out.trans K7.out⟩)
  have hnp : (0 : Int) < (n : Int) := by omega
  obtain ⟨wh, hwh⟩ : ∃ wh, decide (WholeP gs) = wh := ⟨_, rfl⟩
  rw [hwh] at HWO
  have HWH := hid hwh
  clear hwh
  by_cases hcx : ce = 0 ∨ ce = 5 ∨ ce = 10
  rotate_left
  · have d0 : (ce != 0) = true := by rw [bne_iff_ne]; omega
    have d5 : (ce != 5) = true := by rw [bne_iff_ne]; omega
    have d10 : (ce != 10) = true := by rw [bne_iff_ne]; omega
    clear hcx
    go_wp2_with (first
      | (go_at_call 18
         with_reducible refine (HWO.out _ K7.out).mono ?_
         rintro e w8 ⟨rfl, k8⟩
         have K8 := hid (K7.out.trans k8)
         clear k8))
    all_goals (
      go_ret
      exact ⟨rfl, K0.out.trans K8.out⟩)
  have hcb : ((ce != 0) && (ce != 5) && (ce != 10)) = false := by
    rcases hcx with e | e | e <;> subst e <;> rfl
  cases wh
  · rcases hcx with e | e | e <;> subst e
    all_goals (
      go_wp2_with (first
        | (go_at_call 18
           with_reducible refine (HWO.out _ K7.out).mono ?_
           rintro e w8 ⟨rfl, k8⟩
           have K8 := hid (K7.out.trans k8)
           clear k8))
      go_ret
      exact ⟨rfl, K0.out.trans K8.out⟩)
  · have hww : WholeP gs := by have := HWH.out; simpa using this
    obtain ⟨g0, gt, he⟩ : ∃ g0 gt, gs = g0 :: gt := by
      cases hgs : gs with
      | nil => have := HN.out; rw [hgs] at this; simp at this; omega
      | cons a b => exact ⟨a, b, rfl⟩
    have hfo : (idsOf gs ts).Nodup ∧ (∀ g ∈ gs, 1 ≤ g.id ∧ g.id ≤ 1048576) ∧ g0.par = 0 := by
      have h2 := HCE.out
      rw [he] at h2 ⊢
      exact far_ok (by rw [h2]; exact hcx)
    have hnd := List.nodup_append.1 hfo.1
    have HO1 := hid (fun (W : World) (k : Kp No w0 W) => order_any (HS.out.kp0 k) (by have := HFL.out; omega) (by have := HFL.out; omega) HP.out hnd.1 hnd.2.1)
    have HO2 := hid (fun (W : World) (k : Kp No w0 W) => rorder_any he (HS.out.kp0 k) (by have := HFL.out; omega) (by have := HFL.out; omega) hfo.2.1 hfo.2.2 hnd.1 hww hnd.2.1)
    clear hww he hfo hnd
    rcases hcx with e | e | e <;> subst e
    all_goals (
      go_upto_region 13 with (first
        | (go_at_call 18
           with_reducible refine (HWO.out _ K7.out).mono ?_
           rintro e w8 ⟨rfl, k8⟩
           have K8 := hid (K7.out.trans k8)
           clear k8))
      obtain ⟨s80, s81⟩ := RDX.out _ K8.out
      have SZ := hid (show w8.cell? ⟨w.heap.size, 0, none⟩ = some (.slice A n c) ∧ w8.cell? ⟨w.heap.size, 1, none⟩ = some (.slice A2 m c2) ∧ w8.cell? ⟨w.heap.size, 0, none⟩ = some (.slice A n c) ∧ K3 w0 ⟨w.heap.size, 0, none⟩ ⟨w.heap.size, 1, none⟩ ⟨w.heap.size, 0, none⟩ w8 from
        ⟨s80, s81, s80, by show w.heap.size < w8.heap.size; have := K8.out.size; omega, by show w.heap.size < w8.heap.size; have := K8.out.size; omega, by show w.heap.size < w8.heap.size; have := K8.out.size; omega, K8.out⟩)
      go_region_held3 (fun w' => w'.cell? ⟨w.heap.size, 0, none⟩ = some (.slice A n c) ∧ w'.cell? ⟨w.heap.size, 1, none⟩ = some (.slice A2 m c2) ∧ w'.cell? ⟨w.heap.size, 0, none⟩ = some (.slice A n c) ∧ K3 w0 ⟨w.heap.size, 0, none⟩ ⟨w.heap.size, 1, none⟩ ⟨w.heap.size, 0, none⟩ w')
        (first | exact SZ.out | exact K3.step SZ.out (Kp.refl _ _).drew | exact K3.step (by assumption) (by assumption) | assumption)
        (first
          | (go_at_call 19
             with_reducible refine (HO1.out _ (K3.kp (by assumption))).mono ?_
             rintro e w9 ⟨ug, ut, rfl, og, ot, k9⟩
             have K9 := hid ((K8.out.drew).trans k9)
             have SO := hid (show Sce w9 Anyb (.agg #[ug, ut]) (orderG gs) (srtT ts) from ⟨ug, ut, rfl, og.rwp.any, ot.rwp.any⟩)
             clear og ot)
          | (go_at_call 20
             with_reducible refine (HO2.out _ (K3.kp (by assumption))).mono ?_
             rintro e w10 ⟨ug2, ut2, rfl, og, ot, k10⟩
             have K10 := hid (K9.out.trans k10)
             have SP := hid (show Sce w10 Anyb (.agg #[ug2, ut2]) (orderG gs) (srtT ts) from ⟨ug2, ut2, rfl, og.rwp.any, ot.rwp.any⟩)
             have SO2 := hid (SO.out.kp0 k10)
             clear og ot)
          | (go_at_call 17
             with_reducible refine (zsame_any SO2.out SP.out).mono ?_
             rw [decide_eq_true ⟨rfl, rfl⟩]
             rintro e w11 ⟨rfl, k11⟩
             have K11 := hid (K10.out.trans k11)))
      all_goals (
        (try go_wp2_with fail)
        go_ret
        exact ⟨rfl, K0.out.trans K11.out⟩))
end Go.Proofs.YtomoiihckbdjdaaGreat
