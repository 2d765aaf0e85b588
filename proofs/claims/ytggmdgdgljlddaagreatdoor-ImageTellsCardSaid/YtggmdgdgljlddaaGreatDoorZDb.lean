/-
  Contracts of the document's group, Steps, Whole, Tall and Ids.
-/
import Derived.Test.YtggmdgdgljlddaaGreatDoorZDa
import Derived.Test.YtggmdgdgljlddaaGreatDoorZSame
import Derived.BigQuiet
namespace Go.Proofs.YtggmdgdgljlddaaGreatDoor
open Go.RowKit Go.Shelf

theorem step_calld {P : Program} {ops : Array Oper} {o : Oper} {a : Act} {w : World} {K : Act → World → Prop} {Q : Exit → Act → World → Prop} {E : Prop} {f : FuncId} {args : Array Value} {v : Value} {R : World → Prop} (hgd : o.guard = none)
    (hr : (execOp a.eval o).run P w = .ok (.enter f args) w) (hc : Calls P f args w fun e w' => e = .returned v ∧ R w') (h : ∀ w', R w' → K (a.put o.dst v) w') : if Region.wanted o (yielded ops a.tmps) = true then Oper.wp P o a w K Q else E := by
  have hw : Region.wanted o (yielded ops a.tmps) = true := by simp [Region.wanted, hgd]
  rw [if_pos hw]
  unfold Oper.wp
  rw [hr]
  simp only [Oper.upon]
  refine Calls.mono hc fun e w' ⟨he, hR⟩ => ?_
  subst he
  exact h w' hR
instance (gs : List GS) : Decidable (WholeP gs) := by unfold WholeP; infer_instance
section
variable {w : World} {P : Nat → Prop} {v : Value} {gs : List GS} {ts : List TS}
set_option maxRecDepth 100000 in
set_option maxHeartbeats 1000000 in
theorem rgroup_any (h : Sce w P v gs ts) (hl : gs.length ≤ 1000000) (x : Int) :
    Calls Tryz.prog 50 #[v, .int .i64 x] w fun e w' => e = .returned (.int .i64 (grpI gs x)) ∧ Kp No w w' := by
  obtain ⟨vg, vt, rfl, hg, ht⟩ := h
  have k1 := (Kp.refl No w).alloc (.cells #[vg, vt] 25)
  have b1 := Blk.new w 25 #[vg, vt]
  have z1 := World.size_alloc w (.cells #[vg, vt] 25)
  obtain ⟨w1, hw1⟩ : ∃ w1, w.alloc (.cells #[vg, vt] 25) = w1 := ⟨_, rfl⟩
  rw [hw1] at k1 b1 z1
  have K1 := hid k1
  have B1 := hid b1
  have SC := hid (show Sce w1 P (.agg #[vg, vt]) gs ts from ⟨vg, vt, rfl, hg.kp0 k1, ht.kp0 k1⟩)
  obtain ⟨A, c, rfl, hx1, hx2, _⟩ := id hg
  obtain ⟨A2, c2, rfl, hx3, hx4, _⟩ := id ht
  have HG := hid (hg.kp0 k1)
  have HT := hid (ht.kp0 k1)
  obtain ⟨n, hn⟩ : ∃ n, gs.length = n := ⟨_, rfl⟩
  obtain ⟨m, hm⟩ : ∃ m, ts.length = m := ⟨_, rfl⟩
  rw [hn] at HG hl b1 B1 hw1 SC ⊢
  rw [hm] at HT B1 hw1 b1 SC ⊢
  have HN := hid hn
  have HM := hid hm
  have s0 := b1.cell 0
  have s1 := b1.cell 1
  simp only [List.getElem?_toArray, List.getElem?_cons_zero, List.getElem?_cons_succ] at s0 s1
  clear k1 b1 hg ht hn hm hx1 hx2 hx3 hx4 SC
  go_enter Tryz.func50, Tryz.ntmps50
  go_upto_region 1 with fail
  clear hw1
  go_wp2_with fail
  go_loopw [5] (fun i wr => ∃ k : Nat, k ≤ n ∧ i = .int .i64 (k : Int) ∧ Hid (∀ y ∈ gs.take k, y.id ≠ x) ∧ Hid (Kp No w1 wr)) (fun i _ => n - (vI i).toNat)
  case atStart => exact ⟨0, Nat.zero_le _, rfl, hid (by simp), hid (Kp.refl _ _)⟩
  case round =>
    obtain ⟨k, hk, rfl, HX, KW⟩ := hrel
    have Bw := B1.out.kp0 KW.out
    have s0 := Bw.cell 0
    have s1 := Bw.cell 1
    simp only [List.getElem?_toArray, List.getElem?_cons_zero, List.getElem?_cons_succ] at s0 s1
    clear Bw
    by_cases hkn : k < n
    · have hkl : k < gs.length := by rw [HN.out]; exact hkn
      have Ov := HG.out.kp0 KW.out
      obtain ⟨b, off, rfl⟩ := Ov.there (by omega)
      have q0 := Ov.cell (j := k) (i := 0) (Kp.refl No _) hkl (by omega) rfl
      have q1 := Ov.cell (j := k) (i := 1) (Kp.refl No _) hkl (by omega) rfl
      have q2 := Ov.cell (j := k) (i := 2) (Kp.refl No _) hkl (by omega) rfl
      have q3 := Ov.cell (j := k) (i := 3) (Kp.refl No _) hkl (by omega) rfl
      have q4 := Ov.cell (j := k) (i := 4) (Kp.refl No _) hkl (by omega) rfl
      have q5 := Ov.cell (j := k) (i := 5) (Kp.refl No _) hkl (by omega) rfl
      have HS := hid (take_s gs hkl gs0)
      obtain ⟨x0, hx0⟩ : ∃ x0, gs.getD k gs0 = x0 := ⟨_, rfl⟩
      rw [hx0] at q0 q1 q2 q3 q4 q5 HS
      have HX0 := hid hx0
      simp only [gc, ge, List.getD_cons_zero, List.getD_cons_succ, Nat.add_zero] at q0 q1 q2 q3 q4 q5
      simp only [← Nat.add_assoc] at q1 q2 q3 q4 q5
      have HKL := hid hkl
      have hg1 : (k : Int) < (n : Int) := by omega
      have hwk := wrapI (x := (k : Int) + 1) (by unfold I64; omega)
      clear Ov hx0 hkl
      by_cases e : x0.id = x
      · have e1 : (x0.id == x) = true := by simp [e]
        have HE := hid e
        clear e
        go_wp2_with fail
        go_ret
        refine ⟨?_, K1.out.trans KW.out⟩
        rw [grp_at gs x k HKL.out (by rw [HX0.out]; exact HE.out) HX.out]
        try rfl
      · have e1 : (x0.id == x) = false := by simp [e]
        have HE := hid e
        clear e
        go_wp2_with fail
        go_roundw
        case rel => exact ⟨k + 1, by omega, by go_num, hid (by
          intro y hy
          rw [HS.out, List.mem_append] at hy
          rcases hy with hy | hy
          · exact HX.out y hy
          · rw [List.mem_singleton.1 hy]
            exact HE.out), KW⟩
        case measure => simp [vI]; omega
    · have hkk : k = n := by omega
      subst hkk
      have hng : ¬ (k : Int) < (k : Int) := by omega
      have hx := HX.out
      rw [List.take_of_length_le (by rw [HN.out]; omega)] at hx
      have HNO := hid hx
      clear hx
      go_wp2_with fail
      go_ret
      exact ⟨by rw [grp_no gs x HNO.out]; try rfl, K1.out.trans KW.out⟩
set_option maxRecDepth 100000 in
set_option maxHeartbeats 1000000 in
theorem rsteps_any (h : Sce w P v gs ts) (hl : gs.length ≤ 1000000) {i : Nat} (hi : i < gs.length) :
    Calls Tryz.prog 91 #[v, .int .i64 (i : Int)] w fun e w' => e = .returned (.int .i64 (stepsI gs i)) ∧ Kp No w w' := by
  obtain ⟨vg, vt, rfl, hg, ht⟩ := h
  have k1 := (Kp.refl No w).alloc (.cells #[vg, vt] 25)
  have b1 := Blk.new w 25 #[vg, vt]
  have z1 := World.size_alloc w (.cells #[vg, vt] 25)
  obtain ⟨w1, hw1⟩ : ∃ w1, w.alloc (.cells #[vg, vt] 25) = w1 := ⟨_, rfl⟩
  rw [hw1] at k1 b1 z1
  have K1 := hid k1
  have B1 := hid b1
  have SC := hid (show Sce w1 P (.agg #[vg, vt]) gs ts from ⟨vg, vt, rfl, hg.kp0 k1, ht.kp0 k1⟩)
  obtain ⟨A, c, rfl, hx1, hx2, _⟩ := id hg
  obtain ⟨A2, c2, rfl, hx3, hx4, _⟩ := id ht
  have HG := hid (hg.kp0 k1)
  have HT := hid (ht.kp0 k1)
  obtain ⟨n, hn⟩ : ∃ n, gs.length = n := ⟨_, rfl⟩
  obtain ⟨m, hm⟩ : ∃ m, ts.length = m := ⟨_, rfl⟩
  rw [hn] at HG hl b1 B1 hw1 SC ⊢
  rw [hm] at HT B1 hw1 b1 SC ⊢
  have HN := hid hn
  have HM := hid hm
  have s0 := b1.cell 0
  have s1 := b1.cell 1
  simp only [List.getElem?_toArray, List.getElem?_cons_zero, List.getElem?_cons_succ] at s0 s1
  have hi2 : i < n := by omega
  clear k1 b1 hg ht hn hm hx1 hx2 hx3 hx4 hi
  go_enter Tryz.func91, Tryz.ntmps91
  go_upto_region 1 with fail
  clear hw1
  go_wp2_with fail
  go_loopw [1, 5] (fun iv nv wr => ∃ (j q : Nat), j < n ∧ q ≤ n ∧ iv = .int .i64 (j : Int) ∧ nv = .int .i64 (q : Int) ∧ Hid (stepsI gs i = stp gs (n + 1 - q) j q) ∧ Hid (Kp No w1 wr)) (fun _ nv _ => n + 1 - (vI nv).toNat)
  case atStart => exact ⟨i, 0, hi2, Nat.zero_le _, rfl, rfl, hid (by unfold stepsI; rw [HN.out]; rfl), hid (Kp.refl _ _)⟩
  case round =>
    obtain ⟨j, q, hj, hq, rfl, rfl, HX, KW⟩ := hrel
    have Bw := B1.out.kp0 KW.out
    have s0 := Bw.cell 0
    have s1 := Bw.cell 1
    simp only [List.getElem?_toArray, List.getElem?_cons_zero, List.getElem?_cons_succ] at s0 s1
    clear Bw
    have hkl : j < gs.length := by rw [HN.out]; exact hj
    have Ov := HG.out.kp0 KW.out
    obtain ⟨b, off, rfl⟩ := Ov.there (by omega)
    have q0 := Ov.cell (j := j) (i := 0) (Kp.refl No _) hkl (by omega) rfl
    have q1 := Ov.cell (j := j) (i := 1) (Kp.refl No _) hkl (by omega) rfl
    have q2 := Ov.cell (j := j) (i := 2) (Kp.refl No _) hkl (by omega) rfl
    have q3 := Ov.cell (j := j) (i := 3) (Kp.refl No _) hkl (by omega) rfl
    have q4 := Ov.cell (j := j) (i := 4) (Kp.refl No _) hkl (by omega) rfl
    have q5 := Ov.cell (j := j) (i := 5) (Kp.refl No _) hkl (by omega) rfl
    have HS := hid (take_s gs hkl gs0)
    obtain ⟨x0, hx0⟩ : ∃ x0, gs.getD j gs0 = x0 := ⟨_, rfl⟩
    rw [hx0] at q0 q1 q2 q3 q4 q5 HS
    have HX0 := hid hx0
    simp only [gc, ge, List.getD_cons_zero, List.getD_cons_succ, Nat.add_zero] at q0 q1 q2 q3 q4 q5
    simp only [← Nat.add_assoc] at q1 q2 q3 q4 q5
    have HKL := hid hkl
    have hg1 : (j : Int) < (n : Int) := by omega
    have hg0 : ¬ (j : Int) < 0 := by omega
    obtain ⟨f, hf⟩ : ∃ f, n + 1 - q = f + 1 := ⟨n - q, by omega⟩
    have hfq : f = n - q := by omega
    rw [hf] at HX
    have HF := hid (And.intro hf hfq)
    have hstp : stp gs (f + 1) j q = if x0.par = 0 then (if j = 0 then (q : Int) else -1) else if grpI gs x0.par < 0 ∨ n < q + 1 then -1 else stp gs f (grpI gs x0.par).toNat (q + 1) := by
      rw [← hx0, ← HN.out]
      rfl
    have HST := hid hstp
    clear Ov hx0 hkl hstp hf hfq
    by_cases e : x0.par = 0
    · have e1 : (x0.par != 0) = false := by simp [e]
      have HE := hid e
      clear e
      by_cases e0 : j = 0
      · subst e0
        go_wp2_with fail
        go_ret
        exact ⟨by rw [HX.out, HST.out, if_pos HE.out]; simp, K1.out.trans KW.out⟩
      · have e2 : ((j : Int) != 0) = true := by simp [e0]
        have HE0 := hid e0
        clear e0
        go_wp2_with fail
        go_ret
        exact ⟨by rw [HX.out, HST.out, if_pos HE.out, if_neg HE0.out]; try rfl, K1.out.trans KW.out⟩
    · have e1 : (x0.par != 0) = true := by simp [e]
      have HE := hid e
      clear e
      go_upto_region 3 with fail
      have HGR := hid (fun (ww : World) (kw : Kp No wr ww) => rgroup_any (show Sce ww P (.agg #[.slice (some ⟨b, off, none⟩) n c, .slice A2 m c2]) gs ts from SC.out.kp0 (KW.out.trans kw)) (by rw [HN.out]; exact hl) x0.par)
      obtain ⟨gi, hgi⟩ : ∃ gi, grpI gs x0.par = gi := ⟨_, rfl⟩
      rw [hgi] at HGR HST
      have HGI := hid hgi
      clear hgi
      go_cut [1] (fun s wx => s = .int .i64 gi ∧ Hid (Kp No wr wx))
      case first =>
        go_region_law (first
          | (refine step_calld (by rfl) (by go_simp) (HGR.out _ (Kp.refl No _).drew) ?_
             intro w6 k6
             have K4 := hid ((Kp.refl No _).drew.trans k6)
             clear k6))
        all_goals (
          (try go_wp2_with fail)
          go_meet
          exact ⟨rfl, K4⟩)
      case rest =>
        obtain ⟨rfl, HK4⟩ := hcut
        have Bw := B1.out.kp0 (KW.out.trans HK4.out)
        have s0 := Bw.cell 0
        have s1 := Bw.cell 1
        simp only [List.getElem?_toArray, List.getElem?_cons_zero, List.getElem?_cons_succ] at s0 s1
        have hwq := wrapI (x := (q : Int) + 1) (by unfold I64; omega)
        have KK := hid (KW.out.trans HK4.out)
        clear Bw q0 q1 q2 q3 q4 q5
        by_cases e2 : gi < 0
        · have d2 : decide (gi < 0) = true := by simp [e2]
          have HE2 := hid e2
          clear e2
          go_wp2_with fail
          go_ret
          exact ⟨by rw [HX.out, HST.out, if_neg HE.out, if_pos (.inl HE2.out)]; try rfl, K1.out.trans KK.out⟩
        · have d2 : decide (gi < 0) = false := by simp; omega
          obtain ⟨gj, hgj1, hgj2, _⟩ : ∃ gj : Nat, grpI gs x0.par = (gj : Int) ∧ gj < gs.length ∧ (gs.getD gj gs0).id = x0.par := by
            rcases grp_or gs x0.par with ⟨h1, _⟩ | h1
            · rw [HGI.out] at h1
              omega
            · exact h1
          rw [HGI.out] at hgj1
          subst hgj1
          rw [HN.out] at hgj2
          have HE2 := hid e2
          clear e2
          by_cases e3 : n < q + 1
          · have d3 : decide ((n : Int) < (q : Int) + 1) = true := by simp; omega
            have HE3 := hid e3
            clear e3
            go_wp2_with fail
            go_ret
            exact ⟨by rw [HX.out, HST.out, if_neg HE.out, if_pos (.inr HE3.out)]; try rfl, K1.out.trans KK.out⟩
          · have d3 : decide ((n : Int) < (q : Int) + 1) = false := by simp; omega
            have hq1 : q + 1 ≤ n := by omega
            have HE3 := hid e3
            clear e3
            go_wp2_with fail
            go_roundw
            case rel => exact ⟨gj, q + 1, hgj2, hq1, rfl, by go_num, hid (by
              rw [HX.out, HST.out, if_neg HE.out, if_neg (fun hh => hh.elim HE2.out HE3.out)]
              have hff := HF.out.2
              rw [show n + 1 - (q + 1) = f by omega]
              rfl), KK⟩
            case measure => simp [vI]; omega
set_option maxRecDepth 100000 in
set_option maxHeartbeats 1000000 in
theorem rwhole_any (h : Sce w P v gs ts) (hl : gs.length ≤ 1000000) :
    Calls Tryz.prog 51 #[v] w fun e w' => e = .returned (.bool (decide (WholeP gs))) ∧ Kp No w w' := by
  obtain ⟨vg, vt, rfl, hg, ht⟩ := h
  have k1 := (Kp.refl No w).alloc (.cells #[vg, vt] 25)
  have b1 := Blk.new w 25 #[vg, vt]
  have z1 := World.size_alloc w (.cells #[vg, vt] 25)
  obtain ⟨w1, hw1⟩ : ∃ w1, w.alloc (.cells #[vg, vt] 25) = w1 := ⟨_, rfl⟩
  rw [hw1] at k1 b1 z1
  have K1 := hid k1
  have B1 := hid b1
  have SC := hid (show Sce w1 P (.agg #[vg, vt]) gs ts from ⟨vg, vt, rfl, hg.kp0 k1, ht.kp0 k1⟩)
  obtain ⟨A, c, rfl, hx1, hx2, _⟩ := id hg
  obtain ⟨A2, c2, rfl, hx3, hx4, _⟩ := id ht
  have HG := hid (hg.kp0 k1)
  have HT := hid (ht.kp0 k1)
  obtain ⟨n, hn⟩ : ∃ n, gs.length = n := ⟨_, rfl⟩
  obtain ⟨m, hm⟩ : ∃ m, ts.length = m := ⟨_, rfl⟩
  rw [hn] at HG hl b1 B1 hw1 SC ⊢
  rw [hm] at HT B1 hw1 b1 SC ⊢
  have HN := hid hn
  have HM := hid hm
  have s0 := b1.cell 0
  have s1 := b1.cell 1
  simp only [List.getElem?_toArray, List.getElem?_cons_zero, List.getElem?_cons_succ] at s0 s1
  obtain ⟨r, hr⟩ : ∃ r, decide (WholeP gs) = r := ⟨_, rfl⟩
  rw [hr]
  have HR := hid hr
  clear hr
  clear k1 b1 hg ht hn hm hx1 hx2 hx3 hx4
  go_enter Tryz.func51, Tryz.ntmps51
  go_upto_region 1 with fail
  clear hw1
  go_wp2_with fail
  go_loopw [3] (fun i wr => ∃ k : Nat, k ≤ n ∧ i = .int .i64 (k : Int) ∧ Hid (∀ j, j < k → 0 ≤ stepsI gs j) ∧ Hid (Kp No w1 wr)) (fun i _ => n - (vI i).toNat)
  case atStart => exact ⟨0, Nat.zero_le _, rfl, hid (by omega), hid (Kp.refl _ _)⟩
  case round =>
    obtain ⟨k, hk, rfl, HX, KW⟩ := hrel
    have Bw := B1.out.kp0 KW.out
    have s0 := Bw.cell 0
    have s1 := Bw.cell 1
    simp only [List.getElem?_toArray, List.getElem?_cons_zero, List.getElem?_cons_succ] at s0 s1
    clear Bw
    by_cases hkn : k < n
    · have HST := hid (rsteps_any (SC.out.kp0 KW.out) (by rw [HN.out]; exact hl) (i := k) (by rw [HN.out]; exact hkn))
      have HKN := hid hkn
      have hg1 : (k : Int) < (n : Int) := by omega
      have hwk := wrapI (x := (k : Int) + 1) (by unfold I64; omega)
      obtain ⟨si, hsi⟩ : ∃ si, stepsI gs k = si := ⟨_, rfl⟩
      rw [hsi] at HST
      have HSI := hid hsi
      clear hsi
      by_cases e : si < 0
      · have d : decide (si < 0) = true := by simp [e]
        have HE := hid e
        clear e
        go_wp2_with (first
          | (go_at_call 91
             refine HST.out.mono ?_
             rintro e w4 ⟨rfl, k4⟩
             have K4 := hid k4
             clear k4))
        go_ret
        have hrf : r = false := by
          rw [← HR.out, decide_eq_false_iff_not]
          intro hh
          have := hh k (by rw [HN.out]; exact HKN.out)
          have h2 := HE.out
          rw [HSI.out] at this
          omega
        rw [hrf]
        exact ⟨rfl, K1.out.trans (KW.out.trans K4.out)⟩
      · have d : decide (si < 0) = false := by simp; omega
        have HE := hid e
        clear e
        go_wp2_with (first
          | (go_at_call 91
             refine HST.out.mono ?_
             rintro e w4 ⟨rfl, k4⟩
             have K4 := hid (KW.out.trans k4)
             clear k4))
        go_roundw
        case rel => exact ⟨k + 1, by omega, by go_num, hid (by
          intro j hj
          by_cases e : j = k
          · subst e
            rw [HSI.out]
            have := HE.out
            omega
          · exact HX.out j (by omega)), K4⟩
        case measure => simp [vI]; omega
    · have hkk : k = n := by omega
      subst hkk
      have hng : ¬ (k : Int) < (k : Int) := by omega
      go_wp2_with fail
      go_ret
      have hrf : r = true := by
        rw [← HR.out, decide_eq_true_eq]
        exact fun j hj => HX.out j (by rw [HN.out] at hj; exact hj)
      rw [hrf]
      exact ⟨rfl, K1.out.trans KW.out⟩
set_option maxRecDepth 100000 in
set_option maxHeartbeats 1000000 in
theorem rztall_any (h : Sce w P v gs ts) (hl : gs.length ≤ 1000000) :
    Calls Tryz.prog 53 #[v] w fun e w' => e = .returned (.int .i64 (tallI gs gs.length)) ∧ Kp No w w' := by
  obtain ⟨vg, vt, rfl, hg, ht⟩ := h
  have k1 := (Kp.refl No w).alloc (.cells #[vg, vt] 25)
  have b1 := Blk.new w 25 #[vg, vt]
  have z1 := World.size_alloc w (.cells #[vg, vt] 25)
  obtain ⟨w1, hw1⟩ : ∃ w1, w.alloc (.cells #[vg, vt] 25) = w1 := ⟨_, rfl⟩
  rw [hw1] at k1 b1 z1
  have K1 := hid k1
  have B1 := hid b1
  have SC := hid (show Sce w1 P (.agg #[vg, vt]) gs ts from ⟨vg, vt, rfl, hg.kp0 k1, ht.kp0 k1⟩)
  obtain ⟨A, c, rfl, hx1, hx2, _⟩ := id hg
  obtain ⟨A2, c2, rfl, hx3, hx4, _⟩ := id ht
  have HG := hid (hg.kp0 k1)
  have HT := hid (ht.kp0 k1)
  obtain ⟨n, hn⟩ : ∃ n, gs.length = n := ⟨_, rfl⟩
  obtain ⟨m, hm⟩ : ∃ m, ts.length = m := ⟨_, rfl⟩
  rw [hn] at HG hl b1 B1 hw1 SC ⊢
  rw [hm] at HT B1 hw1 b1 SC ⊢
  have HN := hid hn
  have HM := hid hm
  have s0 := b1.cell 0
  have s1 := b1.cell 1
  simp only [List.getElem?_toArray, List.getElem?_cons_zero, List.getElem?_cons_succ] at s0 s1
  clear k1 b1 hg ht hn hm hx1 hx2 hx3 hx4
  go_enter Tryz.func53, Tryz.ntmps53
  go_upto_region 1 with fail
  clear hw1
  go_wp2_with fail
  go_loopw [3, 4] (fun r i wr => ∃ k : Nat, k ≤ n ∧ i = .int .i64 (k : Int) ∧ r = .int .i64 (tallI gs k) ∧ Hid (Kp No w1 wr)) (fun _ i _ => n - (vI i).toNat)
  case atStart => exact ⟨0, Nat.zero_le _, rfl, rfl, hid (Kp.refl _ _)⟩
  case round =>
    obtain ⟨k, hk, rfl, rfl, KW⟩ := hrel
    have Bw := B1.out.kp0 KW.out
    have s0 := Bw.cell 0
    have s1 := Bw.cell 1
    simp only [List.getElem?_toArray, List.getElem?_cons_zero, List.getElem?_cons_succ] at s0 s1
    clear Bw
    by_cases hkn : k < n
    · have HST := hid (rsteps_any (SC.out.kp0 KW.out) (by rw [HN.out]; exact hl) (i := k) (by rw [HN.out]; exact hkn))
      have hg1 : (k : Int) < (n : Int) := by omega
      have hwk := wrapI (x := (k : Int) + 1) (by unfold I64; omega)
      have hsc := tallI_succ gs k
      obtain ⟨si, hsi⟩ : ∃ si, stepsI gs k = si := ⟨_, rfl⟩
      obtain ⟨ti, hti⟩ : ∃ ti, tallI gs k = ti := ⟨_, rfl⟩
      rw [hsi, hti] at hsc
      rw [hsi] at HST
      rw [hti]
      have HSC := hid hsc
      clear hsi hti hsc
      go_wp2_with (first
        | (go_at_call 91
           refine HST.out.mono ?_
           rintro e w4 ⟨rfl, k4⟩
           have K4 := hid (KW.out.trans k4)
           clear k4))
      all_goals (
        go_roundw
        case rel => exact ⟨k + 1, by omega, by go_num, by rw [HSC.out] <;> (first | rfl | (congr 1; omega)), K4⟩
        case measure => simp [vI]; omega)
    · have hkk : k = n := by omega
      subst hkk
      have hng : ¬ (k : Int) < (k : Int) := by omega
      go_wp2_with fail
      go_ret
      exact ⟨rfl, K1.out.trans KW.out⟩
end
end Go.Proofs.YtggmdgdgljlddaaGreatDoor
