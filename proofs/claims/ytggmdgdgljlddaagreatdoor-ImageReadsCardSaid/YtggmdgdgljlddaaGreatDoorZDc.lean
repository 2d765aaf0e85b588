/-
  Contracts of the document's Ids and odd.
-/
import Derived.Test.YtggmdgdgljlddaaGreatDoorZDb
namespace Go.Proofs.YtggmdgdgljlddaaGreatDoor
open Go.RowKit Go.Shelf

section
variable {w : World} {P : Nat → Prop} {v : Value} {gs : List GS} {ts : List TS}
set_option maxRecDepth 100000 in
set_option maxHeartbeats 1000000 in
theorem rids_any (h : Sce w P v gs ts) (hl : gs.length ≤ 1000000) (hlt : ts.length ≤ 1000000) :
    Calls Tryz.prog 49 #[v] w fun e w' => ∃ u, e = .returned u ∧ Ow w' w.heap.size 3 1 zI u (idsOf gs ts) ∧ Kp No w w' := by
  obtain ⟨vg, vt, rfl, hg, ht⟩ := h
  have k1 := (Kp.refl No w).alloc (.cells #[vg, vt] 25)
  have b1 := Blk.new w 25 #[vg, vt]
  have z1 := World.size_alloc w (.cells #[vg, vt] 25)
  obtain ⟨w1, hw1⟩ : ∃ w1, w.alloc (.cells #[vg, vt] 25) = w1 := ⟨_, rfl⟩
  rw [hw1] at k1 b1 z1
  have K1 := hid k1
  have B1 := hid b1
  have SC := hid (show Sce w1 P (.agg #[vg, vt]) gs ts from ⟨vg, vt, rfl, hg.kp0 k1, ht.kp0 k1⟩)
  obtain ⟨A, c, rfl, hx1, hx2, _⟩ := id hg
  obtain ⟨A2, c2, rfl, hx3, hx4, _⟩ := id ht
  have HG := hid (hg.kp0 k1)
  have HT := hid (ht.kp0 k1)
  obtain ⟨n, hn⟩ : ∃ n, gs.length = n := ⟨_, rfl⟩
  obtain ⟨m, hm⟩ : ∃ m, ts.length = m := ⟨_, rfl⟩
  rw [hn] at HG hl b1 B1 hw1 SC ⊢
  rw [hm] at HT B1 hw1 b1 SC ⊢
  have HN := hid hn
  have HM := hid hm
  have s0 := b1.cell 0
  have s1 := b1.cell 1
  simp only [List.getElem?_toArray, List.getElem?_cons_zero, List.getElem?_cons_succ] at s0 s1
  rw [hm] at hlt
  clear k1 b1 hg ht hn hm hx1 hx2 hx3 hx4 SC
  go_enter Tryz.func49, Tryz.ntmps49
  go_upto_region 1 with fail
  clear hw1
  go_wp2_with fail
  go_loopw [3, 4] (fun u i wr => ∃ k : Nat, k ≤ n ∧ i = .int .i64 (k : Int) ∧ Hid (Ow wr w1.heap.size 3 1 zI u ((gs.take k).map (·.id))) ∧ Hid (Kp No w1 wr)) (fun _ i _ => n - (vI i).toNat)
  case atStart => exact ⟨0, Nat.zero_le _, rfl, hid (Ow.nil _ _ _ _ _), hid (Kp.refl _ _)⟩
  case round =>
    obtain ⟨k, hk, rfl, HO, KW⟩ := hrel
    have Bw := B1.out.kp0 KW.out
    have s0 := Bw.cell 0
    have s1 := Bw.cell 1
    simp only [List.getElem?_toArray, List.getElem?_cons_zero, List.getElem?_cons_succ] at s0 s1
    clear Bw
    by_cases hkn : k < n
    · have hkl : k < gs.length := by rw [HN.out]; exact hkn
      have Ov := HG.out.kp0 KW.out
      obtain ⟨b, off, rfl⟩ := Ov.there (by omega)
      have q0 := Ov.cell (j := k) (i := 0) (Kp.refl No _) hkl (by omega) rfl
      have q1 := Ov.cell (j := k) (i := 1) (Kp.refl No _) hkl (by omega) rfl
      have q2 := Ov.cell (j := k) (i := 2) (Kp.refl No _) hkl (by omega) rfl
      have q3 := Ov.cell (j := k) (i := 3) (Kp.refl No _) hkl (by omega) rfl
      have q4 := Ov.cell (j := k) (i := 4) (Kp.refl No _) hkl (by omega) rfl
      have q5 := Ov.cell (j := k) (i := 5) (Kp.refl No _) hkl (by omega) rfl
      have HS := hid (take_s gs hkl gs0)
      obtain ⟨x0, hx0⟩ : ∃ x0, gs.getD k gs0 = x0 := ⟨_, rfl⟩
      rw [hx0] at q0 q1 q2 q3 q4 q5 HS
      have HX0 := hid hx0
      simp only [gc, ge, List.getD_cons_zero, List.getD_cons_succ, Nat.add_zero] at q0 q1 q2 q3 q4 q5
      simp only [← Nat.add_assoc] at q1 q2 q3 q4 q5
      have hlen : ((gs.take k).map (·.id)).length = k := by rw [List.length_map, List.length_take]; omega
      have HL := hid hlen
      have hg1 : (k : Int) < (n : Int) := by omega
      have hwk := wrapI (x := (k : Int) + 1) (by unfold I64; omega)
      have KA := hid (KW.out.alloc (.cells #[.int .i64 x0.id] 3))
      have OA := hid (HO.out.kp0 ((Kp.refl No wr).alloc (.cells #[.int .i64 x0.id] 3)))
      have HZ := hid ((Blk.new wr 3 #[.int .i64 x0.id]).cell 0)
      clear Ov hx0 hlen
      go_wp2_with (first
        | (at_builtin
           refine wp_app1 usI zI_one rfl (.tmp 13) (.tmp 20) rfl (base := w1.heap.size) (xs := (gs.take k).map (·.id)) (y := x0.id) (by exact OA.out) rfl (by
             intro i hi
             match i, hi with
             | 0, _ => exact HZ.out) (by rw [HL.out]; omega) (by rw [HL.out]; simp only [maxLen]; omega) (by exact KA.out.size) ?_
           intro v5 w5 o5 k5 p5
           have O5 := hid o5
           have K5 := hid (KA.out.grown k5 fun i hi => .inr (OA.out.blk hi).1)
           clear o5 k5 p5))
      go_roundw
      case rel => exact ⟨k + 1, by omega, by go_num, hid (by rw [HS.out, List.map_append]; exact O5.out), K5⟩
      case measure => simp [vI]; omega
    · have hkk : k = n := by omega
      subst hkk
      have hng : ¬ (k : Int) < (k : Int) := by omega
      have O1 := HO.out
      rw [List.take_of_length_le (by rw [HN.out]; omega)] at O1
      have OG := hid O1
      clear O1 HO HG
      go_wp2_with fail
      go_loopw [3, 5] (fun u i wr => ∃ k : Nat, k ≤ m ∧ i = .int .i64 (k : Int) ∧ Hid (Ow wr w1.heap.size 3 1 zI u (gs.map (·.id) ++ (ts.take k).map (·.id))) ∧ Hid (Kp No w1 wr)) (fun _ i _ => m - (vI i).toNat)
      case atStart => exact ⟨0, Nat.zero_le _, rfl, hid (by simpa using OG.out), KW⟩
      case round =>
        obtain ⟨k2, hk2, rfl, HO2, KW2⟩ := hrel
        clear s0 s1
        have Bw := B1.out.kp0 KW2.out
        have s0 := Bw.cell 0
        have s1 := Bw.cell 1
        simp only [List.getElem?_toArray, List.getElem?_cons_zero, List.getElem?_cons_succ] at s0 s1
        clear Bw
        by_cases hkn2 : k2 < m
        · have hkl : k2 < ts.length := by rw [HM.out]; exact hkn2
          have Ov := HT.out.kp0 KW2.out
          obtain ⟨b, off, rfl⟩ := Ov.there (by omega)
          have q0 := Ov.cell (j := k2) (i := 0) (Kp.refl No _) hkl (by omega) rfl
          have q1 := Ov.cell (j := k2) (i := 1) (Kp.refl No _) hkl (by omega) rfl
          have q2 := Ov.cell (j := k2) (i := 2) (Kp.refl No _) hkl (by omega) rfl
          have q3 := Ov.cell (j := k2) (i := 3) (Kp.refl No _) hkl (by omega) rfl
          have q4 := Ov.cell (j := k2) (i := 4) (Kp.refl No _) hkl (by omega) rfl
          have q5 := Ov.cell (j := k2) (i := 5) (Kp.refl No _) hkl (by omega) rfl
          have q6 := Ov.cell (j := k2) (i := 6) (Kp.refl No _) hkl (by omega) rfl
          have q7 := Ov.cell (j := k2) (i := 7) (Kp.refl No _) hkl (by omega) rfl
          have HS := hid (take_s ts hkl ts0)
          obtain ⟨x0, hx0⟩ : ∃ x0, ts.getD k2 ts0 = x0 := ⟨_, rfl⟩
          rw [hx0] at q0 q1 q2 q3 q4 q5 q6 q7 HS
          have HX0 := hid hx0
          simp only [tc, te, List.getD_cons_zero, List.getD_cons_succ, Nat.add_zero] at q0 q1 q2 q3 q4 q5 q6 q7
          simp only [← Nat.add_assoc] at q1 q2 q3 q4 q5 q6 q7
          have hlen : (gs.map (·.id) ++ (ts.take k2).map (·.id)).length = k + k2 := by rw [List.length_append, List.length_map, List.length_map, List.length_take, HN.out]; omega
          have HL := hid hlen
          have hg2 : (k2 : Int) < (m : Int) := by omega
          have hwk := wrapI (x := (k2 : Int) + 1) (by unfold I64; omega)
          have KA := hid (KW2.out.alloc (.cells #[.int .i64 x0.id] 3))
          have OA := hid (HO2.out.kp0 ((Kp.refl No wr).alloc (.cells #[.int .i64 x0.id] 3)))
          have HZ := hid ((Blk.new wr 3 #[.int .i64 x0.id]).cell 0)
          clear Ov hx0 hlen
          go_wp2_with (first
            | (at_builtin
               refine wp_app1 usI zI_one rfl (.tmp 29) (.tmp 36) rfl (base := w1.heap.size) (xs := gs.map (·.id) ++ (ts.take k2).map (·.id)) (y := x0.id) (by exact OA.out) rfl (by
                 intro i hi
                 match i, hi with
                 | 0, _ => exact HZ.out) (by rw [HL.out]; omega) (by rw [HL.out]; simp only [maxLen]; omega) (by exact KA.out.size) ?_
               intro v5 w5 o5 k5 p5
               have O5 := hid o5
               have K5 := hid (KA.out.grown k5 fun i hi => .inr (OA.out.blk hi).1)
               clear o5 k5 p5))
          go_roundw
          case rel => exact ⟨k2 + 1, by omega, by go_num, hid (by rw [HS.out, List.map_append, ← List.append_assoc]; exact O5.out), K5⟩
          case measure => simp [vI]; omega
        · have hkk : k2 = m := by omega
          subst hkk
          have hng2 : ¬ (k2 : Int) < (k2 : Int) := by omega
          go_wp2
          go_ret
          have h1 := HO2.out
          rw [List.take_of_length_le (by rw [HM.out]; omega)] at h1
          exact ⟨_, rfl, h1.lower K1.out.size, K1.out.trans KW2.out⟩
set_option maxRecDepth 100000 in
set_option maxHeartbeats 4000000 in
theorem rodd_any (h : Sce w P v gs ts) (hl : gs.length ≤ 1000000) (hlt : ts.length ≤ 1000000) :
    Calls Tryz.prog 48 #[v] w fun e w' => e = .returned (.bool (gs.any wrongG || ts.any wrongT)) ∧ Kp No w w' := by
  obtain ⟨vg, vt, rfl, hg, ht⟩ := h
  have k1 := (Kp.refl No w).alloc (.cells #[vg, vt] 25)
  have b1 := Blk.new w 25 #[vg, vt]
  have z1 := World.size_alloc w (.cells #[vg, vt] 25)
  obtain ⟨w1, hw1⟩ : ∃ w1, w.alloc (.cells #[vg, vt] 25) = w1 := ⟨_, rfl⟩
  rw [hw1] at k1 b1 z1
  have K1 := hid k1
  have B1 := hid b1
  have SC := hid (show Sce w1 P (.agg #[vg, vt]) gs ts from ⟨vg, vt, rfl, hg.kp0 k1, ht.kp0 k1⟩)
  obtain ⟨A, c, rfl, hx1, hx2, _⟩ := id hg
  obtain ⟨A2, c2, rfl, hx3, hx4, _⟩ := id ht
  have HG := hid (hg.kp0 k1)
  have HT := hid (ht.kp0 k1)
  obtain ⟨n, hn⟩ : ∃ n, gs.length = n := ⟨_, rfl⟩
  obtain ⟨m, hm⟩ : ∃ m, ts.length = m := ⟨_, rfl⟩
  rw [hn] at HG hl b1 B1 hw1 SC ⊢
  rw [hm] at HT B1 hw1 b1 SC ⊢
  have HN := hid hn
  have HM := hid hm
  have s0 := b1.cell 0
  have s1 := b1.cell 1
  simp only [List.getElem?_toArray, List.getElem?_cons_zero, List.getElem?_cons_succ] at s0 s1
  rw [hm] at hlt
  obtain ⟨r, hr⟩ : ∃ r, (gs.any wrongG || ts.any wrongT) = r := ⟨_, rfl⟩
  rw [hr]
  have HR := hid hr
  clear k1 b1 hg ht hn hm hx1 hx2 hx3 hx4 SC hr
  go_enter Tryz.func48, Tryz.ntmps48
  go_upto_region 1 with fail
  clear hw1
  go_wp2_with fail
  go_loopw [3] (fun i wr => ∃ k : Nat, k ≤ n ∧ i = .int .i64 (k : Int) ∧ Hid (∀ y ∈ gs.take k, wrongG y = false) ∧ Hid (Kp No w1 wr)) (fun i _ => n - (vI i).toNat)
  case atStart => exact ⟨0, Nat.zero_le _, rfl, hid (by simp), hid (Kp.refl _ _)⟩
  case round =>
    obtain ⟨k, hk, rfl, HX, KW⟩ := hrel
    have Bw := B1.out.kp0 KW.out
    have s0 := Bw.cell 0
    have s1 := Bw.cell 1
    simp only [List.getElem?_toArray, List.getElem?_cons_zero, List.getElem?_cons_succ] at s0 s1
    clear Bw
    by_cases hkn : k < n
    · have hkl : k < gs.length := by rw [HN.out]; exact hkn
      have Ov := HG.out.kp0 KW.out
      obtain ⟨b, off, rfl⟩ := Ov.there (by omega)
      have q0 := Ov.cell (j := k) (i := 0) (Kp.refl No _) hkl (by omega) rfl
      have q1 := Ov.cell (j := k) (i := 1) (Kp.refl No _) hkl (by omega) rfl
      have q2 := Ov.cell (j := k) (i := 2) (Kp.refl No _) hkl (by omega) rfl
      have q3 := Ov.cell (j := k) (i := 3) (Kp.refl No _) hkl (by omega) rfl
      have q4 := Ov.cell (j := k) (i := 4) (Kp.refl No _) hkl (by omega) rfl
      have q5 := Ov.cell (j := k) (i := 5) (Kp.refl No _) hkl (by omega) rfl
      have HS := hid (take_s gs hkl gs0)
      obtain ⟨x0, hx0⟩ : ∃ x0, gs.getD k gs0 = x0 := ⟨_, rfl⟩
      rw [hx0] at q0 q1 q2 q3 q4 q5 HS
      have HX0 := hid hx0
      simp only [gc, ge, List.getD_cons_zero, List.getD_cons_succ, Nat.add_zero] at q0 q1 q2 q3 q4 q5
      simp only [← Nat.add_assoc] at q1 q2 q3 q4 q5
      have HFIN := hid (fun (e : wrongG x0 = true) => show r = true by
        rw [← HR.out, Bool.or_eq_true]
        refine .inl (List.any_eq_true.2 ⟨x0, ?_, e⟩)
        rw [← hx0]
        simp [List.getD, hkl])
      have hg1 : (k : Int) < (n : Int) := by omega
      have hwk := wrapI (x := (k : Int) + 1) (by unfold I64; omega)
      clear Ov hx0 hkl
      go_upto_region 5 with fail
      have kA := KW.out.alloc (.cells #[.int .i64 x0.id, .int .i64 x0.par, .int .i64 x0.wt, .int .i64 x0.pd, .int .i64 x0.qt, .int .i64 x0.us] 45)
      have zA := Blk.new wr 45 #[.int .i64 x0.id, .int .i64 x0.par, .int .i64 x0.wt, .int .i64 x0.pd, .int .i64 x0.qt, .int .i64 x0.us]
      obtain ⟨wa, hwa⟩ : ∃ wa, wr.alloc (.cells #[.int .i64 x0.id, .int .i64 x0.par, .int .i64 x0.wt, .int .i64 x0.pd, .int .i64 x0.qt, .int .i64 x0.us] 45) = wa := ⟨_, rfl⟩
      rw [hwa] at kA zA ⊢
      have KA := hid kA
      have ZA := hid zA
      have y0 := zA.cell 0
      have y1 := zA.cell 1
      have y2 := zA.cell 2
      have y3 := zA.cell 3
      have y4 := zA.cell 4
      have y5 := zA.cell 5
      simp only [List.getElem?_toArray, List.getElem?_cons_zero, List.getElem?_cons_succ] at y0 y1 y2 y3 y4 y5
      clear kA zA hwa q0 q1 q2 q3 q4 q5
      obtain ⟨rb, hrb⟩ : ∃ rb, decide (Rb x0.pd x0.qt x0.us) = rb := ⟨_, rfl⟩
      have HRB := hid hrb
      go_upto_region 6 with (first
        | (go_at_call 89
           refine (refright_any x0.pd x0.qt x0.us _).mono ?_
           rintro e w4 ⟨rfl, k4⟩
           rw [hrb]
           have K4 := hid (KA.out.trans k4)
           have Z4 := ZA.out.kp0 k4
           clear y0 y1 y2 y3 y4 y5
           have y0 := Z4.cell 0
           have y1 := Z4.cell 1
           have y2 := Z4.cell 2
           have y3 := Z4.cell 3
           have y4 := Z4.cell 4
           have y5 := Z4.cell 5
           simp only [List.getElem?_toArray, List.getElem?_cons_zero, List.getElem?_cons_succ] at y0 y1 y2 y3 y4 y5
           clear k4 Z4))
      clear hrb
      by_cases c0 : x0.id < 1
      · have e0 := decide_eq_true c0
        have HW := hid (show wrongG x0 = true by unfold wrongG; simp [numB]; omega)
        go_wp2_with fail
        go_ret
        exact ⟨by rw [HFIN.out HW.out]; try rfl, K1.out.trans K4.out⟩
      have e0 := decide_eq_false c0
      by_cases c1 : 1048576 < x0.id
      · have e1 := decide_eq_true c1
        have HW := hid (show wrongG x0 = true by unfold wrongG; simp [numB]; omega)
        go_wp2_with fail
        go_ret
        exact ⟨by rw [HFIN.out HW.out]; try rfl, K1.out.trans K4.out⟩
      have e1 := decide_eq_false c1
      by_cases c2 : x0.wt < 1
      · have e2 := decide_eq_true c2
        have HW := hid (show wrongG x0 = true by unfold wrongG; simp [numB]; omega)
        go_wp2_with fail
        go_ret
        exact ⟨by rw [HFIN.out HW.out]; try rfl, K1.out.trans K4.out⟩
      have e2 := decide_eq_false c2
      by_cases c3 : 1048576 < x0.wt
      · have e3 := decide_eq_true c3
        have HW := hid (show wrongG x0 = true by unfold wrongG; simp [numB]; omega)
        go_wp2_with fail
        go_ret
        exact ⟨by rw [HFIN.out HW.out]; try rfl, K1.out.trans K4.out⟩
      have e3 := decide_eq_false c3
      cases rb
      · have HW := hid (show wrongG x0 = true by unfold wrongG; rw [HRB.out]; simp)
        go_wp2_with fail
        go_ret
        exact ⟨by rw [HFIN.out HW.out]; try rfl, K1.out.trans K4.out⟩
      · have HW := hid (show wrongG x0 = false by unfold wrongG; rw [HRB.out]; simp [numB]; omega)
        go_wp2_with fail
        go_roundw
        case rel => exact ⟨k + 1, by omega, by go_num, hid (by
          intro y hy
          rw [HS.out, List.mem_append] at hy
          rcases hy with hy | hy
          · exact HX.out y hy
          · rw [List.mem_singleton.1 hy]
            exact HW.out), K4⟩
        case measure => simp [vI]; omega
    · have hkk : k = n := by omega
      subst hkk
      have hng : ¬ (k : Int) < (k : Int) := by omega
      have hx := HX.out
      rw [List.take_of_length_le (by rw [HN.out]; omega)] at hx
      have HGN := hid (show gs.any wrongG = false by rw [List.any_eq_false]; exact fun y hy => by rw [hx y hy]; simp)
      clear hx HX HG
      go_wp2_with fail
      go_loopw [6] (fun i wr => ∃ k : Nat, k ≤ m ∧ i = .int .i64 (k : Int) ∧ Hid (∀ y ∈ ts.take k, wrongT y = false) ∧ Hid (Kp No w1 wr)) (fun i _ => m - (vI i).toNat)
      case atStart => exact ⟨0, Nat.zero_le _, rfl, hid (by simp), KW⟩
      case round =>
        obtain ⟨k2, hk2, rfl, HX, KW2⟩ := hrel
        clear s0 s1
        have Bw := B1.out.kp0 KW2.out
        have s0 := Bw.cell 0
        have s1 := Bw.cell 1
        simp only [List.getElem?_toArray, List.getElem?_cons_zero, List.getElem?_cons_succ] at s0 s1
        clear Bw
        by_cases hkn2 : k2 < m
        · have hkl : k2 < ts.length := by rw [HM.out]; exact hkn2
          have Ov := HT.out.kp0 KW2.out
          obtain ⟨b, off, rfl⟩ := Ov.there (by omega)
          have q0 := Ov.cell (j := k2) (i := 0) (Kp.refl No _) hkl (by omega) rfl
          have q1 := Ov.cell (j := k2) (i := 1) (Kp.refl No _) hkl (by omega) rfl
          have q2 := Ov.cell (j := k2) (i := 2) (Kp.refl No _) hkl (by omega) rfl
          have q3 := Ov.cell (j := k2) (i := 3) (Kp.refl No _) hkl (by omega) rfl
          have q4 := Ov.cell (j := k2) (i := 4) (Kp.refl No _) hkl (by omega) rfl
          have q5 := Ov.cell (j := k2) (i := 5) (Kp.refl No _) hkl (by omega) rfl
          have q6 := Ov.cell (j := k2) (i := 6) (Kp.refl No _) hkl (by omega) rfl
          have q7 := Ov.cell (j := k2) (i := 7) (Kp.refl No _) hkl (by omega) rfl
          have HS := hid (take_s ts hkl ts0)
          obtain ⟨x0, hx0⟩ : ∃ x0, ts.getD k2 ts0 = x0 := ⟨_, rfl⟩
          rw [hx0] at q0 q1 q2 q3 q4 q5 q6 q7 HS
          have HX0 := hid hx0
          simp only [tc, te, List.getD_cons_zero, List.getD_cons_succ, Nat.add_zero] at q0 q1 q2 q3 q4 q5 q6 q7
          simp only [← Nat.add_assoc] at q1 q2 q3 q4 q5 q6 q7
          have HFIN := hid (fun (e : wrongT x0 = true) => show r = true by
            rw [← HR.out, Bool.or_eq_true]
            refine .inr (List.any_eq_true.2 ⟨x0, ?_, e⟩)
            rw [← hx0]
            simp [List.getD, hkl])
          have hg2 : (k2 : Int) < (m : Int) := by omega
          have hwk := wrapI (x := (k2 : Int) + 1) (by unfold I64; omega)
          clear Ov hx0 hkl
          go_upto_region 12 with fail
          have kA := KW2.out.alloc (.cells #[.int .i64 x0.id, .int .i64 x0.gr, .int .i64 x0.wt, .int .u64 x0.co, .bool x0.sl, .int .i64 x0.ra, .int .i64 x0.lv, .int .i64 x0.lr] 53)
          have zA := Blk.new wr 53 #[.int .i64 x0.id, .int .i64 x0.gr, .int .i64 x0.wt, .int .u64 x0.co, .bool x0.sl, .int .i64 x0.ra, .int .i64 x0.lv, .int .i64 x0.lr]
          obtain ⟨wa, hwa⟩ : ∃ wa, wr.alloc (.cells #[.int .i64 x0.id, .int .i64 x0.gr, .int .i64 x0.wt, .int .u64 x0.co, .bool x0.sl, .int .i64 x0.ra, .int .i64 x0.lv, .int .i64 x0.lr] 53) = wa := ⟨_, rfl⟩
          rw [hwa] at kA zA ⊢
          have KA := hid kA
          have ZA := hid zA
          have y0 := zA.cell 0
          have y1 := zA.cell 1
          have y2 := zA.cell 2
          have y3 := zA.cell 3
          have y4 := zA.cell 4
          have y5 := zA.cell 5
          have y6 := zA.cell 6
          have y7 := zA.cell 7
          simp only [List.getElem?_toArray, List.getElem?_cons_zero, List.getElem?_cons_succ] at y0 y1 y2 y3 y4 y5 y6 y7
          clear kA zA hwa q0 q1 q2 q3 q4 q5 q6 q7
          obtain ⟨rb, hrb⟩ : ∃ rb, pcan x0.lv x0.lr x0.wt = rb := ⟨_, rfl⟩
          have HRB := hid hrb
          go_upto_region 13 with (first
            | (go_at_call 90
               refine (prefright_any x0.lv x0.lr x0.wt _).mono ?_
               rintro e w4 ⟨rfl, k4⟩
               rw [hrb]
               have K4 := hid (KA.out.trans k4)
               have Z4 := ZA.out.kp0 k4
               clear y0 y1 y2 y3 y4 y5 y6 y7
               have y0 := Z4.cell 0
               have y1 := Z4.cell 1
               have y2 := Z4.cell 2
               have y3 := Z4.cell 3
               have y4 := Z4.cell 4
               have y5 := Z4.cell 5
               have y6 := Z4.cell 6
               have y7 := Z4.cell 7
               simp only [List.getElem?_toArray, List.getElem?_cons_zero, List.getElem?_cons_succ] at y0 y1 y2 y3 y4 y5 y6 y7
               clear k4 Z4))
          clear hrb
          by_cases c0 : x0.id < 1
          · have e0 := decide_eq_true c0
            have HW := hid (show wrongT x0 = true by unfold wrongT; simp [numB]; omega)
            go_wp2_with fail
            go_ret
            exact ⟨by rw [HFIN.out HW.out]; try rfl, K1.out.trans K4.out⟩
          have e0 := decide_eq_false c0
          by_cases c1 : 1048576 < x0.id
          · have e1 := decide_eq_true c1
            have HW := hid (show wrongT x0 = true by unfold wrongT; simp [numB]; omega)
            go_wp2_with fail
            go_ret
            exact ⟨by rw [HFIN.out HW.out]; try rfl, K1.out.trans K4.out⟩
          have e1 := decide_eq_false c1
          by_cases c2 : x0.wt < 1
          · have e2 := decide_eq_true c2
            have HW := hid (show wrongT x0 = true by unfold wrongT; simp [numB]; omega)
            go_wp2_with fail
            go_ret
            exact ⟨by rw [HFIN.out HW.out]; try rfl, K1.out.trans K4.out⟩
          have e2 := decide_eq_false c2
          by_cases c3 : 1048576 < x0.wt
          · have e3 := decide_eq_true c3
            have HW := hid (show wrongT x0 = true by unfold wrongT; simp [numB]; omega)
            go_wp2_with fail
            go_ret
            exact ⟨by rw [HFIN.out HW.out]; try rfl, K1.out.trans K4.out⟩
          have e3 := decide_eq_false c3
          by_cases c4 : x0.co = 0
          · have e4 : (x0.co == 0) = true := by simp [c4]
            have HW := hid (show wrongT x0 = true by unfold wrongT; simp [numB]; omega)
            go_wp2_with fail
            go_ret
            exact ⟨by rw [HFIN.out HW.out]; try rfl, K1.out.trans K4.out⟩
          have e4 : (x0.co == 0) = false := by simp [c4]
          by_cases c5 : x0.ra < 0
          · have e5 := decide_eq_true c5
            have HW := hid (show wrongT x0 = true by unfold wrongT; simp [numB]; omega)
            go_wp2_with fail
            go_ret
            exact ⟨by rw [HFIN.out HW.out]; try rfl, K1.out.trans K4.out⟩
          have e5 := decide_eq_false c5
          by_cases c6 : 1099511627776 < x0.ra
          · have e6 := decide_eq_true c6
            have HW := hid (show wrongT x0 = true by unfold wrongT; simp [numB]; omega)
            go_wp2_with fail
            go_ret
            exact ⟨by rw [HFIN.out HW.out]; try rfl, K1.out.trans K4.out⟩
          have e6 := decide_eq_false c6
          cases rb
          · have HW := hid (show wrongT x0 = true by unfold wrongT; rw [HRB.out]; simp)
            go_wp2_with fail
            go_ret
            exact ⟨by rw [HFIN.out HW.out]; try rfl, K1.out.trans K4.out⟩
          · have HW := hid (show wrongT x0 = false by unfold wrongT; rw [HRB.out]; simp [numB]; omega)
            go_wp2_with fail
            go_roundw
            case rel => exact ⟨k2 + 1, by omega, by go_num, hid (by
              intro y hy
              rw [HS.out, List.mem_append] at hy
              rcases hy with hy | hy
              · exact HX.out y hy
              · rw [List.mem_singleton.1 hy]
                exact HW.out), K4⟩
            case measure => simp [vI]; omega
        · have hkk : k2 = m := by omega
          subst hkk
          have hng2 : ¬ (k2 : Int) < (k2 : Int) := by omega
          have hx := HX.out
          rw [List.take_of_length_le (by rw [HM.out]; omega)] at hx
          have HRF := hid (show r = false by
            rw [← HR.out, HGN.out, Bool.false_or, List.any_eq_false]
            exact fun y hy => by rw [hx y hy]; simp)
          clear hx
          go_wp2_with fail
          go_ret
          exact ⟨by rw [HRF.out]; try rfl, K1.out.trans KW2.out⟩
end
end Go.Proofs.YtggmdgdgljlddaaGreatDoor
