/-
  Contracts of the document's Few and Same.
-/
import Derived.Test.YtggmdgdgljlddaaGreatDoorZIds
import Derived.BigRegion
namespace Go.Proofs.YtggmdgdgljlddaaGreatDoor
open Go.RowKit Go.Shelf

def few (gs : List GS) (ts : List TS) : Bool := decide (gs.length ≤ 30) && decide (ts.length ≤ 30)
set_option maxRecDepth 100000 in
theorem zfew_any {w : World} {P : Nat → Prop} {v : Value} {gs : List GS} {ts : List TS} (h : Sce w P v gs ts) :
    Calls Tryz.prog 6 #[v] w fun e w' => e = .returned (.bool (few gs ts)) ∧ Kp No w w' := by
  obtain ⟨vg, vt, rfl, hg, ht⟩ := h
  obtain ⟨A, c, rfl, _⟩ := hg
  obtain ⟨A2, c2, rfl, _⟩ := ht
  have K0 := hid ((Kp.refl No w).alloc (.cells #[.slice A gs.length c, .slice A2 ts.length c2] 25))
  obtain ⟨n, hn⟩ : ∃ n, gs.length = n := ⟨_, rfl⟩
  obtain ⟨m, hm⟩ : ∃ m, ts.length = m := ⟨_, rfl⟩
  have HR := hid (show few gs ts = (decide (n ≤ 30) && decide (m ≤ 30)) by unfold few; rw [hn, hm])
  rw [HR.out]
  rw [hn, hm] at K0
  rw [hn, hm]
  by_cases h1 : n ≤ 30
  · have h1' : (n : Int) ≤ 30 := by omega
    by_cases h2 : m ≤ 30
    · have h2' : (m : Int) ≤ 30 := by omega
      go_enter Tryz.func6, Tryz.ntmps6
      go_wp2_with fail
      go_ret
      exact ⟨by simp [h1, h2], K0.out⟩
    · have h2' : ¬ (m : Int) ≤ 30 := by omega
      go_enter Tryz.func6, Tryz.ntmps6
      go_wp2_with fail
      go_ret
      exact ⟨by simp, K0.out⟩
  · have h1' : ¬ (n : Int) ≤ 30 := by omega
    go_enter Tryz.func6, Tryz.ntmps6
    go_wp2_with fail
    go_ret
    exact ⟨by simp, K0.out⟩
theorem take_eq {α : Type} {xs ys : List α} {k : Nat} (d : α) (h : xs.take k = ys.take k) (hx : k < xs.length) (hy : k < ys.length) (e : xs.getD k d = ys.getD k d) : xs.take (k + 1) = ys.take (k + 1) := by
  rw [take_s xs hx d, take_s ys hy d, h, e]
set_option maxRecDepth 100000 in
set_option maxHeartbeats 2000000 in
theorem zsame_any {w : World} {P Q : Nat → Prop} {v u : Value} {gs gs' : List GS} {ts ts' : List TS} (h : Sce w P v gs ts) (h' : Sce w Q u gs' ts') :
    Calls Tryz.prog 13 #[v, u] w fun e w' => e = .returned (.bool (decide (gs = gs' ∧ ts = ts'))) ∧ Kp No w w' := by
  obtain ⟨vg, vt, rfl, hg, ht⟩ := h
  obtain ⟨ug, ut, rfl, hg', ht'⟩ := h'
  have k1 := (Kp.refl No w).alloc (.cells #[vg, vt] 25)
  have b1 := Blk.new w 25 #[vg, vt]
  have z1 := World.size_alloc w (.cells #[vg, vt] 25)
  obtain ⟨w1, hw1⟩ : ∃ w1, w.alloc (.cells #[vg, vt] 25) = w1 := ⟨_, rfl⟩
  rw [hw1] at k1 b1 z1
  have k2 := (Kp.refl No w1).alloc (.cells #[ug, ut] 25)
  have b2 := Blk.new w1 25 #[ug, ut]
  obtain ⟨w2, hw2⟩ : ∃ w2, w1.alloc (.cells #[ug, ut] 25) = w2 := ⟨_, rfl⟩
  rw [hw2] at k2 b2
  rw [z1] at b2
  have K2 := hid (k1.trans k2)
  have B1 := hid (b1.kp0 k2)
  have B2 := hid b2
  have HG := hid ((hg.kp0 k1).kp0 k2)
  have HT := hid ((ht.kp0 k1).kp0 k2)
  have HG' := hid ((hg'.kp0 k1).kp0 k2)
  have HT' := hid ((ht'.kp0 k1).kp0 k2)
  obtain ⟨A1, c1, rfl, p1, q1, _⟩ := hg
  obtain ⟨A2, c2, rfl, p2, q2, _⟩ := ht
  obtain ⟨A3, c3, rfl, p3, q3, _⟩ := hg'
  obtain ⟨A4, c4, rfl, p4, q4, _⟩ := ht'
  unfold maxLen at q1 q2
  obtain ⟨n, hn⟩ : ∃ n, gs.length = n := ⟨_, rfl⟩
  obtain ⟨m, hm⟩ : ∃ m, ts.length = m := ⟨_, rfl⟩
  obtain ⟨n', hn'⟩ : ∃ n', gs'.length = n' := ⟨_, rfl⟩
  obtain ⟨m', hm'⟩ : ∃ m', ts'.length = m' := ⟨_, rfl⟩
  rw [hn] at HG B1 hw1 p1 ⊢
  rw [hm] at HT B1 hw1 p2 ⊢
  rw [hn'] at HG' B2 hw2 ⊢
  rw [hm'] at HT' B2 hw2 ⊢
  have HN := hid hn
  have HM := hid hm
  have HN' := hid hn'
  have HM' := hid hm'
  obtain ⟨r, hr⟩ : ∃ r, decide (gs = gs' ∧ ts = ts') = r := ⟨_, rfl⟩
  rw [hr]
  have HR := hid hr
  have s0 := B1.out.cell 0
  have s1 := B1.out.cell 1
  have t0 := B2.out.cell 0
  have t1 := B2.out.cell 1
  simp only [List.getElem?_toArray, List.getElem?_cons_zero, List.getElem?_cons_succ] at s0 s1 t0 t1
  clear k1 k2 b1 b2 hn hm hn' hm' hr p3 p4 q3 q4
  by_cases e1 : n = n'
  · subst e1
    have e1' : ((n : Int) != (n : Int)) = false := by simp
    by_cases e2 : m = m'
    · subst e2
      have e2' : ((m : Int) != (m : Int)) = false := by simp
      go_enter Tryz.func13, Tryz.ntmps13
      go_upto_region 1 with fail
      clear hw1 hw2
      go_wp2_with fail
      go_loopw [5] (fun i wr => ∃ k : Nat, k ≤ n ∧ i = .int .i64 (k : Int) ∧ Hid (gs.take k = gs'.take k) ∧ Hid (Kp No w2 wr)) (fun i _ => n - (vI i).toNat)
      case atStart => exact ⟨0, Nat.zero_le _, rfl, hid (by simp), hid (Kp.refl _ _)⟩
      case round =>
        obtain ⟨k, hk, rfl, HE, KW⟩ := hrel
        have Bw := B1.out.kp0 KW.out
        have Cw := B2.out.kp0 KW.out
        have s0 := Bw.cell 0
        have s1 := Bw.cell 1
        have t0 := Cw.cell 0
        have t1 := Cw.cell 1
        simp only [List.getElem?_toArray, List.getElem?_cons_zero, List.getElem?_cons_succ] at s0 s1 t0 t1
        clear Bw Cw
        by_cases hkn : k < n
        · have hkl : k < gs.length := by rw [HN.out]; exact hkn
          have hkl' : k < gs'.length := by rw [HN'.out]; exact hkn
          have Ov := HG.out.kp0 KW.out
          have Ov' := HG'.out.kp0 KW.out
          obtain ⟨b, off, rfl⟩ := Ov.there (by omega)
          obtain ⟨b', off', rfl⟩ := Ov'.there (by omega)
          have q0 := Ov.cell (j := k) (i := 0) (Kp.refl No _) hkl (by omega) rfl
          have r0 := Ov'.cell (j := k) (i := 0) (Kp.refl No _) hkl' (by omega) rfl
          have q1 := Ov.cell (j := k) (i := 1) (Kp.refl No _) hkl (by omega) rfl
          have r1 := Ov'.cell (j := k) (i := 1) (Kp.refl No _) hkl' (by omega) rfl
          have q2 := Ov.cell (j := k) (i := 2) (Kp.refl No _) hkl (by omega) rfl
          have r2 := Ov'.cell (j := k) (i := 2) (Kp.refl No _) hkl' (by omega) rfl
          have q3 := Ov.cell (j := k) (i := 3) (Kp.refl No _) hkl (by omega) rfl
          have r3 := Ov'.cell (j := k) (i := 3) (Kp.refl No _) hkl' (by omega) rfl
          have q4 := Ov.cell (j := k) (i := 4) (Kp.refl No _) hkl (by omega) rfl
          have r4 := Ov'.cell (j := k) (i := 4) (Kp.refl No _) hkl' (by omega) rfl
          have q5 := Ov.cell (j := k) (i := 5) (Kp.refl No _) hkl (by omega) rfl
          have r5 := Ov'.cell (j := k) (i := 5) (Kp.refl No _) hkl' (by omega) rfl
          have HX := hid (take_eq gs0 HE.out hkl hkl')
          obtain ⟨x, hx⟩ : ∃ x, gs.getD k gs0 = x := ⟨_, rfl⟩
          obtain ⟨y, hy⟩ : ∃ y, gs'.getD k gs0 = y := ⟨_, rfl⟩
          have HXX := hid (fun (e : gs = gs') => show x = y by rw [← hx, ← hy, e])
          rw [hx, hy] at HX
          rw [hx] at q0 q1 q2 q3 q4 q5
          rw [hy] at r0 r1 r2 r3 r4 r5
          simp only [gc, ge, List.getD_cons_zero, List.getD_cons_succ, Nat.add_zero] at q0 q1 q2 q3 q4 q5 r0 r1 r2 r3 r4 r5
          simp only [← Nat.add_assoc] at q1 q2 q3 q4 q5 r1 r2 r3 r4 r5
          have hne := fun W => neqG_run x y W
          obtain ⟨bq, hbq⟩ : ∃ bq, eqG x y = bq := ⟨_, rfl⟩
          simp only [hbq, ge] at hne
          have HBQ := hid hbq
          have hg1 : (k : Int) < (n : Int) := by omega
          have hwk := wrapI (x := (k : Int) + 1) (by unfold I64; omega)
          clear Ov Ov' hx hy hbq
          cases bq
          · have HF := hid (show r = false by
              rw [← HR.out, decide_eq_false_iff_not]
              rintro ⟨e, _⟩
              have := HXX.out e
              have h2 := HBQ.out
              unfold eqG at h2
              simp [this] at h2)
            go_upto_region 6 with fail
            go_region
            all_goals (
              go_wp2_with fail
              go_ret
              exact ⟨by rw [HF.out]; rfl, (K2.out.trans KW.out).drew⟩)
          · have HXY := hid (show x = y by have h2 := HBQ.out; unfold eqG at h2; simpa using h2)
            go_upto_region 6 with fail
            go_region
            all_goals (
              go_wp2_with fail
              go_roundw
              case rel => exact ⟨k + 1, by omega, by go_num, hid (HX.out HXY.out), hid KW.out.drew⟩
              case measure => simp [vI]; omega)
        · have hkk : k = n := by omega
          subst hkk
          have hng : ¬ (k : Int) < (k : Int) := by omega
          have HGE := hid (show gs = gs' by
            have := HE.out
            rwa [List.take_of_length_le (by rw [HN.out]; omega), List.take_of_length_le (by rw [HN'.out]; omega)] at this)
          obtain ⟨wq, hwq⟩ : ∃ wq, wr = wq := ⟨_, rfl⟩
          subst hwq
          have K3 := KW
          clear HE HG HG' KW
          go_wp2_with fail
          go_loopw [6] (fun i wr => ∃ k : Nat, k ≤ m ∧ i = .int .i64 (k : Int) ∧ Hid (ts.take k = ts'.take k) ∧ Hid (Kp No w2 wr)) (fun i _ => m - (vI i).toNat)
          case atStart => exact ⟨0, Nat.zero_le _, rfl, hid (by simp), K3⟩
          case round =>
            obtain ⟨k2, hk2, rfl, HE, KW⟩ := hrel
            have Bw := B1.out.kp0 KW.out
            have Cw := B2.out.kp0 KW.out
            have s0 := Bw.cell 0
            have s1 := Bw.cell 1
            have t0 := Cw.cell 0
            have t1 := Cw.cell 1
            simp only [List.getElem?_toArray, List.getElem?_cons_zero, List.getElem?_cons_succ] at s0 s1 t0 t1
            clear Bw Cw
            by_cases hkn : k2 < m
            · have hkl : k2 < ts.length := by rw [HM.out]; exact hkn
              have hkl' : k2 < ts'.length := by rw [HM'.out]; exact hkn
              have Ov := HT.out.kp0 KW.out
              have Ov' := HT'.out.kp0 KW.out
              obtain ⟨b, off, rfl⟩ := Ov.there (by omega)
              obtain ⟨b', off', rfl⟩ := Ov'.there (by omega)
              have q0 := Ov.cell (j := k2) (i := 0) (Kp.refl No _) hkl (by omega) rfl
              have r0 := Ov'.cell (j := k2) (i := 0) (Kp.refl No _) hkl' (by omega) rfl
              have q1 := Ov.cell (j := k2) (i := 1) (Kp.refl No _) hkl (by omega) rfl
              have r1 := Ov'.cell (j := k2) (i := 1) (Kp.refl No _) hkl' (by omega) rfl
              have q2 := Ov.cell (j := k2) (i := 2) (Kp.refl No _) hkl (by omega) rfl
              have r2 := Ov'.cell (j := k2) (i := 2) (Kp.refl No _) hkl' (by omega) rfl
              have q3 := Ov.cell (j := k2) (i := 3) (Kp.refl No _) hkl (by omega) rfl
              have r3 := Ov'.cell (j := k2) (i := 3) (Kp.refl No _) hkl' (by omega) rfl
              have q4 := Ov.cell (j := k2) (i := 4) (Kp.refl No _) hkl (by omega) rfl
              have r4 := Ov'.cell (j := k2) (i := 4) (Kp.refl No _) hkl' (by omega) rfl
              have q5 := Ov.cell (j := k2) (i := 5) (Kp.refl No _) hkl (by omega) rfl
              have r5 := Ov'.cell (j := k2) (i := 5) (Kp.refl No _) hkl' (by omega) rfl
              have q6 := Ov.cell (j := k2) (i := 6) (Kp.refl No _) hkl (by omega) rfl
              have r6 := Ov'.cell (j := k2) (i := 6) (Kp.refl No _) hkl' (by omega) rfl
              have q7 := Ov.cell (j := k2) (i := 7) (Kp.refl No _) hkl (by omega) rfl
              have r7 := Ov'.cell (j := k2) (i := 7) (Kp.refl No _) hkl' (by omega) rfl
              have HX := hid (take_eq ts0 HE.out hkl hkl')
              obtain ⟨x, hx⟩ : ∃ x, ts.getD k2 ts0 = x := ⟨_, rfl⟩
              obtain ⟨y, hy⟩ : ∃ y, ts'.getD k2 ts0 = y := ⟨_, rfl⟩
              have HXX := hid (fun (e : ts = ts') => show x = y by rw [← hx, ← hy, e])
              rw [hx, hy] at HX
              rw [hx] at q0 q1 q2 q3 q4 q5 q6 q7
              rw [hy] at r0 r1 r2 r3 r4 r5 r6 r7
              simp only [tc, te, List.getD_cons_zero, List.getD_cons_succ, Nat.add_zero] at q0 q1 q2 q3 q4 q5 q6 q7 r0 r1 r2 r3 r4 r5 r6 r7
              simp only [← Nat.add_assoc] at q1 q2 q3 q4 q5 q6 q7 r1 r2 r3 r4 r5 r6 r7
              have hne := fun W => neqT_run x y W
              obtain ⟨bq, hbq⟩ : ∃ bq, eqT x y = bq := ⟨_, rfl⟩
              simp only [hbq, te] at hne
              have HBQ := hid hbq
              have hg1 : (k2 : Int) < (m : Int) := by omega
              have hwk := wrapI (x := (k2 : Int) + 1) (by unfold I64; omega)
              clear Ov Ov' hx hy hbq
              cases bq
              · have HF := hid (show r = false by
                  rw [← HR.out, decide_eq_false_iff_not]
                  rintro ⟨_, e⟩
                  have := HXX.out e
                  have h2 := HBQ.out
                  unfold eqT at h2
                  simp [this] at h2)
                go_upto_region 11 with fail
                go_region
                all_goals (
                  go_wp2_with fail
                  go_ret
                  exact ⟨by rw [HF.out]; rfl, (K2.out.trans KW.out).drew⟩)
              · have HXY := hid (show x = y by have h2 := HBQ.out; unfold eqT at h2; simpa using h2)
                go_upto_region 11 with fail
                go_region
                all_goals (
                  go_wp2_with fail
                  go_roundw
                  case rel => exact ⟨k2 + 1, by omega, by go_num, hid (HX.out HXY.out), hid KW.out.drew⟩
                  case measure => simp [vI]; omega)
            · have hkk : k2 = m := by omega
              subst hkk
              have hng2 : ¬ (k2 : Int) < (k2 : Int) := by omega
              have HTE := hid (show ts = ts' by
                have := HE.out
                rwa [List.take_of_length_le (by rw [HM.out]; omega), List.take_of_length_le (by rw [HM'.out]; omega)] at this)
              have HF := hid (show r = true by rw [← HR.out]; exact decide_eq_true ⟨HGE.out, HTE.out⟩)
              go_wp2_with fail
              go_ret
              exact ⟨by rw [HF.out]; rfl, K2.out.trans KW.out⟩
    · have e2' : ((m : Int) != (m' : Int)) = true := by rw [bne_iff_ne]; omega
      have HF := hid (show r = false by
        rw [← HR.out, decide_eq_false_iff_not]
        rintro ⟨_, e⟩
        exact e2 (by rw [← HM.out, ← HM'.out, e]))
      go_enter Tryz.func13, Tryz.ntmps13
      go_upto_region 1 with fail
      clear hw1 hw2
      go_wp2_with fail
      go_ret
      exact ⟨by rw [HF.out]; rfl, K2.out⟩
  · have e1' : ((n : Int) != (n' : Int)) = true := by rw [bne_iff_ne]; omega
    have HF := hid (show r = false by
      rw [← HR.out, decide_eq_false_iff_not]
      rintro ⟨e, _⟩
      exact e1 (by rw [← HN.out, ← HN'.out, e]))
    go_enter Tryz.func13, Tryz.ntmps13
    go_upto_region 1 with fail
    clear hw1 hw2
    go_wp2_with fail
    go_ret
    exact ⟨by rw [HF.out]; rfl, K2.out⟩
end Go.Proofs.YtggmdgdgljlddaaGreatDoor
