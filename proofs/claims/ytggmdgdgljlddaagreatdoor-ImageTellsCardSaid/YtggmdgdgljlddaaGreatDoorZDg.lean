/-
  Contract of the document's Check.
-/
import Derived.Test.YtggmdgdgljlddaaGreatDoorZDf
import Derived.Test.YtggmdgdgljlddaaGreatDoorTail
namespace Go.Proofs.YtggmdgdgljlddaaGreatDoor
open Go.RowKit Go.Shelf

theorem not_nd {l : List Int} {p k : Nat} (hp : p < k) (hk : k < l.length) (e : l.getD p 0 = l.getD k 0) : ¬ l.Nodup := fun h => by
  have hp2 : p < l.length := by omega
  have h1 : l[p] = l[k] := by simpa [List.getD, hp2, hk] using e
  have := (List.getElem_inj h).1 h1
  omega
theorem nd_snoc {l : List Int} {k : Nat} (hk : k < l.length) (h : (l.take k).Nodup) (hn : ∀ y ∈ l.take k, y ≠ l.getD k 0) : (l.take (k + 1)).Nodup := by
  rw [take_s l hk 0, List.nodup_append]
  exact ⟨h, by simp, fun a ha b hb e => hn a ha (by rw [e]; exact List.mem_singleton.1 hb)⟩
section
variable {w : World} {P : Nat → Prop} {v : Value} {gs : List GS} {ts : List TS}
theorem numB_bd {id wt : Int} (h : numB id wt = true) : 1 ≤ id ∧ id ≤ 1048576 := by
  simp only [numB, Bool.and_eq_true, decide_eq_true_eq] at h
  exact ⟨h.1.1.1, h.1.1.2⟩
theorem wrongG_bd {g : GS} (h : wrongG g = false) : 1 ≤ g.id ∧ g.id ≤ 1048576 := by
  simp only [wrongG, Bool.or_eq_false_iff, Bool.not_eq_false'] at h
  exact numB_bd h.1
theorem Rw.lt0 {α : Type} {n : Nat} {f : α → Nat → Value} {d : α} {P : Nat → Prop} {w : World} {xs : List α} {b o m c : Nat} (h : Rw n f d w P (.slice (some ⟨b, o, none⟩) m c) xs) (h0 : 0 < xs.length) : b < w.heap.size := by
  obtain ⟨A7, c7, e7, _, _, h7⟩ := h
  obtain ⟨b7, o7, e8, g8, _⟩ := h7 h0
  injection e7 with e7 _ _
  rw [e8] at e7
  injection e7 with e7
  injection e7 with e7 _ _
  rw [e7]
  exact g8
set_option maxRecDepth 100000 in
set_option maxHeartbeats 8000000 in
theorem rcheck_any (h : Sce w P v gs ts) :
    Calls Tryz.prog 17 #[v] w fun e w' => e = .returned (.int .i64 (checkS gs ts)) ∧ Kp No w w' := by
  obtain ⟨vg, vt, rfl, hg, ht⟩ := h
  have k1 := (Kp.refl No w).alloc (.cells #[vg, vt] 25)
  have b1 := Blk.new w 25 #[vg, vt]
  have z1 := World.size_alloc w (.cells #[vg, vt] 25)
  obtain ⟨w1, hw1⟩ : ∃ w1, w.alloc (.cells #[vg, vt] 25) = w1 := ⟨_, rfl⟩
  rw [hw1] at k1 b1 z1
  have K1 := hid k1
  have B1 := hid b1
  have SC := hid (show Sce w1 P (.agg #[vg, vt]) gs ts from ⟨vg, vt, rfl, hg.kp0 k1, ht.kp0 k1⟩)
  obtain ⟨A, c, rfl, hx1, hx2, _⟩ := id hg
  obtain ⟨A2, c2, rfl, hx3, hx4, _⟩ := id ht
  have HG := hid (hg.kp0 k1)
  have HT := hid (ht.kp0 k1)
  obtain ⟨n, hn⟩ : ∃ n, gs.length = n := ⟨_, rfl⟩
  obtain ⟨m, hm⟩ : ∃ m, ts.length = m := ⟨_, rfl⟩
  rw [hn] at HG b1 B1 hw1 SC ⊢
  rw [hm] at HT B1 hw1 b1 SC ⊢
  have HN := hid hn
  have HM := hid hm
  have s0 := b1.cell 0
  have s1 := b1.cell 1
  simp only [List.getElem?_toArray, List.getElem?_cons_zero, List.getElem?_cons_succ] at s0 s1
  obtain ⟨r, hr⟩ : ∃ r, checkS gs ts = r := ⟨_, rfl⟩
  rw [hr]
  by_cases hn0 : n = 0
  · subst hn0
    have hgs : gs = [] := List.eq_nil_of_length_eq_zero hn
    have HRr := hid (show r = 2 by rw [← hr, hgs]; rfl)
    clear k1 b1 hg ht hn hm hx1 hx2 hx3 hx4 hr hgs
    go_enter Tryz.func17, Tryz.ntmps17
    go_upto_region 1 with fail
    clear hw1
    go_wp2_with fail
    go_ret
    exact ⟨by rw [HRr.out]; try rfl, K1.out⟩
  have hnb : ((n : Int) == 0) = false := by rw [beq_eq_false_iff_ne]; omega
  obtain ⟨g0, gt, he⟩ : ∃ g0 gt, gs = g0 :: gt := by
    cases hgs : gs with
    | nil => rw [hgs] at hn; simp at hn; omega
    | cons a b => exact ⟨a, b, rfl⟩
  have hchk : r = if 4096 < gs.length ∨ 4096 < ts.length then 7 else if gs.any wrongG = true ∨ ts.any wrongT = true then 1 else if ¬ (idsOf gs ts).Nodup then 9 else if lostB g0 gt ts = true then 8 else if ordB gs ts = false then 5 else if 16 ≤ tallG gs then 10 else 0 := by
    rw [← hr, he, checkS_cons]
  have HE := hid he
  rw [hn, hm] at hchk
  clear k1 b1 hg ht hn hm hx1 hx2 hx3 hx4 hr he
  have HC := hid hchk
  clear hchk
  by_cases hb1 : 4096 < n
  · go_enter Tryz.func17, Tryz.ntmps17
    go_upto_region 1 with fail
    clear hw1
    have HRr := hid (show r = 7 by rw [HC.out]; rw [if_pos (.inl hb1)])
    go_wp2_with fail
    go_ret
    exact ⟨by rw [HRr.out]; try rfl, K1.out⟩
  have d1 := decide_eq_false hb1
  by_cases hb2 : 4096 < m
  · go_enter Tryz.func17, Tryz.ntmps17
    go_upto_region 1 with fail
    clear hw1
    have HRr := hid (show r = 7 by rw [HC.out]; rw [if_pos (.inr hb2)])
    go_wp2_with fail
    go_ret
    exact ⟨by rw [HRr.out]; try rfl, K1.out⟩
  have d2 := decide_eq_false hb2
  have hc2 := HC.out
  rw [if_neg (by omega)] at hc2
  have HC2 := hid hc2
  clear hc2 HC
  obtain ⟨od, hod⟩ : ∃ od, (gs.any wrongG || ts.any wrongT) = od := ⟨_, rfl⟩
  have HOD := hid (fun (W : World) (k : Kp No w1 W) => rodd_any (SC.out.kp0 k) (by rw [HN.out]; omega) (by rw [HM.out]; omega))
  rw [hod] at HOD
  have HODE := hid hod
  clear hod
  cases od
  rotate_left
  · have HRr := hid (show r = 1 by rw [HC2.out, if_pos (by have := HODE.out; rw [Bool.or_eq_true] at this; exact this)])
    go_enter Tryz.func17, Tryz.ntmps17
    go_upto_region 1 with fail
    clear hw1
    go_wp2_with (first
      | (go_at_call 48
         refine (HOD.out _ (Kp.refl _ _)).mono ?_
         rintro e w2 ⟨rfl, k2⟩
         have K2 := hid k2
         clear k2))
    go_ret
    exact ⟨by rw [HRr.out]; try rfl, K1.out.trans K2.out⟩
  have hod := HODE.out
  rw [Bool.or_eq_false_iff] at hod
  have hc3 := HC2.out
  rw [if_neg (by rw [hod.1, hod.2]; simp)] at hc3
  have HC3 := hid hc3
  have HBD := hid (fun g (hg : g ∈ gs) => wrongG_bd (by have := List.any_eq_false.1 hod.1 g hg; simpa using this))
  have HIDS := hid (fun (W : World) (k : Kp No w1 W) => rids_any (SC.out.kp0 k) (by rw [HN.out]; omega) (by rw [HM.out]; omega))
  obtain ⟨ids, hids⟩ : ∃ ids, idsOf gs ts = ids := ⟨_, rfl⟩
  rw [hids] at HIDS
  have HID := hid hids
  obtain ⟨li, hli⟩ : ∃ li, ids.length = li := ⟨_, rfl⟩
  have HLI := hid hli
  have hlib : li ≤ 8192 := by
    rw [← hli, ← hids]
    unfold idsOf
    rw [List.length_append, List.length_map, List.length_map, HN.out, HM.out]
    omega
  clear hod hc3 HC2 HODE hids hli
  have HNP := hid (show 0 < n by omega)
  go_enter Tryz.func17, Tryz.ntmps17
  go_upto_region 1 with fail
  clear hw1
  go_wp2_with (first
    | (go_at_call 48
       refine (HOD.out _ (Kp.refl _ _)).mono ?_
       rintro e w2 ⟨rfl, k2⟩
       have K2 := hid k2
       clear s0 s1
       have Bws0 := B1.out.kp0 k2
       have s0 := Bws0.cell 0
       have s1 := Bws0.cell 1
       simp only [List.getElem?_toArray, List.getElem?_cons_zero, List.getElem?_cons_succ] at s0 s1
       clear Bws0
       clear k2)
    | (go_at_call 49
       refine (HIDS.out _ K2.out).mono ?_
       rintro e w3 ⟨u, rfl, o3, k3⟩
       obtain ⟨A3, c3, rfl⟩ := o3.formN HLI.out
       have O3 := hid o3
       have K3' := hid (K2.out.trans k3)
       clear o3 k3))
  have HK03 := hid (K1.out.trans K3'.out)
  clear HOD HIDS s0 s1 d1 d2 hnb
  go_loopw [5] (fun i wr => ∃ k : Nat, k ≤ li ∧ i = .int .i64 (k : Int) ∧ Hid ((ids.take k).Nodup) ∧ Hid (Kp No w3 wr)) (fun i _ => li - (vI i).toNat)
  case atStart => exact ⟨0, Nat.zero_le _, rfl, hid (by simp), hid (Kp.refl _ _)⟩
  case round =>
    obtain ⟨k, hk, rfl, HND, KW⟩ := hrel
    by_cases hkn : k < li
    · have hg1 : (k : Int) < (li : Int) := by omega
      have hkl : k < ids.length := by rw [HLI.out]; exact hkn
      obtain ⟨wa, hwa⟩ : ∃ wa, wr = wa := ⟨_, rfl⟩
      rw [hwa] at KW ⊢
      clear hwa
      have OA := hid (O3.out.kp0 KW.out)
      go_wp2_with fail
      go_loopw [6] (fun jv wi => ∃ p : Nat, p ≤ k ∧ jv = .int .i64 (p : Int) ∧ Hid (∀ y ∈ ids.take p, y ≠ ids.getD k 0) ∧ Hid (Kp No wa wi)) (fun jv _ => k - (vI jv).toNat)
      case atStart => exact ⟨0, Nat.zero_le _, rfl, hid (by simp), hid (Kp.refl _ _)⟩
      case round =>
        obtain ⟨p, hp, rfl, HX, KI⟩ := hrel
        by_cases hpk : p < k
        · have hg2 : (p : Int) < (k : Int) := by omega
          have hg3 : (p : Int) < (li : Int) := by omega
          have hpl : p < ids.length := by omega
          have hwp := wrapI (x := (p : Int) + 1) (by unfold I64; omega)
          have oi := OA.out.kp0 KI.out
          obtain ⟨bi, c', he, _, _, _, _⟩ := oi.form2 (by omega)
          injection he with e1 e2 e3
          subst e1 e3
          clear e2
          have cp := oi.cellAt (d := (0 : Int)) (j := p) (i := 0) hpl (by omega)
          have ck := oi.cellAt (d := (0 : Int)) (j := k) (i := 0) hkl (by omega)
          simp only [zI, Nat.mul_one, Nat.add_zero] at cp ck
          obtain ⟨x, hx⟩ : ∃ x, ids.getD p 0 = x := ⟨_, rfl⟩
          obtain ⟨y, hy⟩ : ∃ y, ids.getD k 0 = y := ⟨_, rfl⟩
          rw [hx] at cp
          rw [hy] at ck
          have HX0 := hid hx
          have HY0 := hid hy
          have HPK := hid (And.intro hpk hkl)
          have HSP := hid (take_s ids hpl 0)
          have hp1 : p + 1 ≤ k := hpk
          clear oi hx hy
          by_cases e : x = y
          · have e1 : (x == y) = true := by simp [e]
            have HE2 := hid e
            clear e
            have HRr := hid (show r = 9 by rw [HC3.out, HID.out, if_pos (not_nd HPK.out.1 HPK.out.2 (by rw [HX0.out, HY0.out]; exact HE2.out))])
            go_upto_region 15 with fail
            go_quiet (fail)
            go_wp2_with fail
            go_ret
            exact ⟨by rw [HRr.out]; try rfl, HK03.out.trans (KW.out.trans (KI.out.drewN _))⟩
          · have e1 : (x == y) = false := by simp [e]
            have HE2 := hid e
            clear e
            have HX2 := hid (show ∀ z ∈ ids.take (p + 1), z ≠ ids.getD k 0 by
              intro z hz
              rw [HSP.out, List.mem_append] at hz
              rcases hz with hz | hz
              · exact HX.out z hz
              · rw [List.mem_singleton.1 hz, HX0.out, HY0.out]
                exact HE2.out)
            go_upto_region 15 with fail
            go_quiet (fail)
            go_wp2_with fail
            go_roundw
            case rel => exact ⟨p + 1, hp1, by go_num, HX2, hid (KI.out.drewN _)⟩
            case measure => simp [vI]; omega
        · have hpp : p = k := by omega
          subst hpp
          have hng : ¬ (p : Int) < (p : Int) := by omega
          have hwp := wrapI (x := (p : Int) + 1) (by unfold I64; omega)
          have HN2 := hid (nd_snoc hkl HND.out HX.out)
          go_wp2_with fail
          go_roundw
          case rel => exact ⟨p + 1, by omega, by go_num, HN2, hid (KW.out.trans KI.out)⟩
          case measure => simp [vI]; omega
    · have hkk : k = li := by omega
      subst hkk
      have hng : ¬ (k : Int) < (k : Int) := by omega
      have hnd := HND.out
      rw [List.take_of_length_le (by rw [HLI.out]; omega)] at hnd
      have hc4 := HC3.out
      rw [HID.out, if_neg (fun hh => hh hnd)] at hc4
      have HC4 := hid hc4
      rw [← HID.out] at hnd
      have HND2 := hid (List.nodup_append.1 hnd)
      obtain ⟨wb, hwb⟩ : ∃ wb, wr = wb := ⟨_, rfl⟩
      rw [hwb] at KW ⊢
      clear hwb hnd hc4 HC3 HND
      have KB := hid (K3'.out.trans KW.out)
      have hnp := HNP.out
      have Bws0 := B1.out.kp0 KB.out
      have s0 := Bws0.cell 0
      have s1 := Bws0.cell 1
      simp only [List.getElem?_toArray, List.getElem?_cons_zero, List.getElem?_cons_succ] at s0 s1
      clear Bws0
      have rg := HG.out.kp0 KB.out
      obtain ⟨b, off, rfl⟩ := rg.there (by rw [HN.out]; exact hnp)
      have p1 := rg.cell (j := 0) (i := 1) (Kp.refl No _) (by rw [HN.out]; exact hnp) (by omega) rfl
      rw [show gs.getD 0 gs0 = g0 by rw [HE.out]; rfl] at p1
      simp only [gc, ge, List.getD_cons_zero, List.getD_cons_succ, Nat.zero_mul, Nat.zero_add] at p1
      have hnp2 : (0 : Int) < (n : Int) := by omega
      have HLB := hid (show lostB g0 gt ts = (g0.par != 0 || gs.any (fun g => g.par != 0 && !decide (g.par ∈ gs.map (·.id))) || ts.any fun t => !decide (t.gr ∈ gs.map (·.id))) by rw [HE.out]; rfl)
      clear rg
      by_cases e0 : g0.par = 0
      rotate_left
      · have e1 : (g0.par != 0) = true := by simp [e0]
        have HRr := hid (show r = 8 by rw [HC4.out, if_pos (by rw [HLB.out, e1]; rfl)])
        clear e0
        go_wp2_with fail
        go_ret
        exact ⟨by rw [HRr.out]; try rfl, K1.out.trans KB.out⟩
      have e1 : (g0.par != 0) = false := by simp [e0]
      have HP0 := hid e0
      have HP1 := hid e1
      clear e0
      have HGR := hid (fun (W : World) (x : Int) (k : Kp No w1 W) => rgroup_any (SC.out.kp0 k) (by rw [HN.out]; omega) x)
      have hn1 : 1 ≤ n := hnp
      go_wp2_with fail
      clear s0 s1 p1 e1
      go_loopw [7] (fun i wr => ∃ k : Nat, 1 ≤ k ∧ k ≤ n ∧ i = .int .i64 (k : Int) ∧ Hid (∀ y ∈ gs.take k, ¬ (y.par ≠ 0 ∧ y.par ∉ gs.map (·.id))) ∧ Hid (Kp No w1 wr)) (fun i _ => n - (vI i).toNat)
      case atStart => exact ⟨1, Nat.le_refl _, hn1, rfl, hid (by
        rw [HE.out]
        intro y hy
        rw [show (g0 :: gt).take 1 = [g0] from rfl] at hy
        rw [List.mem_singleton.1 hy]
        exact fun hh => hh.1 HP0.out), KB⟩
      case round =>
        obtain ⟨k2, hk1, hk2, rfl, HX, KW2⟩ := hrel
        have Bws0 := B1.out.kp0 KW2.out
        have s0 := Bws0.cell 0
        have s1 := Bws0.cell 1
        simp only [List.getElem?_toArray, List.getElem?_cons_zero, List.getElem?_cons_succ] at s0 s1
        clear Bws0
        by_cases hkn2 : k2 < n
        · have hkl : k2 < gs.length := by rw [HN.out]; exact hkn2
          have hg1 : (k2 : Int) < (n : Int) := by omega
          have hwk := wrapI (x := (k2 : Int) + 1) (by unfold I64; omega)
          have rg := HG.out.kp0 KW2.out
          have q1 := rg.cell (j := k2) (i := 1) (Kp.refl No _) hkl (by omega) rfl
          have HS := hid (take_s gs hkl gs0)
          obtain ⟨x0, hx0⟩ : ∃ x0, gs.getD k2 gs0 = x0 := ⟨_, rfl⟩
          rw [hx0] at q1 HS
          have HXM := hid (show x0 ∈ gs by rw [← hx0]; simp [List.getD, hkl])
          simp only [gc, ge, List.getD_cons_zero, List.getD_cons_succ] at q1
          simp only [← Nat.add_assoc] at q1
          have HBL := hid (rg.lt0 (by omega))
          clear rg hx0
          by_cases e : x0.par = 0
          · have e1 : (x0.par != 0) = false := by simp [e]
            have HX2 := hid (show ∀ y ∈ gs.take (k2 + 1), ¬ (y.par ≠ 0 ∧ y.par ∉ gs.map (·.id)) by
              intro y hy
              rw [HS.out, List.mem_append] at hy
              rcases hy with hy | hy
              · exact HX.out y hy
              · rw [List.mem_singleton.1 hy]
                exact fun hh => hh.1 e)
            clear e
            go_upto_region 22 with fail
            go_quiet (fail)
            go_wp2_with fail
            go_roundw
            case rel => exact ⟨k2 + 1, by omega, by omega, by go_num, HX2, hid (KW2.out.drewN _)⟩
            case measure => simp [vI]; omega
          · have e1 : (x0.par != 0) = true := by simp [e]
            have HEP := hid e
            clear e
            obtain ⟨gi, hgi⟩ : ∃ gi, grpI gs x0.par = gi := ⟨_, rfl⟩
            have HGI := hid hgi
            have HG2 := hid (fun (W : World) (k : Kp No w1 W) => HGR.out W x0.par k)
            rw [hgi] at HG2
            clear hgi
            have SZ := hid (show wr.cell? ⟨w.heap.size, 0, none⟩ = some (.slice (some ⟨b, off, none⟩) n c) ∧ wr.cell? ⟨w.heap.size, 1, none⟩ = some (.slice A2 m c2) ∧ wr.cell? ⟨b, off + k2 * 6 + 1, none⟩ = some (.int .i64 x0.par) ∧ K3 w1 ⟨w.heap.size, 0, none⟩ ⟨w.heap.size, 1, none⟩ ⟨b, off + k2 * 6 + 1, none⟩ wr from
              ⟨s0, s1, q1, by show w.heap.size < wr.heap.size; have := KW2.out.size; omega, by show w.heap.size < wr.heap.size; have := KW2.out.size; omega, HBL.out, KW2.out⟩)
            go_upto_region 22 with fail
            by_cases e2 : gi < 0
            · have d3 : decide (gi < 0) = true := by simp [e2]
              have HRr := hid (show r = 8 by
                rw [HC4.out, if_pos]
                rw [HLB.out]
                have : gs.any (fun g => g.par != 0 && !decide (g.par ∈ gs.map (·.id))) = true := List.any_eq_true.2 ⟨x0, HXM.out, by
                  rw [e1, decide_eq_false (grp_lt_mem.1 (by rw [HGI.out]; exact e2))]
                  rfl⟩
                rw [this]
                simp)
              clear e2
              go_region_held3 (fun w' => w'.cell? ⟨w.heap.size, 0, none⟩ = some (.slice (some ⟨b, off, none⟩) n c) ∧ w'.cell? ⟨w.heap.size, 1, none⟩ = some (.slice A2 m c2) ∧ w'.cell? ⟨b, off + k2 * 6 + 1, none⟩ = some (.int .i64 x0.par) ∧ K3 w1 ⟨w.heap.size, 0, none⟩ ⟨w.heap.size, 1, none⟩ ⟨b, off + k2 * 6 + 1, none⟩ w')
                (first | exact SZ.out | exact K3.step SZ.out (Kp.refl _ _).drew | exact K3.step (by assumption) (by assumption) | assumption)
                (first
                  | (go_at_call 50
                     with_reducible refine (HG2.out _ (K3.kp (by assumption))).mono ?_
                     rintro e w6 ⟨rfl, k6⟩
                     have K6 := hid ((KW2.out.drew).trans k6)))
              all_goals (
                (try go_wp2_with fail)
                go_ret
                exact ⟨by rw [HRr.out]; try rfl, K1.out.trans K6.out⟩)
            · have d3 : decide (gi < 0) = false := by simp; omega
              have HX2 := hid (show ∀ y ∈ gs.take (k2 + 1), ¬ (y.par ≠ 0 ∧ y.par ∉ gs.map (·.id)) by
                intro y hy
                rw [HS.out, List.mem_append] at hy
                rcases hy with hy | hy
                · exact HX.out y hy
                · rw [List.mem_singleton.1 hy]
                  exact fun hh => e2 (by rw [← HGI.out]; exact grp_lt_mem.2 hh.2))
              clear e2
              go_region_held3 (fun w' => w'.cell? ⟨w.heap.size, 0, none⟩ = some (.slice (some ⟨b, off, none⟩) n c) ∧ w'.cell? ⟨w.heap.size, 1, none⟩ = some (.slice A2 m c2) ∧ w'.cell? ⟨b, off + k2 * 6 + 1, none⟩ = some (.int .i64 x0.par) ∧ K3 w1 ⟨w.heap.size, 0, none⟩ ⟨w.heap.size, 1, none⟩ ⟨b, off + k2 * 6 + 1, none⟩ w')
                (first | exact SZ.out | exact K3.step SZ.out (Kp.refl _ _).drew | exact K3.step (by assumption) (by assumption) | assumption)
                (first
                  | (go_at_call 50
                     with_reducible refine (HG2.out _ (K3.kp (by assumption))).mono ?_
                     rintro e w6 ⟨rfl, k6⟩
                     have K6 := hid ((KW2.out.drew).trans k6)))
              all_goals (
                (try go_wp2_with fail)
                go_roundw
                case rel => exact ⟨k2 + 1, by omega, by omega, by go_num, HX2, K6⟩
                case measure => simp [vI]; omega)
        · have hkk2 : k2 = n := by omega
          subst hkk2
          have hng2 : ¬ (k2 : Int) < (k2 : Int) := by omega
          have hx := HX.out
          rw [List.take_of_length_le (by rw [HN.out]; omega)] at hx
          have HGL := hid (show gs.any (fun g => g.par != 0 && !decide (g.par ∈ gs.map (·.id))) = false by
            rw [List.any_eq_false]
            intro y hy
            have := hx y hy
            simp only [Bool.and_eq_true, bne_iff_ne, ne_eq, Bool.not_eq_true', decide_eq_false_iff_not]
            exact this)
          clear hx HX
          go_wp2_with fail
          clear s0 s1
          go_loopw [8] (fun i wr => ∃ k : Nat, k ≤ m ∧ i = .int .i64 (k : Int) ∧ Hid (∀ y ∈ ts.take k, y.gr ∈ gs.map (·.id)) ∧ Hid (Kp No w1 wr)) (fun i _ => m - (vI i).toNat)
          case atStart => exact ⟨0, Nat.zero_le _, rfl, hid (by simp), KW2⟩
          case round =>
            obtain ⟨k4, hk4, rfl, HX, KW4⟩ := hrel
            have Bws0 := B1.out.kp0 KW4.out
            have s0 := Bws0.cell 0
            have s1 := Bws0.cell 1
            simp only [List.getElem?_toArray, List.getElem?_cons_zero, List.getElem?_cons_succ] at s0 s1
            clear Bws0
            by_cases hkn4 : k4 < m
            · have hkl : k4 < ts.length := by rw [HM.out]; exact hkn4
              have hg1 : (k4 : Int) < (m : Int) := by omega
              have hwk := wrapI (x := (k4 : Int) + 1) (by unfold I64; omega)
              have rt := HT.out.kp0 KW4.out
              obtain ⟨bt, offt, rfl⟩ := rt.there (by omega)
              have q1 := rt.cell (j := k4) (i := 1) (Kp.refl No _) hkl (by omega) rfl
              have HS := hid (take_s ts hkl ts0)
              obtain ⟨x0, hx0⟩ : ∃ x0, ts.getD k4 ts0 = x0 := ⟨_, rfl⟩
              rw [hx0] at q1 HS
              have HXM := hid (show x0 ∈ ts by rw [← hx0]; simp [List.getD, hkl])
              simp only [tc, te, List.getD_cons_zero, List.getD_cons_succ] at q1
              simp only [← Nat.add_assoc] at q1
              have HBL := hid (rt.lt0 (by omega))
              clear rt hx0
              obtain ⟨gi, hgi⟩ : ∃ gi, grpI gs x0.gr = gi := ⟨_, rfl⟩
              have HGI := hid hgi
              have HG2 := hid (fun (W : World) (k : Kp No w1 W) => HGR.out W x0.gr k)
              rw [hgi] at HG2
              clear hgi
              have SZ := hid (show wr.cell? ⟨w.heap.size, 0, none⟩ = some (.slice (some ⟨b, off, none⟩) k2 c) ∧ wr.cell? ⟨w.heap.size, 1, none⟩ = some (.slice (some ⟨bt, offt, none⟩) m c2) ∧ wr.cell? ⟨bt, offt + k4 * 8 + 1, none⟩ = some (.int .i64 x0.gr) ∧ K3 w1 ⟨w.heap.size, 0, none⟩ ⟨w.heap.size, 1, none⟩ ⟨bt, offt + k4 * 8 + 1, none⟩ wr from
                ⟨s0, s1, q1, by show w.heap.size < wr.heap.size; have := KW4.out.size; omega, by show w.heap.size < wr.heap.size; have := KW4.out.size; omega, HBL.out, KW4.out⟩)
              go_upto_region 27 with fail
              by_cases e2 : gi < 0
              · have d3 : decide (gi < 0) = true := by simp [e2]
                have HRr := hid (show r = 8 by
                  rw [HC4.out, if_pos]
                  rw [HLB.out]
                  have : ts.any (fun t => !decide (t.gr ∈ gs.map (·.id))) = true := List.any_eq_true.2 ⟨x0, HXM.out, by
                    rw [decide_eq_false (grp_lt_mem.1 (by rw [HGI.out]; exact e2))]
                    rfl⟩
                  rw [this]
                  simp)
                clear e2
                go_region_held3 (fun w' => w'.cell? ⟨w.heap.size, 0, none⟩ = some (.slice (some ⟨b, off, none⟩) k2 c) ∧ w'.cell? ⟨w.heap.size, 1, none⟩ = some (.slice (some ⟨bt, offt, none⟩) m c2) ∧ w'.cell? ⟨bt, offt + k4 * 8 + 1, none⟩ = some (.int .i64 x0.gr) ∧ K3 w1 ⟨w.heap.size, 0, none⟩ ⟨w.heap.size, 1, none⟩ ⟨bt, offt + k4 * 8 + 1, none⟩ w')
                  (first | exact SZ.out | exact K3.step SZ.out (Kp.refl _ _).drew | exact K3.step (by assumption) (by assumption) | assumption)
                  (first
                    | (go_at_call 50
                       with_reducible refine (HG2.out _ (K3.kp (by assumption))).mono ?_
                       rintro e w6 ⟨rfl, k6⟩
                       have K6 := hid ((KW4.out.drew).trans k6)))
                all_goals (
                  (try go_wp2_with fail)
                  go_ret
                  exact ⟨by rw [HRr.out]; try rfl, K1.out.trans K6.out⟩)
              · have d3 : decide (gi < 0) = false := by simp; omega
                have HX2 := hid (show ∀ y ∈ ts.take (k4 + 1), y.gr ∈ gs.map (·.id) by
                  intro y hy
                  rw [HS.out, List.mem_append] at hy
                  rcases hy with hy | hy
                  · exact HX.out y hy
                  · rw [List.mem_singleton.1 hy]
                    exact Decidable.byContradiction fun hh => e2 (by rw [← HGI.out]; exact grp_lt_mem.2 hh))
                clear e2
                go_region_held3 (fun w' => w'.cell? ⟨w.heap.size, 0, none⟩ = some (.slice (some ⟨b, off, none⟩) k2 c) ∧ w'.cell? ⟨w.heap.size, 1, none⟩ = some (.slice (some ⟨bt, offt, none⟩) m c2) ∧ w'.cell? ⟨bt, offt + k4 * 8 + 1, none⟩ = some (.int .i64 x0.gr) ∧ K3 w1 ⟨w.heap.size, 0, none⟩ ⟨w.heap.size, 1, none⟩ ⟨bt, offt + k4 * 8 + 1, none⟩ w')
                  (first | exact SZ.out | exact K3.step SZ.out (Kp.refl _ _).drew | exact K3.step (by assumption) (by assumption) | assumption)
                  (first
                    | (go_at_call 50
                       with_reducible refine (HG2.out _ (K3.kp (by assumption))).mono ?_
                       rintro e w6 ⟨rfl, k6⟩
                       have K6 := hid ((KW4.out.drew).trans k6)))
                all_goals (
                  (try go_wp2_with fail)
                  go_roundw
                  case rel => exact ⟨k4 + 1, by omega, by go_num, HX2, K6⟩
                  case measure => simp [vI]; omega)
            · have hkk4 : k4 = m := by omega
              subst hkk4
              have hng4 : ¬ (k4 : Int) < (k4 : Int) := by omega
              have hx := HX.out
              rw [List.take_of_length_le (by rw [HM.out]; omega)] at hx
              have hts : ts.any (fun t => !decide (t.gr ∈ gs.map (·.id))) = false := by
                rw [List.any_eq_false]
                intro y hy
                rw [decide_eq_true (hx y hy)]
                simp
              have hc5 := HC4.out
              rw [if_neg (by rw [HLB.out, HP1.out, HGL.out, hts]; simp)] at hc5
              have HC5 := hid hc5
              clear hx hts hc5 HC4 HX
              have HWI := hid (show WholeP gs ↔ ∀ g ∈ gs, g ∈ orderG gs by
                have h1 := HND2.out.1
                have h2 := HBD.out
                rw [HE.out] at h1 h2 ⊢
                exact whole_iff h1 (fun g hg => by have := h2 g hg; omega) HP0.out)
              have HWO := hid (fun (W : World) (k : Kp No w1 W) => rwhole_any (SC.out.kp0 k) (by rw [HN.out]; omega))
              have SZ := hid (show wr.cell? ⟨w.heap.size, 0, none⟩ = some (.slice (some ⟨b, off, none⟩) k2 c) ∧ wr.cell? ⟨w.heap.size, 1, none⟩ = some (.slice A2 k4 c2) ∧ wr.cell? ⟨w.heap.size, 0, none⟩ = some (.slice (some ⟨b, off, none⟩) k2 c) ∧ K3 w1 ⟨w.heap.size, 0, none⟩ ⟨w.heap.size, 1, none⟩ ⟨w.heap.size, 0, none⟩ wr from
                ⟨s0, s1, s0, by show w.heap.size < wr.heap.size; have := KW4.out.size; omega, by show w.heap.size < wr.heap.size; have := KW4.out.size; omega, by show w.heap.size < wr.heap.size; have := KW4.out.size; omega, KW4.out⟩)
              by_cases hwh : WholeP gs
              rotate_left
              · have HWF := hid (decide_eq_false hwh)
                have HRr := hid (show r = 5 by
                  rw [HC5.out, if_pos]
                  unfold ordB
                  rw [Bool.and_eq_false_iff]
                  refine .inl (decide_eq_false fun e => hwh (HWI.out.2 fun g hg => ?_))
                  rw [← e]
                  exact hg)
                have HWN := hid (fun (W : World) (k : Kp No w1 W) => show Calls Tryz.prog 51 #[.agg #[.slice (some ⟨b, off, none⟩) k2 c, .slice A2 k4 c2]] W (fun e w' => e = .returned (.bool false) ∧ Kp No W w') from by
                  have h1 := HWO.out W k
                  rw [HWF.out] at h1
                  exact h1)
                clear hwh
                have RDX := hid (fun (W : World) (k : Kp No w1 W) => show W.cell? ⟨w.heap.size, 0, none⟩ = some (.slice (some ⟨b, off, none⟩) k2 c) ∧ W.cell? ⟨w.heap.size, 1, none⟩ = some (.slice A2 k4 c2) from ⟨(B1.out.kp0 k).cell 0, (B1.out.kp0 k).cell 1⟩)
                go_upto_region 29 with fail
                refine region_all (fun w' => Kp No w1 w') (by kernel_rfl) (by kernel_rfl) (KW4.out.drew) ?_
                repeat ((first | ((with_reducible refine cl_val (v := ?_) ?_ ?_ ?_); rotate_left; (focus (go_simp; done)); (focus (intro w' hw; obtain ⟨z0, z1⟩ := RDX.out w' hw; go_simp; (try with_reducible rfl); done))) | ((with_reducible refine cl_skip ?_ ?_); (focus (first | (go_simp; done) | exact unwanted rfl rfl)))); simp only [Act.put, List.setIfInBounds_toArray, List.set_cons_zero, List.set_cons_succ])
                refine cl_call (v := .bool false) rfl (fun w' hw => by go_simp) (fun w' hw => (HWN.out w' hw).mono fun e w'' h => ⟨h.1, hw.trans h.2⟩) ?_
                simp only [Act.put, List.setIfInBounds_toArray, List.set_cons_zero, List.set_cons_succ]
                repeat ((first | ((with_reducible refine cl_val (v := ?_) ?_ ?_ ?_); rotate_left; (focus (go_simp; done)); (focus (intro w' hw; obtain ⟨z0, z1⟩ := RDX.out w' hw; go_simp; (try with_reducible rfl); done))) | ((with_reducible refine cl_skip ?_ ?_); (focus (first | (go_simp; done) | exact unwanted rfl rfl)))); simp only [Act.put, List.setIfInBounds_toArray, List.set_cons_zero, List.set_cons_succ])
                refine cl_nil fun w' hw => ?_
                have K6 := hid hw
                clear hw
                go_wp2_with fail
                go_ret
                exact ⟨by rw [HRr.out]; try rfl, K1.out.trans K6.out⟩
              · have HWT := hid (decide_eq_true hwh)
                have HORD := hid (fun (W : World) (k : Kp No w1 W) => rorder_any HE.out (SC.out.kp0 k) (by rw [HN.out]; omega) (by rw [HM.out]; omega) HBD.out HP0.out HND2.out.1 hwh HND2.out.2.1)
                have HSC := hid (fun (W : World) (k : Kp No w1 W) => SC.out.kp0 k)
                have HTI := hid (show tallI gs gs.length = (tallG gs : Int) by
                  have h1 := HND2.out.1
                  have h2 := HBD.out
                  have h3 := hwh
                  rw [HE.out] at h1 h2 h3 ⊢
                  exact tall_eq h1 (fun g hg => by have := h2 g hg; omega) HP0.out h3)
                have HTA := hid (fun (W : World) (k : Kp No w1 W) => rztall_any (SC.out.kp0 k) (by rw [HN.out]; omega))
                rw [HTI.out] at HTA
                obtain ⟨oo, hoo⟩ : ∃ oo, decide (orderG gs = gs ∧ srtT ts = ts) = oo := ⟨_, rfl⟩
                have HOO := hid hoo
                have hordb : ordB gs ts = oo := by
                  rw [← hoo, Bool.eq_iff_iff]
                  unfold ordB
                  simp only [Bool.and_eq_true, decide_eq_true_eq]
                  exact ⟨fun h => ⟨h.1.symm, h.2.symm⟩, fun h => ⟨h.1.symm, h.2.symm⟩⟩
                have hc6 := HC5.out
                rw [hordb] at hc6
                have HC6 := hid hc6
                clear hwh hoo hordb hc6 HC5
                go_upto_region 29 with fail
                go_cut [104] (fun s wx => s = .bool (!oo) ∧ Hid (Kp No w1 wx))
                case first =>
                  go_region_held3 (fun w' => w'.cell? ⟨w.heap.size, 0, none⟩ = some (.slice (some ⟨b, off, none⟩) k2 c) ∧ w'.cell? ⟨w.heap.size, 1, none⟩ = some (.slice A2 k4 c2) ∧ w'.cell? ⟨w.heap.size, 0, none⟩ = some (.slice (some ⟨b, off, none⟩) k2 c) ∧ K3 w1 ⟨w.heap.size, 0, none⟩ ⟨w.heap.size, 1, none⟩ ⟨w.heap.size, 0, none⟩ w')
                    (first | exact SZ.out | exact K3.step SZ.out (Kp.refl _ _).drew | exact K3.step (by assumption) (by assumption) | assumption)
                    (first
                      | (go_at_call 51
                         with_reducible refine (HWO.out _ (K3.kp (by assumption))).mono ?_
                         rw [HWT.out]
                         rintro e w6 ⟨rfl, k6⟩
                         have K6 := hid ((KW4.out.drew).trans k6))
                      | (go_at_call 52
                         with_reducible refine (HORD.out _ (K3.kp (by assumption))).mono ?_
                         rintro e w7 ⟨ug, ut, rfl, og, ot, k7⟩
                         have K7 := hid (K6.out.trans k7)
                         have SO := hid (show Sce w7 Anyb (.agg #[ug, ut]) (orderG gs) (srtT ts) from ⟨ug, ut, rfl, og.rwp.any, ot.rwp.any⟩)
                         clear og ot)
                      | (go_at_call 13
                         with_reducible refine (zsame_any SO.out (HSC.out _ (K3.kp (by assumption)))).mono ?_
                         rw [HOO.out]
                         rintro e w8 ⟨rfl, k8⟩
                         have K8 := hid (K7.out.trans k8)))
                  all_goals (
                    (try go_wp2_with fail)
                    go_meet
                    exact ⟨rfl, K8⟩)
                case rest =>
                  obtain ⟨rfl, HK8⟩ := hcut
                  clear s0 s1
                  have Bws0 := B1.out.kp0 HK8.out
                  have s0 := Bws0.cell 0
                  have s1 := Bws0.cell 1
                  simp only [List.getElem?_toArray, List.getElem?_cons_zero, List.getElem?_cons_succ] at s0 s1
                  clear Bws0
                  cases oo
                  · have HRr := hid (show r = 5 by rw [HC6.out, if_pos rfl])
                    go_wp2_with fail
                    go_ret
                    exact ⟨by rw [HRr.out]; try rfl, K1.out.trans HK8.out⟩
                  · obtain ⟨tg, htg⟩ : ∃ tg, tallG gs = tg := ⟨_, rfl⟩
                    rw [htg] at HTA HC6
                    have hc7 := HC6.out
                    rw [if_neg (by simp)] at hc7
                    have HC7 := hid hc7
                    clear hc7 htg HC6
                    by_cases e16 : 16 ≤ tg
                    · have d4 : decide ((16 : Int) ≤ (tg : Int)) = true := by simp; omega
                      have HRr := hid (show r = 10 by rw [HC7.out, if_pos e16])
                      clear e16
                      go_wp2_with (first
                        | (go_at_call 53
                           refine (HTA.out _ HK8.out).mono ?_
                           rintro e w9 ⟨rfl, k9⟩
                           have K9 := hid (HK8.out.trans k9)
                           clear k9))
                      go_ret
                      exact ⟨by rw [HRr.out]; try rfl, K1.out.trans K9.out⟩
                    · have d4 : decide ((16 : Int) ≤ (tg : Int)) = false := by simp; omega
                      have HRr := hid (show r = 0 by rw [HC7.out, if_neg e16])
                      clear e16
                      go_wp2_with (first
                        | (go_at_call 53
                           refine (HTA.out _ HK8.out).mono ?_
                           rintro e w9 ⟨rfl, k9⟩
                           have K9 := hid (HK8.out.trans k9)
                           clear k9))
                      go_ret
                      exact ⟨by rw [HRr.out]; try rfl, K1.out.trans K9.out⟩
end
end Go.Proofs.YtggmdgdgljlddaaGreatDoor
