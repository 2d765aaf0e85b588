/-
  Contract of the document's Rename.
-/
import Derived.Test.YtomoiihckbdjdaaGreatZSameI
import Derived.Test.YtomoiihckbdjdaaGreatZName
namespace Go.Proofs.YtomoiihckbdjdaaGreat
open Go.RowKit Go.Shelf

theorem par_ne {g0 : GS} {gt : List GS} {ts : List TS} (h : checkS (g0 :: gt) ts = 0) : g0.par = 0 ∧ ∀ x ∈ gt, x.par ≠ 0 := by
  obtain ⟨_, h2, h3, h4, h5, _⟩ := check0 h
  have hnd : ((g0 :: gt).map (·.id)).Nodup := (List.nodup_append.1 h3).1
  have hpos : ∀ g ∈ g0 :: gt, 1 ≤ g.id := fun g hg => by
    have hw : wrongG g = false := by
      cases e : wrongG g with
      | false => rfl
      | true => exact absurd (.inl (List.any_eq_true.2 ⟨g, hg, e⟩)) h2
    exact (wrongG_bd hw).1
  have h0 : g0.par = 0 := by
    unfold lostB at h4
    simp only [Bool.or_eq_true, not_or, bne_iff_ne, ne_eq, Decidable.not_not] at h4
    exact h4.1.1
  have ho : g0 :: gt = orderG (g0 :: gt) := by
    unfold ordB at h5
    simp only [Bool.and_eq_true, decide_eq_true_eq] at h5
    exact h5.1
  refine ⟨h0, fun x hx => ?_⟩
  obtain ⟨hv, _, hm, _⟩ := visits_is hnd
  have hxo : x ∈ orderG (g0 :: gt) := by rw [← ho]; exact List.mem_cons_of_mem _ hx
  obtain ⟨p, hp, rfl⟩ := List.mem_map.1 hxo
  obtain ⟨k, hk, he⟩ := List.mem_iff_getElem.1 hp
  rcases hv.up k p (by rw [List.getElem?_eq_getElem hk, he]) with h1 | ⟨j, q, _, hq, h6, _⟩
  · have h1 := List.mem_singleton.1 h1
    rw [h1] at hx
    rw [List.map_cons, List.nodup_cons] at hnd
    exact absurd (List.mem_map.2 ⟨g0, hx, rfl⟩) hnd.1
  · rw [(mem_kids.1 h6).2]
    have := hpos q.1 (hm q.1 (List.mem_map.2 ⟨q, List.mem_of_getElem? hq, rfl⟩))
    omega
section
variable {w : World} {P : Nat → Prop} {v : Value} {gs : List GS} {ts : List TS}
set_option maxRecDepth 100000 in
set_option maxHeartbeats 8000000 in
theorem rrename_any (h : Sce w P v gs ts) (y : Int) {r : Int} (hr : renE gs ts y = r) :
    Calls Tryz.prog 16 #[v, .int .i64 y] w fun e w' => ∃ u, e = .returned (.tuple #[u, .int .i64 r]) ∧ Sce w' Anyb u (if r = 0 then gs.map (shG y) else []) (if r = 0 then ts.map (shT y) else []) ∧ Kp No w w' := by
  obtain ⟨vg, vt, rfl, hg, ht⟩ := h
  have hg := hg.old
  have ht := ht.old
  have k1 := (Kp.refl No w).alloc (.cells #[vg, vt] 25)
  have b1 := Blk.new w 25 #[vg, vt]
  have z1 := World.size_alloc w (.cells #[vg, vt] 25)
  obtain ⟨w1, hw1⟩ : ∃ w1, w.alloc (.cells #[vg, vt] 25) = w1 := ⟨_, rfl⟩
  rw [hw1] at k1 b1 z1
  have K1 := hid k1
  have B1 := hid b1
  have SC := hid (show Sce w1 (fun i => i < w.heap.size) (.agg #[vg, vt]) gs ts from ⟨vg, vt, rfl, hg.kp0 k1, ht.kp0 k1⟩)
  obtain ⟨A, c, rfl, hx1, hx2, _⟩ := id hg
  obtain ⟨A2, c2, rfl, hx3, hx4, _⟩ := id ht
  have HG := hid (hg.kp0 k1)
  have HT := hid (ht.kp0 k1)
  obtain ⟨n, hn⟩ : ∃ n, gs.length = n := ⟨_, rfl⟩
  obtain ⟨m, hm⟩ : ∃ m, ts.length = m := ⟨_, rfl⟩
  rw [hn] at HG b1 B1 hw1 SC ⊢
  rw [hm] at HT B1 hw1 b1 SC ⊢
  have HN := hid hn
  have HM := hid hm
  have s0 := b1.cell 0
  have s1 := b1.cell 1
  simp only [List.getElem?_toArray, List.getElem?_cons_zero, List.getElem?_cons_succ] at s0 s1
  have k2 := (Kp.refl No w1).alloc (.cells #[.slice none 0 0, .slice none 0 0] 25)
  have b2 := Blk.new w1 25 #[.slice none 0 0, .slice none 0 0]
  have z2 := World.size_alloc w1 (.cells #[.slice none 0 0, .slice none 0 0] 25)
  obtain ⟨w2, hw2⟩ : ∃ w2, w1.alloc (.cells #[.slice none 0 0, .slice none 0 0] 25) = w2 := ⟨_, rfl⟩
  rw [hw2] at k2 b2 z2
  rw [z1] at b2 z2
  have S2 := hid (SC.out.kp0 k2)
  have BX2 := hid (b1.kp0 k2)
  have RB2 := hid b2
  have K2 := hid (k1.trans k2)
  have HG2 := hid (HG.out.kp0 k2)
  have HT2 := hid (HT.out.kp0 k2)
  have HZ2 := hid z2
  clear k1 b1 hg ht hn hm hx1 hx2 hx3 hx4 SC HG K1 B1 k2 b2 z2 HT s0 s1
  have RW := RB2.out.kp0 (Kp.refl No w2)
  have r0 := RW.cell 0
  have r1 := RW.cell 1
  have f0 := RW.frozen 0
  have f1 := RW.frozen 1
  simp only [List.getElem?_toArray, List.getElem?_cons_zero, List.getElem?_cons_succ] at r0 r1
  clear RW
  have Bws0 := BX2.out.kp0 (Kp.refl No w2)
  have s0 := Bws0.cell 0
  have s1 := Bws0.cell 1
  simp only [List.getElem?_toArray, List.getElem?_cons_zero, List.getElem?_cons_succ] at s0 s1
  clear Bws0
  unfold renE at hr
  by_cases hy1 : y < 0
  · rw [if_pos (.inl hy1)] at hr
    subst hr
    go_enter Tryz.func16, Tryz.ntmps16
    go_upto_region 1 with fail
    clear hw1 hw2
    go_wp2_with fail
    have fin : ∀ WW, Kp (Only (w.heap.size + 1)) w2 WW → Sce WW Anyb (.agg #[.slice none 0 0, .slice none 0 0]) [] [] ∧ Kp No w WW := fun WW k => ⟨⟨_, _, rfl, Rw.nil _ _ _ _ _, Rw.nil _ _ _ _ _⟩, K2.out.step k fun i hi e => by have e : i = w.heap.size + 1 := e; omega⟩
    refine bodyPost_ret (v := .tuple #[.agg #[.slice none 0 0, .slice none 0 0], .int .i64 1]) ?_ rfl ⟨_, rfl, fin _ ?_⟩
    · rw [results_cell2 rfl]
      go_simp
    exact ((Kp.refl (Only (w.heap.size + 1)) w2).setCell (p := ⟨w.heap.size + 1, 0, none⟩) (.inl rfl) _).setCell (p := ⟨w.heap.size + 1, 1, none⟩) (.inl rfl) _
  by_cases hy2 : 1048576 < y
  · rw [if_pos (.inr hy2)] at hr
    subst hr
    have d1 := decide_eq_false hy1
    go_enter Tryz.func16, Tryz.ntmps16
    go_upto_region 1 with fail
    clear hw1 hw2
    go_wp2_with fail
    have fin : ∀ WW, Kp (Only (w.heap.size + 1)) w2 WW → Sce WW Anyb (.agg #[.slice none 0 0, .slice none 0 0]) [] [] ∧ Kp No w WW := fun WW k => ⟨⟨_, _, rfl, Rw.nil _ _ _ _ _, Rw.nil _ _ _ _ _⟩, K2.out.step k fun i hi e => by have e : i = w.heap.size + 1 := e; omega⟩
    refine bodyPost_ret (v := .tuple #[.agg #[.slice none 0 0, .slice none 0 0], .int .i64 1]) ?_ rfl ⟨_, rfl, fin _ ?_⟩
    · rw [results_cell2 rfl]
      go_simp
    exact ((Kp.refl (Only (w.heap.size + 1)) w2).setCell (p := ⟨w.heap.size + 1, 0, none⟩) (.inl rfl) _).setCell (p := ⟨w.heap.size + 1, 1, none⟩) (.inl rfl) _
  rw [if_neg (fun hh => hh.elim hy1 hy2)] at hr
  have d1 := decide_eq_false hy1
  have d2 := decide_eq_false hy2
  obtain ⟨ce, hce⟩ : ∃ ce, checkS gs ts = ce := ⟨_, rfl⟩
  rw [hce] at hr
  have HC := hid (fun (W : World) (k : Kp No w2 W) => show Calls Tryz.prog 8 #[.agg #[.slice A n c, .slice A2 m c2]] W (fun e w' => e = .returned (.int .i64 ce) ∧ Kp No W w') from hce ▸ rcheck_any (S2.out.kp0 k))
  by_cases hc0 : ce = 0
  rotate_left
  · rw [if_pos (by simpa using hc0)] at hr
    subst hr
    have d0 : (ce != 0) = true := by simp [hc0]
    have HC0 := hid hc0
    rw [if_neg hc0, if_neg hc0]
    clear hc0 hce
    go_enter Tryz.func16, Tryz.ntmps16
    go_upto_region 1 with fail
    clear hw1 hw2
    go_wp2_with (first
      | (go_at_call 8
         with_reducible refine (HC.out _ (Kp.refl _ _)).mono ?_
         rintro e w3 ⟨rfl, k3⟩
         have K3' := hid k3
         clear r0 r1 f0 f1
         have RW := RB2.out.kp0 k3
         have r0 := RW.cell 0
         have r1 := RW.cell 1
         have f0 := RW.frozen 0
         have f1 := RW.frozen 1
         simp only [List.getElem?_toArray, List.getElem?_cons_zero, List.getElem?_cons_succ] at r0 r1
         clear RW
         clear k3))
    have fin : ∀ WW, Kp (Only (w.heap.size + 1)) w3 WW → Sce WW Anyb (.agg #[.slice none 0 0, .slice none 0 0]) [] [] ∧ Kp No w WW := fun WW k => ⟨⟨_, _, rfl, Rw.nil _ _ _ _ _, Rw.nil _ _ _ _ _⟩, (K2.out.trans K3'.out).step k fun i hi e => by have e : i = w.heap.size + 1 := e; omega⟩
    refine bodyPost_ret (v := .tuple #[.agg #[.slice none 0 0, .slice none 0 0], .int .i64 ce]) ?_ rfl ⟨_, rfl, fin _ ?_⟩
    · rw [results_cell2 rfl]
      go_simp
    exact ((Kp.refl (Only (w.heap.size + 1)) w3).setCell (p := ⟨w.heap.size + 1, 0, none⟩) (.inl rfl) _).setCell (p := ⟨w.heap.size + 1, 1, none⟩) (.inl rfl) _
  subst hc0
  rw [if_neg (by simp)] at hr
  obtain ⟨m1, m2, l1, l2, l3⟩ := ok_sm hce
  rw [HN.out] at l1 l3
  rw [HM.out] at l2
  obtain ⟨g0, gt, he⟩ : ∃ g0 gt, gs = g0 :: gt := by
    cases hgs : gs with
    | nil => have := HN.out; rw [hgs] at this; simp at this; omega
    | cons a b => exact ⟨a, b, rfl⟩
  have hpn : g0.par = 0 ∧ ∀ x ∈ gt, x.par ≠ 0 := par_ne (ts := ts) (by rw [← he]; exact hce)
  have hidne : idsOf gs ts ≠ [] := by
    intro e
    have := congrArg List.length e
    unfold idsOf at this
    rw [List.length_append, List.length_map, HN.out] at this
    simp at this
    omega
  have HIDNE := hid hidne
  obtain ⟨ids, hids⟩ : ∃ ids, idsOf gs ts = ids := ⟨_, rfl⟩
  have HI := hid (fun (W : World) (k : Kp No w2 W) => rids_any (S2.out.kp0 k) (by rw [HN.out]; omega) (by rw [HM.out]; omega))
  rw [hids] at HI hr HIDNE
  have HSMI := hid (show ∀ z ∈ ids, Sm z by
    intro z hz
    rw [← hids] at hz
    unfold idsOf at hz
    rcases List.mem_append.1 hz with hz | hz
    · obtain ⟨g, hg, rfl⟩ := List.mem_map.1 hz
      exact (m1 g hg).1
    · obtain ⟨t, ht, rfl⟩ := List.mem_map.1 hz
      exact (m2 t ht).1)
  obtain ⟨li, hli⟩ : ∃ li, ids.length = li := ⟨_, rfl⟩
  have HLI := hid hli
  have hlib : li ≤ 8192 := by
    rw [← hli, ← hids]
    unfold idsOf
    rw [List.length_append, List.length_map, List.length_map, HN.out, HM.out]
    omega
  have HR := hid hr
  have HM1 := hid m1
  have HM2 := hid m2
  have HE := hid he
  have HPN := hid hpn
  have hsw : IntKind.i64.wrap (1048576 - y) = 1048576 - y := wrapI (by unfold I64; omega)
  clear hr m1 m2 he hpn hidne hids hli hce
  go_enter Tryz.func16, Tryz.ntmps16
  go_upto_region 1 with fail
  clear hw1 hw2
  go_upto_region 7 with (first
    | (go_at_call 8
       with_reducible refine (HC.out _ (Kp.refl _ _)).mono ?_
       rintro e w3 ⟨rfl, k3⟩
       have K3' := hid k3
       clear s0 s1
       have Bws0 := BX2.out.kp0 k3
       have s0 := Bws0.cell 0
       have s1 := Bws0.cell 1
       simp only [List.getElem?_toArray, List.getElem?_cons_zero, List.getElem?_cons_succ] at s0 s1
       clear Bws0
       clear k3)
    | (go_at_call 12
       with_reducible refine (HI.out _ K3'.out).mono ?_
       rintro e w4 ⟨u4, rfl, o4, k4⟩
       obtain ⟨A4, c4, rfl⟩ := o4.formN HLI.out
       have O4 := hid o4
       have K4 := hid (K3'.out.trans k4)
       clear o4 k4))
  clear s0 s1 r0 r1 f0 f1 d1 d2
  go_wp2_with fail
  go_loopw [8] (fun i wr => ∃ k : Nat, k ≤ li ∧ i = .int .i64 (k : Int) ∧ Hid (∀ z ∈ ids.take k, z ≤ 1048576 - y) ∧ Hid (Kp No w4 wr)) (fun i _ => li - (vI i).toNat)
  case atStart => exact ⟨0, Nat.zero_le _, rfl, hid (by simp), hid (Kp.refl _ _)⟩
  case round =>
    obtain ⟨k, hk, rfl, HX, KW⟩ := hrel
    by_cases hkn : k < li
    · have hg1 : (k : Int) < (li : Int) := by omega
      have hkl : k < ids.length := by rw [HLI.out]; exact hkn
      have hwk := wrapI (x := (k : Int) + 1) (by unfold I64; omega)
      have oi := O4.out.kp0 KW.out
      obtain ⟨bi, c', he, _, _, _, _⟩ := oi.form2 (by omega)
      injection he with e1 e2 e3
      subst e1 e3
      clear e2
      have ck := oi.cellAt (d := (0 : Int)) (j := k) (i := 0) hkl (by omega)
      simp only [zI, Nat.mul_one, Nat.add_zero] at ck
      have HS := hid (take_s ids hkl 0)
      obtain ⟨x, hx⟩ : ∃ x, ids.getD k 0 = x := ⟨_, rfl⟩
      rw [hx] at ck HS
      have HXM := hid (show x ∈ ids by rw [← hx]; simp [List.getD, hkl])
      clear oi hx
      by_cases e : 1048576 - y < x
      · have HE2 := hid e
        have d3 := decide_eq_true e
        have hr6 : r = 6 := by
          rw [← HR.out, if_pos]
          have h1 := maxOf_le x HXM.out
          have h2 := HE2.out
          omega
        subst hr6
        clear e
        have RW := RB2.out.kp0 (K4.out.trans KW.out)
        have r0 := RW.cell 0
        have r1 := RW.cell 1
        have f0 := RW.frozen 0
        have f1 := RW.frozen 1
        simp only [List.getElem?_toArray, List.getElem?_cons_zero, List.getElem?_cons_succ] at r0 r1
        clear RW
        go_wp2_with fail
        have fin : ∀ WW, Kp (Only (w.heap.size + 1)) wr WW → Sce WW Anyb (.agg #[.slice none 0 0, .slice none 0 0]) (if (6 : Int) = 0 then gs.map (shG y) else []) (if (6 : Int) = 0 then ts.map (shT y) else []) ∧ Kp No w WW := fun WW k => by
          rw [if_neg (by decide), if_neg (by decide)]
          exact ⟨⟨_, _, rfl, Rw.nil _ _ _ _ _, Rw.nil _ _ _ _ _⟩, (K2.out.trans (K4.out.trans KW.out)).step k fun i hi e => by have e : i = w.heap.size + 1 := e; omega⟩
        refine bodyPost_ret (v := .tuple #[.agg #[.slice none 0 0, .slice none 0 0], .int .i64 6]) ?_ rfl ⟨_, rfl, fin _ ?_⟩
        · rw [results_cell2 rfl]
          go_simp
        exact ((Kp.refl (Only (w.heap.size + 1)) wr).setCell (p := ⟨w.heap.size + 1, 0, none⟩) (.inl rfl) _).setCell (p := ⟨w.heap.size + 1, 1, none⟩) (.inl rfl) _
      · have d3 := decide_eq_false e
        have HX2 := hid (show ∀ z ∈ ids.take (k + 1), z ≤ 1048576 - y by
          intro z hz
          rw [HS.out, List.mem_append] at hz
          rcases hz with hz | hz
          · exact HX.out z hz
          · rw [List.mem_singleton.1 hz]
            omega)
        clear e
        go_wp2_with fail
        go_roundw
        case rel => exact ⟨k + 1, by omega, by go_num, HX2, KW⟩
        case measure => simp [vI]; omega
    · have hkk : k = li := by omega
      subst hkk
      have hng : ¬ (k : Int) < (k : Int) := by omega
      have hx := HX.out
      rw [List.take_of_length_le (by rw [HLI.out]; omega)] at hx
      have hr0 : r = 0 := by
        rw [← HR.out, if_neg]
        have := hx _ (maxOf_mem HIDNE.out)
        omega
      subst hr0
      clear hx HX HR HSMI
      obtain ⟨wz, hwz⟩ : ∃ wz, wr = wz := ⟨_, rfl⟩
      rw [hwz] at KW ⊢
      clear hwz
      have KZ := hid (K4.out.trans KW.out)
      have k5 := (Kp.refl No wz).alloc (.cells #[.slice none 0 0, .slice none 0 0] 25)
      have b5 := Blk.new wz 25 #[.slice none 0 0, .slice none 0 0]
      have z5 := World.size_alloc wz (.cells #[.slice none 0 0, .slice none 0 0] 25)
      have hzz := KZ.out.size
      have hz2 := HZ2.out
      go_upto_region 13 with fail
      obtain ⟨w5, hw5⟩ : ∃ w5, wz.alloc (.cells #[.slice none 0 0, .slice none 0 0] 25) = w5 := ⟨_, rfl⟩
      rw [hw5] at k5 b5 z5 ⊢
      obtain ⟨q, hq⟩ : ∃ q, wz.heap.size = q := ⟨_, rfl⟩
      rw [hq] at b5 z5 hzz ⊢
      have K5 := hid (KZ.out.trans k5)
      have HZ5 := hid z5
      have I5 := hid (show GZ 6 44 gc (fun i => i = q) w5 w5 q 25 #[.slice none 0 0, .slice none 0 0] (.slice none 0 0) ((gs.take 0).map (shG y)) from ⟨Kp.refl _ _, b5, by simpa using Ow.nil _ _ _ _ _, rfl, fun i e => by subst e; omega⟩)
      clear k5 b5 z5 hw5 hq
      go_wp2_with fail
      go_loopw [10] (fun i wr => ∃ (k2 : Nat) (u : Value), k2 ≤ n ∧ i = .int .i64 (k2 : Int) ∧ Hid (GZ 6 44 gc (fun i => i = q) w5 wr q 25 #[u, .slice none 0 0] u ((gs.take k2).map (shG y)))) (fun i _ => n - (vI i).toNat)
      case atStart => exact ⟨0, _, Nat.zero_le _, rfl, I5⟩
      case round =>
        obtain ⟨k2, u, hk2, rfl, G⟩ := hrel
        have br := (BX2.out.kp0 K5.out).kp G.out.kp (by show ¬ w.heap.size = q; omega)
        have s0 := br.cell 0
        have s1 := br.cell 1
        simp only [List.getElem?_toArray, List.getElem?_cons_zero, List.getElem?_cons_succ] at s0 s1
        clear br
        by_cases hkn2 : k2 < n
        · have hkl : k2 < gs.length := by rw [HN.out]; exact hkn2
          have hg1 : (k2 : Int) < (n : Int) := by omega
          have hwk := wrapI (x := (k2 : Int) + 1) (by unfold I64; omega)
          have rg := (HG2.out.kp0 K5.out).kp G.out.kp (fun i _ hi e => by have hi : i < w.heap.size := hi; have e : i = q := e; omega)
          obtain ⟨b, off, rfl⟩ := rg.there (by omega)
          have q0 := rg.cell (j := k2) (i := 0) (Kp.refl No _) hkl (by omega) rfl
          have q1 := rg.cell (j := k2) (i := 1) (Kp.refl No _) hkl (by omega) rfl
          have q2 := rg.cell (j := k2) (i := 2) (Kp.refl No _) hkl (by omega) rfl
          have q3 := rg.cell (j := k2) (i := 3) (Kp.refl No _) hkl (by omega) rfl
          have q4 := rg.cell (j := k2) (i := 4) (Kp.refl No _) hkl (by omega) rfl
          have q5 := rg.cell (j := k2) (i := 5) (Kp.refl No _) hkl (by omega) rfl
          have hsp := take_s gs hkl gs0
          obtain ⟨x0, hx0⟩ : ∃ x0, gs.getD k2 gs0 = x0 := ⟨_, rfl⟩
          rw [hx0] at q0 q1 q2 q3 q4 q5 hsp
          have hxm : x0 ∈ gs := by rw [← hx0]; simp [List.getD, hkl]
          simp only [gc, ge, List.getD_cons_zero, List.getD_cons_succ, Nat.add_zero] at q0 q1 q2 q3 q4 q5
          simp only [← Nat.add_assoc] at q1 q2 q3 q4 q5
          have hsm := HM1.out x0 hxm
          unfold Sm at hsm
          have hwi := wrapI (x := x0.id + y) (by unfold I64; omega)
          have hwp := wrapI (x := x0.par + y) (by unfold I64; omega)
          have HLEN := hid (show ((gs.take k2).map (shG y)).length = k2 by rw [List.length_map, List.length_take, HN.out]; omega)
          obtain ⟨A5, c5, rfl⟩ := G.out.ow.formN HLEN.out
          have hpar : (k2 = 0 → x0.par = 0) ∧ (k2 ≠ 0 → x0.par ≠ 0) := by
            constructor
            · intro e
              rw [← hx0, e, HE.out]
              exact HPN.out.1
            · intro e
              refine HPN.out.2 x0 ?_
              rw [← hx0, HE.out]
              obtain ⟨j, rfl⟩ : ∃ j, k2 = j + 1 := ⟨k2 - 1, by omega⟩
              have hj : j < gt.length := by
                have := hkl
                rw [HE.out] at this
                simpa using this
              simp [List.getD, hj]
          clear rg hx0 hkl
          by_cases hk0 : k2 = 0
          · have hkz : ¬ (0 : Int) < (k2 : Int) := by omega
            have HSP := hid (show (gs.take (k2 + 1)).map (shG y) = (gs.take k2).map (shG y) ++ [(⟨x0.id + y, x0.par, x0.wt, x0.pd, x0.qt, x0.us⟩ : GS)] by
              rw [hsp, List.map_append]
              unfold shG
              simp [hpar.1 hk0])
            clear hsp hpar hk0 hsm hxm
            go_upto_region 17 with fail
            have k31 := (Kp.refl No wr).alloc (.cells #[.int .i64 x0.id, .int .i64 x0.par, .int .i64 x0.wt, .int .i64 x0.pd, .int .i64 x0.qt, .int .i64 x0.us] 44)
            have z31 := Blk.new wr 44 #[.int .i64 x0.id, .int .i64 x0.par, .int .i64 x0.wt, .int .i64 x0.pd, .int .i64 x0.qt, .int .i64 x0.us]
            obtain ⟨wa, hwa⟩ : ∃ wa, wr.alloc (.cells #[.int .i64 x0.id, .int .i64 x0.par, .int .i64 x0.wt, .int .i64 x0.pd, .int .i64 x0.qt, .int .i64 x0.us] 44) = wa := ⟨_, rfl⟩
            rw [hwa] at k31 z31 ⊢
            have Z31 := hid z31
            have K31 := hid k31
            have y0 := z31.cell 0
            have y1 := z31.cell 1
            have y2 := z31.cell 2
            have y3 := z31.cell 3
            have y4 := z31.cell 4
            have y5 := z31.cell 5
            simp only [List.getElem?_toArray, List.getElem?_cons_zero, List.getElem?_cons_succ] at y0 y1 y2 y3 y4 y5
            have fy0 : wa.frozen? ⟨wr.heap.size, 0, none⟩ = false := z31.frozen 0
            have fy1 : wa.frozen? ⟨wr.heap.size, 1, none⟩ = false := z31.frozen 1
            clear k31 z31 hwa q0 q1 q2 q3 q4 q5
            go_upto_region 18 with fail
            have k32 := K31.out.setCell (p := ⟨wr.heap.size, 0, none⟩) (.inr (Nat.le_refl _)) (.int .i64 (x0.id + y))
            have z32 := Z31.out.put 0 (.int .i64 (x0.id + y))
            simp only [List.setIfInBounds_toArray, List.set_cons_zero] at z32
            obtain ⟨wb, hwb⟩ : ∃ wb, wa.setCell ⟨wr.heap.size, 0, none⟩ (.int .i64 (x0.id + y)) = wb := ⟨_, rfl⟩
            rw [hwb] at k32 z32 ⊢
            clear hwb y0 y1 y2 y3 y4 y5 fy0 fy1
            have y0 := z32.cell 0
            have y1 := z32.cell 1
            have y2 := z32.cell 2
            have y3 := z32.cell 3
            have y4 := z32.cell 4
            have y5 := z32.cell 5
            simp only [List.getElem?_toArray, List.getElem?_cons_zero, List.getElem?_cons_succ] at y0 y1 y2 y3 y4 y5
            have ga := G.out.kp0 k32
            have c0 := ga.bx.cell 0
            have kd := (Kp.refl No wb).alloc (.cells #[.int .i64 (x0.id + y), .int .i64 x0.par, .int .i64 x0.wt, .int .i64 x0.pd, .int .i64 x0.qt, .int .i64 x0.us] 44)
            have zd := Blk.new wb 44 #[.int .i64 (x0.id + y), .int .i64 x0.par, .int .i64 x0.wt, .int .i64 x0.pd, .int .i64 x0.qt, .int .i64 x0.us]
            have GD := hid (ga.kp0 kd)
            have ZD := hid zd
            simp only [List.getElem?_toArray, List.getElem?_cons_zero] at c0
            clear k32 z32 ga kd zd
            go_wp2_with (first
              | (at_builtin
                 refine wp_app1 usG gc_one rfl (.tmp 68) (.tmp 70) rfl (base := w5.heap.size) (xs := (gs.take k2).map (shG y)) (y := (⟨x0.id + y, x0.par, x0.wt, x0.pd, x0.qt, x0.us⟩ : GS)) (by exact GD.out.ow) rfl (by
                   intro i hi
                   match i, hi with
                   | 0, _ => exact ZD.out.cell 0
                   | 1, _ => exact ZD.out.cell 1
                   | 2, _ => exact ZD.out.cell 2
                   | 3, _ => exact ZD.out.cell 3
                   | 4, _ => exact ZD.out.cell 4
                   | 5, _ => exact ZD.out.cell 5) (by rw [HLEN.out]; omega) (by rw [HLEN.out]; simp only [maxLen]; omega) (by exact GD.out.kp.size) ?_
                 intro v8 w8 o8 k8 p8
                 obtain ⟨A8, c8, rfl⟩ := o8.formN (m := k2 + 1) (by rw [List.length_append, HLEN.out]; rfl)
                 have G8 := GD.out.app o8 k8
                 have e0 := G8.bx.cell 0
                 have f0 : w8.frozen? ⟨q, 0, none⟩ = false := G8.bx.frozen 0
                 simp only [List.getElem?_toArray, List.getElem?_cons_zero] at e0
                 have G9 := hid (G8.put 0 (.slice A8 (k2 + 1) c8))
                 clear o8 k8 p8 G8))
            go_roundw
            case rel => exact ⟨k2 + 1, _, by omega, by go_num, hid (by rw [HSP.out]; simpa using G9.out)⟩
            case measure => simp [vI]; omega
          · have hkz : (0 : Int) < (k2 : Int) := by omega
            have HSP := hid (show (gs.take (k2 + 1)).map (shG y) = (gs.take k2).map (shG y) ++ [(⟨x0.id + y, x0.par + y, x0.wt, x0.pd, x0.qt, x0.us⟩ : GS)] by
              rw [hsp, List.map_append]
              unfold shG
              simp [hpar.2 hk0])
            clear hsp hpar hk0 hsm hxm
            go_upto_region 17 with fail
            have k31 := (Kp.refl No wr).alloc (.cells #[.int .i64 x0.id, .int .i64 x0.par, .int .i64 x0.wt, .int .i64 x0.pd, .int .i64 x0.qt, .int .i64 x0.us] 44)
            have z31 := Blk.new wr 44 #[.int .i64 x0.id, .int .i64 x0.par, .int .i64 x0.wt, .int .i64 x0.pd, .int .i64 x0.qt, .int .i64 x0.us]
            obtain ⟨wa, hwa⟩ : ∃ wa, wr.alloc (.cells #[.int .i64 x0.id, .int .i64 x0.par, .int .i64 x0.wt, .int .i64 x0.pd, .int .i64 x0.qt, .int .i64 x0.us] 44) = wa := ⟨_, rfl⟩
            rw [hwa] at k31 z31 ⊢
            have Z31 := hid z31
            have K31 := hid k31
            have y0 := z31.cell 0
            have y1 := z31.cell 1
            have y2 := z31.cell 2
            have y3 := z31.cell 3
            have y4 := z31.cell 4
            have y5 := z31.cell 5
            simp only [List.getElem?_toArray, List.getElem?_cons_zero, List.getElem?_cons_succ] at y0 y1 y2 y3 y4 y5
            have fy0 : wa.frozen? ⟨wr.heap.size, 0, none⟩ = false := z31.frozen 0
            have fy1 : wa.frozen? ⟨wr.heap.size, 1, none⟩ = false := z31.frozen 1
            clear k31 z31 hwa q0 q1 q2 q3 q4 q5
            go_upto_region 18 with fail
            have k32 := K31.out.setCell (p := ⟨wr.heap.size, 0, none⟩) (.inr (Nat.le_refl _)) (.int .i64 (x0.id + y))
            have z32 := Z31.out.put 0 (.int .i64 (x0.id + y))
            simp only [List.setIfInBounds_toArray, List.set_cons_zero] at z32
            obtain ⟨wb, hwb⟩ : ∃ wb, wa.setCell ⟨wr.heap.size, 0, none⟩ (.int .i64 (x0.id + y)) = wb := ⟨_, rfl⟩
            rw [hwb] at k32 z32 ⊢
            clear hwb y0 y1 y2 y3 y4 y5 fy0 fy1
            have y0 := z32.cell 0
            have y1 := z32.cell 1
            have y2 := z32.cell 2
            have y3 := z32.cell 3
            have y4 := z32.cell 4
            have y5 := z32.cell 5
            simp only [List.getElem?_toArray, List.getElem?_cons_zero, List.getElem?_cons_succ] at y0 y1 y2 y3 y4 y5
            have fy1 : wb.frozen? ⟨wr.heap.size, 1, none⟩ = false := z32.frozen 1
            have Z32 := hid z32
            have K32 := hid k32
            clear z32 k32
            go_upto_region 20 with fail
            have k33 := K32.out.setCell (p := ⟨wr.heap.size, 1, none⟩) (.inr (Nat.le_refl _)) (.int .i64 (x0.par + y))
            have z33 := Z32.out.put 1 (.int .i64 (x0.par + y))
            simp only [List.setIfInBounds_toArray, List.set_cons_zero, List.set_cons_succ] at z33
            obtain ⟨wc, hwc⟩ : ∃ wc, wb.setCell ⟨wr.heap.size, 1, none⟩ (.int .i64 (x0.par + y)) = wc := ⟨_, rfl⟩
            rw [hwc] at k33 z33 ⊢
            clear hwc y0 y1 y2 y3 y4 y5 fy1
            have y0 := z33.cell 0
            have y1 := z33.cell 1
            have y2 := z33.cell 2
            have y3 := z33.cell 3
            have y4 := z33.cell 4
            have y5 := z33.cell 5
            simp only [List.getElem?_toArray, List.getElem?_cons_zero, List.getElem?_cons_succ] at y0 y1 y2 y3 y4 y5
            have ga := G.out.kp0 k33
            have c0 := ga.bx.cell 0
            have kd := (Kp.refl No wc).alloc (.cells #[.int .i64 (x0.id + y), .int .i64 (x0.par + y), .int .i64 x0.wt, .int .i64 x0.pd, .int .i64 x0.qt, .int .i64 x0.us] 44)
            have zd := Blk.new wc 44 #[.int .i64 (x0.id + y), .int .i64 (x0.par + y), .int .i64 x0.wt, .int .i64 x0.pd, .int .i64 x0.qt, .int .i64 x0.us]
            have GD := hid (ga.kp0 kd)
            have ZD := hid zd
            simp only [List.getElem?_toArray, List.getElem?_cons_zero] at c0
            clear k33 z33 ga kd zd
            go_wp2_with (first
              | (at_builtin
                 refine wp_app1 usG gc_one rfl (.tmp 68) (.tmp 70) rfl (base := w5.heap.size) (xs := (gs.take k2).map (shG y)) (y := (⟨x0.id + y, x0.par + y, x0.wt, x0.pd, x0.qt, x0.us⟩ : GS)) (by exact GD.out.ow) rfl (by
                   intro i hi
                   match i, hi with
                   | 0, _ => exact ZD.out.cell 0
                   | 1, _ => exact ZD.out.cell 1
                   | 2, _ => exact ZD.out.cell 2
                   | 3, _ => exact ZD.out.cell 3
                   | 4, _ => exact ZD.out.cell 4
                   | 5, _ => exact ZD.out.cell 5) (by rw [HLEN.out]; omega) (by rw [HLEN.out]; simp only [maxLen]; omega) (by exact GD.out.kp.size) ?_
                 intro v8 w8 o8 k8 p8
                 obtain ⟨A8, c8, rfl⟩ := o8.formN (m := k2 + 1) (by rw [List.length_append, HLEN.out]; rfl)
                 have G8 := GD.out.app o8 k8
                 have e0 := G8.bx.cell 0
                 have f0 : w8.frozen? ⟨q, 0, none⟩ = false := G8.bx.frozen 0
                 simp only [List.getElem?_toArray, List.getElem?_cons_zero] at e0
                 have G9 := hid (G8.put 0 (.slice A8 (k2 + 1) c8))
                 clear o8 k8 p8 G8))
            go_roundw
            case rel => exact ⟨k2 + 1, _, by omega, by go_num, hid (by rw [HSP.out]; simpa using G9.out)⟩
            case measure => simp [vI]; omega
        · have hkk2 : k2 = n := by omega
          subst hkk2
          have hng2 : ¬ (k2 : Int) < (k2 : Int) := by omega
          have g := G.out
          rw [List.take_of_length_le (by rw [HN.out]; omega)] at g
          obtain ⟨Ag, cg, rfl⟩ := g.ow.formN (m := k2) (by rw [List.length_map]; exact HN.out)
          obtain ⟨w6, hw6⟩ : ∃ w6, wr = w6 := ⟨_, rfl⟩
          rw [hw6] at g s0 s1 ⊢
          clear hw6 G
          have hzg := g.kp.size
          have hbo : ∀ i, (Value.slice Ag k2 cg).ownBlock = some i → w5.heap.size ≤ i ∧ i < w6.heap.size := fun i hi => ⟨(g.ow.blk hi).1, (g.ow.blk hi).2.1⟩
          have HBO := hid hbo
          have OG := hid g.ow
          have KG := hid g.kp
          have I6 := hid (show GZ 8 48 tc (fun i => i = q) w6 w6 q 25 #[.slice Ag k2 cg, .slice none 0 0] (.slice none 0 0) ((ts.take 0).map (shT y)) from ⟨Kp.refl _ _, g.bx, by simpa using Ow.nil _ _ _ _ _, rfl, fun i e => by have := g.xl i e; omega⟩)
          clear g hbo
          go_wp2_with fail
          clear s0 s1
          go_loopw [12] (fun i wr => ∃ (k3 : Nat) (u : Value), k3 ≤ m ∧ i = .int .i64 (k3 : Int) ∧ Hid (GZ 8 48 tc (fun i => i = q) w6 wr q 25 #[.slice Ag k2 cg, u] u ((ts.take k3).map (shT y)))) (fun i _ => m - (vI i).toNat)
          case atStart => exact ⟨0, _, Nat.zero_le _, rfl, I6⟩
          case round =>
            obtain ⟨k3, u, hk3, rfl, G⟩ := hrel
            have kk := KG.out.step G.out.kp fun i _ e => e
            have br := (BX2.out.kp0 K5.out).kp kk (by show ¬ w.heap.size = q; omega)
            have s0 := br.cell 0
            have s1 := br.cell 1
            simp only [List.getElem?_toArray, List.getElem?_cons_zero, List.getElem?_cons_succ] at s0 s1
            clear br
            by_cases hkn3 : k3 < m
            · have hkl : k3 < ts.length := by rw [HM.out]; exact hkn3
              have hg1 : (k3 : Int) < (m : Int) := by omega
              have hwk := wrapI (x := (k3 : Int) + 1) (by unfold I64; omega)
              have rt := (HT2.out.kp0 K5.out).kp kk (fun i _ hi e => by have hi : i < w.heap.size := hi; have e : i = q := e; omega)
              obtain ⟨bt, offt, rfl⟩ := rt.there (by omega)
              have q0 := rt.cell (j := k3) (i := 0) (Kp.refl No _) hkl (by omega) rfl
              have q1 := rt.cell (j := k3) (i := 1) (Kp.refl No _) hkl (by omega) rfl
              have q2 := rt.cell (j := k3) (i := 2) (Kp.refl No _) hkl (by omega) rfl
              have q3 := rt.cell (j := k3) (i := 3) (Kp.refl No _) hkl (by omega) rfl
              have q4 := rt.cell (j := k3) (i := 4) (Kp.refl No _) hkl (by omega) rfl
              have q5 := rt.cell (j := k3) (i := 5) (Kp.refl No _) hkl (by omega) rfl
              have q6 := rt.cell (j := k3) (i := 6) (Kp.refl No _) hkl (by omega) rfl
              have q7 := rt.cell (j := k3) (i := 7) (Kp.refl No _) hkl (by omega) rfl
              have hsp := take_s ts hkl ts0
              obtain ⟨x0, hx0⟩ : ∃ x0, ts.getD k3 ts0 = x0 := ⟨_, rfl⟩
              rw [hx0] at q0 q1 q2 q3 q4 q5 q6 q7 hsp
              have hxm : x0 ∈ ts := by rw [← hx0]; simp [List.getD, hkl]
              simp only [tc, te, List.getD_cons_zero, List.getD_cons_succ, Nat.add_zero] at q0 q1 q2 q3 q4 q5 q6 q7
              simp only [← Nat.add_assoc] at q1 q2 q3 q4 q5 q6 q7
              have hsm := HM2.out x0 hxm
              unfold Sm at hsm
              have hwi := wrapI (x := x0.id + y) (by unfold I64; omega)
              have hwp := wrapI (x := x0.gr + y) (by unfold I64; omega)
              have HLEN := hid (show ((ts.take k3).map (shT y)).length = k3 by rw [List.length_map, List.length_take, HM.out]; omega)
              obtain ⟨A5, c5, rfl⟩ := G.out.ow.formN HLEN.out
              have HSP := hid (show (ts.take (k3 + 1)).map (shT y) = (ts.take k3).map (shT y) ++ [(⟨x0.id + y, x0.gr + y, x0.wt, x0.co, x0.sl, x0.ra, x0.lv, x0.lr⟩ : TS)] by
                rw [hsp, List.map_append]
                rfl)
              clear rt hx0 hkl hsp hsm hxm kk
              go_upto_region 25 with fail
              have k31 := (Kp.refl No wr).alloc (.cells #[.int .i64 x0.id, .int .i64 x0.gr, .int .i64 x0.wt, .int .u64 x0.co, .bool x0.sl, .int .i64 x0.ra, .int .i64 x0.lv, .int .i64 x0.lr] 48)
              have z31 := Blk.new wr 48 #[.int .i64 x0.id, .int .i64 x0.gr, .int .i64 x0.wt, .int .u64 x0.co, .bool x0.sl, .int .i64 x0.ra, .int .i64 x0.lv, .int .i64 x0.lr]
              obtain ⟨wa, hwa⟩ : ∃ wa, wr.alloc (.cells #[.int .i64 x0.id, .int .i64 x0.gr, .int .i64 x0.wt, .int .u64 x0.co, .bool x0.sl, .int .i64 x0.ra, .int .i64 x0.lv, .int .i64 x0.lr] 48) = wa := ⟨_, rfl⟩
              rw [hwa] at k31 z31 ⊢
              have Z31 := hid z31
              have K31 := hid k31
              have y0 := z31.cell 0
              have y1 := z31.cell 1
              have y2 := z31.cell 2
              have y3 := z31.cell 3
              have y4 := z31.cell 4
              have y5 := z31.cell 5
              have y6 := z31.cell 6
              have y7 := z31.cell 7
              simp only [List.getElem?_toArray, List.getElem?_cons_zero, List.getElem?_cons_succ] at y0 y1 y2 y3 y4 y5 y6 y7
              have fy0 : wa.frozen? ⟨wr.heap.size, 0, none⟩ = false := z31.frozen 0
              have fy1 : wa.frozen? ⟨wr.heap.size, 1, none⟩ = false := z31.frozen 1
              clear k31 z31 hwa q0 q1 q2 q3 q4 q5 q6 q7
              go_upto_region 26 with fail
              have k32 := K31.out.setCell (p := ⟨wr.heap.size, 0, none⟩) (.inr (Nat.le_refl _)) (.int .i64 (x0.id + y))
              have z32 := Z31.out.put 0 (.int .i64 (x0.id + y))
              simp only [List.setIfInBounds_toArray, List.set_cons_zero] at z32
              obtain ⟨wb, hwb⟩ : ∃ wb, wa.setCell ⟨wr.heap.size, 0, none⟩ (.int .i64 (x0.id + y)) = wb := ⟨_, rfl⟩
              rw [hwb] at k32 z32 ⊢
              clear hwb y0 y1 y2 y3 y4 y5 y6 y7 fy0 fy1
              have y0 := z32.cell 0
              have y1 := z32.cell 1
              have y2 := z32.cell 2
              have y3 := z32.cell 3
              have y4 := z32.cell 4
              have y5 := z32.cell 5
              have y6 := z32.cell 6
              have y7 := z32.cell 7
              simp only [List.getElem?_toArray, List.getElem?_cons_zero, List.getElem?_cons_succ] at y0 y1 y2 y3 y4 y5 y6 y7
              have fy1 : wb.frozen? ⟨wr.heap.size, 1, none⟩ = false := z32.frozen 1
              have Z32 := hid z32
              have K32 := hid k32
              clear z32 k32
              go_upto_region 27 with fail
              have k33 := K32.out.setCell (p := ⟨wr.heap.size, 1, none⟩) (.inr (Nat.le_refl _)) (.int .i64 (x0.gr + y))
              have z33 := Z32.out.put 1 (.int .i64 (x0.gr + y))
              simp only [List.setIfInBounds_toArray, List.set_cons_zero, List.set_cons_succ] at z33
              obtain ⟨wc, hwc⟩ : ∃ wc, wb.setCell ⟨wr.heap.size, 1, none⟩ (.int .i64 (x0.gr + y)) = wc := ⟨_, rfl⟩
              rw [hwc] at k33 z33 ⊢
              clear hwc y0 y1 y2 y3 y4 y5 y6 y7 fy1
              have y0 := z33.cell 0
              have y1 := z33.cell 1
              have y2 := z33.cell 2
              have y3 := z33.cell 3
              have y4 := z33.cell 4
              have y5 := z33.cell 5
              have y6 := z33.cell 6
              have y7 := z33.cell 7
              simp only [List.getElem?_toArray, List.getElem?_cons_zero, List.getElem?_cons_succ] at y0 y1 y2 y3 y4 y5 y6 y7
              have ga := G.out.kp0 k33
              have c0 := ga.bx.cell 1
              have kd := (Kp.refl No wc).alloc (.cells #[.int .i64 (x0.id + y), .int .i64 (x0.gr + y), .int .i64 x0.wt, .int .u64 x0.co, .bool x0.sl, .int .i64 x0.ra, .int .i64 x0.lv, .int .i64 x0.lr] 48)
              have zd := Blk.new wc 48 #[.int .i64 (x0.id + y), .int .i64 (x0.gr + y), .int .i64 x0.wt, .int .u64 x0.co, .bool x0.sl, .int .i64 x0.ra, .int .i64 x0.lv, .int .i64 x0.lr]
              have GD := hid (ga.kp0 kd)
              have ZD := hid zd
              simp only [List.getElem?_toArray, List.getElem?_cons_zero, List.getElem?_cons_succ] at c0
              clear k33 z33 ga kd zd
              go_wp2_with (first
                | (at_builtin
                   refine wp_app1 usT tc_one rfl (.tmp 96) (.tmp 98) rfl (base := w6.heap.size) (xs := (ts.take k3).map (shT y)) (y := (⟨x0.id + y, x0.gr + y, x0.wt, x0.co, x0.sl, x0.ra, x0.lv, x0.lr⟩ : TS)) (by exact GD.out.ow) rfl (by
                     intro i hi
                     match i, hi with
                     | 0, _ => exact ZD.out.cell 0
                     | 1, _ => exact ZD.out.cell 1
                     | 2, _ => exact ZD.out.cell 2
                     | 3, _ => exact ZD.out.cell 3
                     | 4, _ => exact ZD.out.cell 4
                     | 5, _ => exact ZD.out.cell 5
                     | 6, _ => exact ZD.out.cell 6
                     | 7, _ => exact ZD.out.cell 7) (by rw [HLEN.out]; omega) (by rw [HLEN.out]; simp only [maxLen]; omega) (by exact GD.out.kp.size) ?_
                   intro v8 w8 o8 k8 p8
                   obtain ⟨A8, c8, rfl⟩ := o8.formN (m := k3 + 1) (by rw [List.length_append, HLEN.out]; rfl)
                   have G8 := GD.out.app o8 k8
                   have e0 := G8.bx.cell 1
                   have f0 : w8.frozen? ⟨q, 1, none⟩ = false := G8.bx.frozen 1
                   simp only [List.getElem?_toArray, List.getElem?_cons_zero, List.getElem?_cons_succ] at e0
                   have G9 := hid (G8.put 1 (.slice A8 (k3 + 1) c8))
                   clear o8 k8 p8 G8))
              go_roundw
              case rel => exact ⟨k3 + 1, _, by omega, by go_num, hid (by rw [HSP.out]; simpa using G9.out)⟩
              case measure => simp [vI]; omega
            · have hkk3 : k3 = m := by omega
              subst hkk3
              have hng3 : ¬ (k3 : Int) < (k3 : Int) := by omega
              have g := G.out
              rw [List.take_of_length_le (by rw [HM.out]; omega)] at g
              obtain ⟨At, ct, rfl⟩ := g.ow.formN (m := k3) (by rw [List.length_map]; exact HM.out)
              have RW := (RB2.out.kp0 K5.out).kp kk (by show ¬ w.heap.size + 1 = q; omega)
              have r0 := RW.cell 0
              have r1 := RW.cell 1
              have f0 : wr.frozen? ⟨w.heap.size + 1, 0, none⟩ = false := RW.frozen 0
              have f1 : wr.frozen? ⟨w.heap.size + 1, 1, none⟩ = false := RW.frozen 1
              have o0 := g.bx.cell 0
              have o1 := g.bx.cell 1
              simp only [List.getElem?_toArray, List.getElem?_cons_zero, List.getElem?_cons_succ] at r0 r1 o0 o1
              have FG := hid g
              have KK := hid kk
              clear g kk RW
              go_wp2
              have fin : ∀ W, Kp (Only (w.heap.size + 1)) wr W → Sce W Anyb (.agg #[.slice Ag k2 cg, .slice At k3 ct]) (if (0 : Int) = 0 then gs.map (shG y) else []) (if (0 : Int) = 0 then ts.map (shT y) else []) ∧ Kp No w W := fun W kW => by
                have hz5 := HZ5.out
                rw [if_pos rfl, if_pos rfl]
                refine ⟨⟨_, _, rfl, (((OG.out.kpx FG.out.kp fun i hi e => by have h1 := HBO.out i hi; have e : i = q := e; omega).kpx kW fun i hi e => by have h1 := HBO.out i hi; have e : i = w.heap.size + 1 := e; omega).rwp).any, ((FG.out.ow.kpx kW fun i hi e => by have h1 := (FG.out.ow.blk hi).1; have e : i = w.heap.size + 1 := e; omega).rwp).any⟩, ?_⟩
                exact ((K2.out.trans K5.out).step KK.out fun i hi e => by have e : i = q := e; omega).step kW fun i hi e => by have e : i = w.heap.size + 1 := e; omega
              refine bodyPost_ret (v := .tuple #[.agg #[.slice Ag k2 cg, .slice At k3 ct], .int .i64 0]) ?_ rfl ⟨_, rfl, fin _ ?_⟩
              · rw [results_cell2 rfl]
                go_simp
              exact ((Kp.refl (Only (w.heap.size + 1)) wr).setCell (p := ⟨w.heap.size + 1, 0, none⟩) (.inl rfl) _).setCell (p := ⟨w.heap.size + 1, 1, none⟩) (.inl rfl) _
end
end Go.Proofs.YtomoiihckbdjdaaGreat
