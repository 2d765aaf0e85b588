/-
  Contracts of isOrdered and Check.
-/
import Derived.Test.YtjmaingpiieioaaGreatZTall
import Derived.Test.YtjmaingpiieioaaGreatZIds
import Derived.Test.YtjmaingpiieioaaGreatZLost
import Derived.Test.YtjmaingpiieioaaGreatZTwice
namespace Go.Proofs.YtjmaingpiieioaaGreat
open Go.RowKit Go.Shelf

def ordB (gs : List GS) (ts : List TS) : Bool := decide (gs = orderG gs) && decide (ts = srtT ts)
set_option maxRecDepth 100000 in
set_option maxHeartbeats 1000000 in
theorem ordered_any {w : World} {P : Nat → Prop} {v : Value} {gs : List GS} {ts : List TS} (h : Sn w P v gs ts) (hl : gs.length ≤ 1000000) (hlt : ts.length ≤ 1000000) (hp : ∀ g ∈ gs, I64 g.id ∧ I64 g.par) (hnd : (gs.map (·.id)).Nodup) (hndt : (ts.map (·.id)).Nodup) :
    Calls Tryz.prog 33 #[v] w fun e w' => e = .returned (.bool (ordB gs ts)) ∧ Kp No w w' := by
  obtain ⟨vg, vt, rfl, hg, ht⟩ := id h
  have k1 := (Kp.refl No w).alloc (.cells #[vg, vt] 25)
  have b1 := Blk.new w 25 #[vg, vt]
  obtain ⟨w1, hw1⟩ : ∃ w1, w.alloc (.cells #[vg, vt] 25) = w1 := ⟨_, rfl⟩
  rw [hw1] at k1 b1
  have HO := hid (order_any (h.kp0 k1) hl hlt hp hnd hndt)
  have HG := hid (hg.kp0 k1)
  have HT := hid (ht.kp0 k1)
  have K1 := hid k1
  have B1 := hid b1
  have s0 := b1.cell 0
  have s1 := b1.cell 1
  simp only [List.getElem?_toArray, List.getElem?_cons_zero, List.getElem?_cons_succ] at s0 s1
  obtain ⟨eg, heg⟩ : ∃ eg, decide (gs = orderG gs) = eg := ⟨_, rfl⟩
  obtain ⟨et, het⟩ : ∃ et, decide (ts = srtT ts) = et := ⟨_, rfl⟩
  have HR := hid (show ordB gs ts = (eg && et) by unfold ordB; rw [heg, het])
  rw [HR.out]
  have HEG := hid heg
  have HET := hid het
  obtain ⟨A, c, rfl, _⟩ := hg
  obtain ⟨A2, c2, rfl, _⟩ := ht
  clear h k1 b1 heg het hl hlt hp hnd hndt
  cases eg
  all_goals (
    go_enter Tryz.func33, Tryz.ntmps33
    go_upto_region 1 with fail
    clear hw1
    go_wp2_with (first
      | (go_at_call 22
         refine HO.out.mono ?_
         rintro e w2 ⟨ug, ut, rfl, og, ot, k2⟩
         obtain ⟨n1, hn1⟩ : ∃ n1, (orderG gs).length = n1 := ⟨_, rfl⟩
         obtain ⟨n2, hn2⟩ : ∃ n2, (srtT ts).length = n2 := ⟨_, rfl⟩
         obtain ⟨Ag, cg, rfl⟩ := og.formN hn1
         obtain ⟨At, ct, rfl⟩ := ot.formN hn2
         have k3 := k2.alloc (.cells #[.slice Ag n1 cg, .slice At n2 ct] 25)
         have k23 := (Kp.refl No w2).alloc (.cells #[.slice Ag n1 cg, .slice At n2 ct] 25)
         have b3 := Blk.new w2 25 #[.slice Ag n1 cg, .slice At n2 ct]
         have HEQ := hid (eqlG_any (HG.out.kp0 k3) (og.kp0 k23).rwp)
         have HET2 := hid (fun q => eqlT_any ((HT.out.kp0 k3).kp0 ((Kp.refl No _).drewN q)) ((ot.kp0 k23).kp0 ((Kp.refl No _).drewN q)).rwp)
         have K3 := hid (K1.out.trans k3)
         have C1 := B1.out.kp0 k3
         have a0 := C1.cell 0
         have a1 := C1.cell 1
         have d0 := b3.cell 0
         have d1 := b3.cell 1
         simp only [List.getElem?_toArray, List.getElem?_cons_zero, List.getElem?_cons_succ] at a0 a1 d0 d1
         clear og ot k2 k3 k23 b3 C1 hn1 hn2)
      | (go_at_call 59
         refine HEQ.out.mono ?_
         rw [HEG.out]
         rintro e w4 ⟨rfl, q, rfl⟩)
      | (go_at_call 60
         refine (HET2.out q).mono ?_
         rw [HET.out]
         rintro e w5 ⟨rfl, q2, rfl⟩))
    go_ret
    exact ⟨rfl, K3.out.drewN _⟩)

open Classical in
noncomputable def ndB (l : List Int) : Bool := decide l.Nodup
/-- What is told of a scene. -/
noncomputable def checkS (gs : List GS) (ts : List TS) : Int :=
  match gs with
  | [] => 2
  | g0 :: gt =>
    if 4096 < (g0 :: gt).length ∨ 4096 < ts.length then 7
    else if (g0 :: gt).any wrongG = true ∨ ts.any wrongT = true then 1
    else if ¬ (idsOf (g0 :: gt) ts).Nodup then 9
    else if lostB g0 gt ts = true then 8
    else if ordB (g0 :: gt) ts = false then 5
    else if 16 ≤ tallG (g0 :: gt) then 10
    else 0
set_option maxRecDepth 100000 in
set_option maxHeartbeats 4000000 in
theorem check_any {w : World} {P : Nat → Prop} {v : Value} {gs : List GS} {ts : List TS} (h : Sn w P v gs ts) (hp : ∀ g ∈ gs, I64 g.id ∧ I64 g.par) (hpt : ∀ t ∈ ts, I64 t.gr) :
    Calls Tryz.prog 12 #[v] w fun e w' => e = .returned (.int .i64 (checkS gs ts)) ∧ Kp No w w' := by
  obtain ⟨vg, vt, rfl, hg, ht⟩ := id h
  have k0 := (Kp.refl No w).alloc (.cells #[vg, vt] 25)
  have b1 := Blk.new w 25 #[vg, vt]
  obtain ⟨w1, hw1⟩ : ∃ w1, w.alloc (.cells #[vg, vt] 25) = w1 := ⟨_, rfl⟩
  rw [hw1] at k0 b1
  have K0 := hid k0
  have K1 := hid (Kp.refl No w1)
  have B1 := hid b1
  have h1 := h.kp0 k0
  have HG := hid (hg.kp0 k0)
  have HT := hid (ht.kp0 k0)
  have s0 := b1.cell 0
  have s1 := b1.cell 1
  simp only [List.getElem?_toArray, List.getElem?_cons_zero, List.getElem?_cons_succ] at s0 s1
  have EG := hid (show ∀ args w, (callFunc 28 args).run Tryz.prog w = .ok (.enter 28 args) w from enters_of Tryz.func28 (by kernel_rfl) rfl)
  have ET := hid (show ∀ args w, (callFunc 30 args).run Tryz.prog w = .ok (.enter 30 args) w from enters_of Tryz.func30 (by kernel_rfl) rfl)
  have hA := fun (W : World) (k : Kp No w1 W) => anyG_any (HG.out.kp0 k) wrongG 28 #[] EG.out (fun W2 x hB => (wrongG_any x W2).mono fun e w' h => ⟨h.1, below_of_kp ((kp_of_below hB).trans h.2) (Nat.le_refl _)⟩)
  have hB := fun (W : World) (k : Kp No w1 W) => anyT_any (HT.out.kp0 k) wrongT 30 #[] ET.out (fun W2 x hB => (wrongT_any x W2).mono fun e w' h => ⟨h.1, below_of_kp ((kp_of_below hB).trans h.2) (Nat.le_refl _)⟩)
  obtain ⟨A, c, rfl, _⟩ := hg
  obtain ⟨A2, c2, rfl, _⟩ := ht
  obtain ⟨n, hn⟩ : ∃ n, gs.length = n := ⟨_, rfl⟩
  obtain ⟨m, hm⟩ : ∃ m, ts.length = m := ⟨_, rfl⟩
  rw [hn] at s0 hw1 hA b1 B1 ⊢
  rw [hm] at s1 hw1 hB b1 B1 ⊢
  cases gs with
  | nil =>
    have hn : 0 = n := hn
    subst hn
    have HR := hid (show checkS [] ts = 2 from rfl)
    clear h h1 k0 b1 hA hB hp hpt
    go_enter Tryz.func12, Tryz.ntmps12
    go_upto_region 1 with fail
    clear hw1
    go_wp2_with fail
    go_ret
    exact ⟨by rw [HR.out]; rfl, K0.out⟩
  | cons g0 gt =>
    have hn0 : 0 < n := by rw [← hn]; simp
    by_cases hb1 : 4096 < n
    · have HR := hid (show checkS (g0 :: gt) ts = 7 by
        show (if 4096 < (g0 :: gt).length ∨ 4096 < ts.length then _ else _) = _
        rw [if_pos (.inl (by rw [hn]; exact hb1))])
      clear h h1 k0 b1 hA hB hp hpt hn hm HG HT
      go_enter Tryz.func12, Tryz.ntmps12
      go_upto_region 1 with fail
      clear hw1
      go_wp2_with fail
      go_ret
      exact ⟨by rw [HR.out]; rfl, K0.out⟩
    · by_cases hb2 : 4096 < m
      · have HR := hid (show checkS (g0 :: gt) ts = 7 by
          show (if 4096 < (g0 :: gt).length ∨ 4096 < ts.length then _ else _) = _
          rw [if_pos (.inr (by rw [hm]; exact hb2))])
        clear h h1 k0 b1 hA hB hp hpt hn hm HG HT
        go_enter Tryz.func12, Tryz.ntmps12
        go_upto_region 1 with fail
        clear hw1
        go_wp2_with fail
        go_ret
        exact ⟨by rw [HR.out]; rfl, K0.out⟩
      · have hc1 : checkS (g0 :: gt) ts = if (g0 :: gt).any wrongG = true ∨ ts.any wrongT = true then 1 else if ¬ (idsOf (g0 :: gt) ts).Nodup then 9 else if lostB g0 gt ts = true then 8 else if ordB (g0 :: gt) ts = false then 5 else if 16 ≤ tallG (g0 :: gt) then 10 else 0 := by
          show (if 4096 < (g0 :: gt).length ∨ 4096 < ts.length then _ else _) = _
          rw [if_neg (by rw [hn, hm]; omega)]
        have HI := hid (fun (W : World) (k : Kp No w1 W) => ids_any (h1.kp0 k) (by rw [hn]; omega) (by rw [hm]; omega))
        have HTW := hid (fun (W : World) (u : Value) (w0 : World) (o : Ow W w0.heap.size 3 1 zI u (idsOf (g0 :: gt) ts)) => twice_any (o.rwp (d := (0 : Int))) (by unfold idsOf; rw [List.length_append, List.length_map, List.length_map, hn, hm]; omega))
        have HL := hid (fun (W : World) (k : Kp No w1 W) => lost_any (h1.kp0 k) (by rw [hn]; omega) hp hpt)
        have HO' := fun (hnd : (idsOf (g0 :: gt) ts).Nodup) (W : World) (k : Kp No w1 W) => ordered_any (h1.kp0 k) (by rw [hn]; omega) (by rw [hm]; omega) hp (List.nodup_append.1 hnd).1 (List.nodup_append.1 hnd).2.1
        have HTL' := fun (hnd : (idsOf (g0 :: gt) ts).Nodup) (W : World) (k : Kp No w1 W) => tall_any (h1.kp0 k) (by rw [hn]; omega) hp (List.nodup_append.1 hnd).1
        rw [hn] at HI HL HO' HTL'
        rw [hm] at HI HL HO' HTL'
        obtain ⟨a, ha⟩ : ∃ a, (g0 :: gt).any wrongG = a := ⟨_, rfl⟩
        obtain ⟨b, hb⟩ : ∃ b, ts.any wrongT = b := ⟨_, rfl⟩
        rw [ha] at hc1 hA
        rw [hb] at hc1 hB
        have HA := hid hA
        have HB := hid hB
        obtain ⟨lo, hlo⟩ : ∃ lo, lostB g0 gt ts = lo := ⟨_, rfl⟩
        rw [hlo] at hc1 HL
        clear h h1 k0 b1 hA hB hp hpt hn hm HG HT ha hb hlo
        cases a
        · cases b
          · by_cases hnd : (idsOf (g0 :: gt) ts).Nodup
            · have HO := HO' hnd
              have HTL := HTL' hnd
              rw [decide_eq_true hnd] at HTW
              rw [if_neg (by simp), if_neg (by simpa using hnd)] at hc1
              obtain ⟨oo, hoo⟩ : ∃ oo, ordB (g0 :: gt) ts = oo := ⟨_, rfl⟩
              obtain ⟨tt, htt⟩ : ∃ tt, tallG (g0 :: gt) = tt := ⟨_, rfl⟩
              rw [hoo] at hc1 HO
              rw [htt] at hc1 HTL
              have HO := hid HO
              have HTL := hid HTL
              clear HO' HTL' hnd hoo htt
              cases lo
              · cases oo
                · rw [if_neg (by simp), if_pos rfl] at hc1
                  have HR := hid hc1
                  clear hc1
                  go_enter Tryz.func12, Tryz.ntmps12
                  go_upto_region 1 with fail
                  clear hw1
                  go_wp2_with (first
                    | (go_at_call 27
                       refine (HA.out _ K1.out).mono ?_
                       rintro e w2 ⟨rfl, k2⟩
                       have K2 := hid (K1.out.trans k2)
                       have B2 := hid (B1.out.kp0 k2)
                       have a20 := B2.out.cell 0
                       have a21 := B2.out.cell 1
                       simp only [List.getElem?_toArray, List.getElem?_cons_zero, List.getElem?_cons_succ] at a20 a21
                       clear k2)
                    | (go_at_call 29
                       refine (HB.out _ K2.out).mono ?_
                       rintro e w3 ⟨rfl, k3⟩
                       have K3 := hid (K2.out.trans k3)
                       have B3 := hid (B2.out.kp0 k3)
                       have a30 := B3.out.cell 0
                       have a31 := B3.out.cell 1
                       simp only [List.getElem?_toArray, List.getElem?_cons_zero, List.getElem?_cons_succ] at a30 a31
                       clear k3)
                    | (go_at_call 14
                       refine (HI.out _ K3.out).mono ?_
                       rintro e w4 ⟨u, rfl, o4, k4⟩
                       have O4 := hid o4
                       have K4 := hid (K3.out.trans k4)
                       have B4 := hid (B3.out.kp0 k4)
                       clear o4 k4)
                    | (go_at_call 31
                       refine (HTW.out _ _ _ O4.out).mono ?_
                       rintro e w5 ⟨rfl, k5⟩
                       have K5 := hid (K4.out.trans k5)
                       have B5 := hid (B4.out.kp0 k5)
                       have a50 := B5.out.cell 0
                       have a51 := B5.out.cell 1
                       simp only [List.getElem?_toArray, List.getElem?_cons_zero, List.getElem?_cons_succ] at a50 a51
                       clear k5)
                    | (go_at_call 32
                       refine (HL.out _ K5.out).mono ?_
                       rintro e w6 ⟨rfl, k6⟩
                       have K6 := hid (K5.out.trans k6)
                       have B6 := hid (B5.out.kp0 k6)
                       have a60 := B6.out.cell 0
                       have a61 := B6.out.cell 1
                       simp only [List.getElem?_toArray, List.getElem?_cons_zero, List.getElem?_cons_succ] at a60 a61
                       clear k6)
                    | (go_at_call 33
                       refine (HO.out _ K6.out).mono ?_
                       rintro e w7 ⟨rfl, k7⟩
                       have K7 := hid (K6.out.trans k7)
                       have B7 := hid (B6.out.kp0 k7)
                       have a70 := B7.out.cell 0
                       have a71 := B7.out.cell 1
                       simp only [List.getElem?_toArray, List.getElem?_cons_zero, List.getElem?_cons_succ] at a70 a71
                       clear k7)
                    | (go_at_call 16
                       refine (HTL.out _ K7.out).mono ?_
                       rintro e w8 ⟨rfl, k8⟩
                       have K8 := hid (K7.out.trans k8)
                       clear k8))
                  go_ret
                  exact ⟨by rw [HR.out]; rfl, (K0.out.trans K7.out)⟩
                · rw [if_neg (by simp), if_neg (by simp)] at hc1
                  by_cases h16 : 16 ≤ tt
                  · rw [if_pos h16] at hc1
                    have h16' : (16 : Int) ≤ (tt : Int) := by omega
                    have HR := hid hc1
                    clear hc1
                    go_enter Tryz.func12, Tryz.ntmps12
                    go_upto_region 1 with fail
                    clear hw1
                    go_wp2_with (first
                      | (go_at_call 27
                         refine (HA.out _ K1.out).mono ?_
                         rintro e w2 ⟨rfl, k2⟩
                         have K2 := hid (K1.out.trans k2)
                         have B2 := hid (B1.out.kp0 k2)
                         have a20 := B2.out.cell 0
                         have a21 := B2.out.cell 1
                         simp only [List.getElem?_toArray, List.getElem?_cons_zero, List.getElem?_cons_succ] at a20 a21
                         clear k2)
                      | (go_at_call 29
                         refine (HB.out _ K2.out).mono ?_
                         rintro e w3 ⟨rfl, k3⟩
                         have K3 := hid (K2.out.trans k3)
                         have B3 := hid (B2.out.kp0 k3)
                         have a30 := B3.out.cell 0
                         have a31 := B3.out.cell 1
                         simp only [List.getElem?_toArray, List.getElem?_cons_zero, List.getElem?_cons_succ] at a30 a31
                         clear k3)
                      | (go_at_call 14
                         refine (HI.out _ K3.out).mono ?_
                         rintro e w4 ⟨u, rfl, o4, k4⟩
                         have O4 := hid o4
                         have K4 := hid (K3.out.trans k4)
                         have B4 := hid (B3.out.kp0 k4)
                         clear o4 k4)
                      | (go_at_call 31
                         refine (HTW.out _ _ _ O4.out).mono ?_
                         rintro e w5 ⟨rfl, k5⟩
                         have K5 := hid (K4.out.trans k5)
                         have B5 := hid (B4.out.kp0 k5)
                         have a50 := B5.out.cell 0
                         have a51 := B5.out.cell 1
                         simp only [List.getElem?_toArray, List.getElem?_cons_zero, List.getElem?_cons_succ] at a50 a51
                         clear k5)
                      | (go_at_call 32
                         refine (HL.out _ K5.out).mono ?_
                         rintro e w6 ⟨rfl, k6⟩
                         have K6 := hid (K5.out.trans k6)
                         have B6 := hid (B5.out.kp0 k6)
                         have a60 := B6.out.cell 0
                         have a61 := B6.out.cell 1
                         simp only [List.getElem?_toArray, List.getElem?_cons_zero, List.getElem?_cons_succ] at a60 a61
                         clear k6)
                      | (go_at_call 33
                         refine (HO.out _ K6.out).mono ?_
                         rintro e w7 ⟨rfl, k7⟩
                         have K7 := hid (K6.out.trans k7)
                         have B7 := hid (B6.out.kp0 k7)
                         have a70 := B7.out.cell 0
                         have a71 := B7.out.cell 1
                         simp only [List.getElem?_toArray, List.getElem?_cons_zero, List.getElem?_cons_succ] at a70 a71
                         clear k7)
                      | (go_at_call 16
                         refine (HTL.out _ K7.out).mono ?_
                         rintro e w8 ⟨rfl, k8⟩
                         have K8 := hid (K7.out.trans k8)
                         clear k8))
                    go_ret
                    exact ⟨by rw [HR.out]; rfl, (K0.out.trans K8.out)⟩
                  · rw [if_neg h16] at hc1
                    have h16' : ¬ (16 : Int) ≤ (tt : Int) := by omega
                    have HR := hid hc1
                    clear hc1
                    go_enter Tryz.func12, Tryz.ntmps12
                    go_upto_region 1 with fail
                    clear hw1
                    go_wp2_with (first
                      | (go_at_call 27
                         refine (HA.out _ K1.out).mono ?_
                         rintro e w2 ⟨rfl, k2⟩
                         have K2 := hid (K1.out.trans k2)
                         have B2 := hid (B1.out.kp0 k2)
                         have a20 := B2.out.cell 0
                         have a21 := B2.out.cell 1
                         simp only [List.getElem?_toArray, List.getElem?_cons_zero, List.getElem?_cons_succ] at a20 a21
                         clear k2)
                      | (go_at_call 29
                         refine (HB.out _ K2.out).mono ?_
                         rintro e w3 ⟨rfl, k3⟩
                         have K3 := hid (K2.out.trans k3)
                         have B3 := hid (B2.out.kp0 k3)
                         have a30 := B3.out.cell 0
                         have a31 := B3.out.cell 1
                         simp only [List.getElem?_toArray, List.getElem?_cons_zero, List.getElem?_cons_succ] at a30 a31
                         clear k3)
                      | (go_at_call 14
                         refine (HI.out _ K3.out).mono ?_
                         rintro e w4 ⟨u, rfl, o4, k4⟩
                         have O4 := hid o4
                         have K4 := hid (K3.out.trans k4)
                         have B4 := hid (B3.out.kp0 k4)
                         clear o4 k4)
                      | (go_at_call 31
                         refine (HTW.out _ _ _ O4.out).mono ?_
                         rintro e w5 ⟨rfl, k5⟩
                         have K5 := hid (K4.out.trans k5)
                         have B5 := hid (B4.out.kp0 k5)
                         have a50 := B5.out.cell 0
                         have a51 := B5.out.cell 1
                         simp only [List.getElem?_toArray, List.getElem?_cons_zero, List.getElem?_cons_succ] at a50 a51
                         clear k5)
                      | (go_at_call 32
                         refine (HL.out _ K5.out).mono ?_
                         rintro e w6 ⟨rfl, k6⟩
                         have K6 := hid (K5.out.trans k6)
                         have B6 := hid (B5.out.kp0 k6)
                         have a60 := B6.out.cell 0
                         have a61 := B6.out.cell 1
                         simp only [List.getElem?_toArray, List.getElem?_cons_zero, List.getElem?_cons_succ] at a60 a61
                         clear k6)
                      | (go_at_call 33
                         refine (HO.out _ K6.out).mono ?_
                         rintro e w7 ⟨rfl, k7⟩
                         have K7 := hid (K6.out.trans k7)
                         have B7 := hid (B6.out.kp0 k7)
                         have a70 := B7.out.cell 0
                         have a71 := B7.out.cell 1
                         simp only [List.getElem?_toArray, List.getElem?_cons_zero, List.getElem?_cons_succ] at a70 a71
                         clear k7)
                      | (go_at_call 16
                         refine (HTL.out _ K7.out).mono ?_
                         rintro e w8 ⟨rfl, k8⟩
                         have K8 := hid (K7.out.trans k8)
                         clear k8))
                    go_ret
                    exact ⟨by rw [HR.out]; rfl, (K0.out.trans K8.out)⟩
              · rw [if_pos rfl] at hc1
                have HR := hid hc1
                clear hc1
                go_enter Tryz.func12, Tryz.ntmps12
                go_upto_region 1 with fail
                clear hw1
                go_wp2_with (first
                  | (go_at_call 27
                     refine (HA.out _ K1.out).mono ?_
                     rintro e w2 ⟨rfl, k2⟩
                     have K2 := hid (K1.out.trans k2)
                     have B2 := hid (B1.out.kp0 k2)
                     have a20 := B2.out.cell 0
                     have a21 := B2.out.cell 1
                     simp only [List.getElem?_toArray, List.getElem?_cons_zero, List.getElem?_cons_succ] at a20 a21
                     clear k2)
                  | (go_at_call 29
                     refine (HB.out _ K2.out).mono ?_
                     rintro e w3 ⟨rfl, k3⟩
                     have K3 := hid (K2.out.trans k3)
                     have B3 := hid (B2.out.kp0 k3)
                     have a30 := B3.out.cell 0
                     have a31 := B3.out.cell 1
                     simp only [List.getElem?_toArray, List.getElem?_cons_zero, List.getElem?_cons_succ] at a30 a31
                     clear k3)
                  | (go_at_call 14
                     refine (HI.out _ K3.out).mono ?_
                     rintro e w4 ⟨u, rfl, o4, k4⟩
                     have O4 := hid o4
                     have K4 := hid (K3.out.trans k4)
                     have B4 := hid (B3.out.kp0 k4)
                     clear o4 k4)
                  | (go_at_call 31
                     refine (HTW.out _ _ _ O4.out).mono ?_
                     rintro e w5 ⟨rfl, k5⟩
                     have K5 := hid (K4.out.trans k5)
                     have B5 := hid (B4.out.kp0 k5)
                     have a50 := B5.out.cell 0
                     have a51 := B5.out.cell 1
                     simp only [List.getElem?_toArray, List.getElem?_cons_zero, List.getElem?_cons_succ] at a50 a51
                     clear k5)
                  | (go_at_call 32
                     refine (HL.out _ K5.out).mono ?_
                     rintro e w6 ⟨rfl, k6⟩
                     have K6 := hid (K5.out.trans k6)
                     have B6 := hid (B5.out.kp0 k6)
                     have a60 := B6.out.cell 0
                     have a61 := B6.out.cell 1
                     simp only [List.getElem?_toArray, List.getElem?_cons_zero, List.getElem?_cons_succ] at a60 a61
                     clear k6)
                  | (go_at_call 33
                     refine (HO.out _ K6.out).mono ?_
                     rintro e w7 ⟨rfl, k7⟩
                     have K7 := hid (K6.out.trans k7)
                     have B7 := hid (B6.out.kp0 k7)
                     have a70 := B7.out.cell 0
                     have a71 := B7.out.cell 1
                     simp only [List.getElem?_toArray, List.getElem?_cons_zero, List.getElem?_cons_succ] at a70 a71
                     clear k7)
                  | (go_at_call 16
                     refine (HTL.out _ K7.out).mono ?_
                     rintro e w8 ⟨rfl, k8⟩
                     have K8 := hid (K7.out.trans k8)
                     clear k8))
                go_ret
                exact ⟨by rw [HR.out]; rfl, (K0.out.trans K6.out)⟩
            · rw [decide_eq_false hnd] at HTW
              rw [if_neg (by simp), if_pos (by simpa using hnd)] at hc1
              have HR := hid hc1
              clear HO' HTL' hnd hc1
              go_enter Tryz.func12, Tryz.ntmps12
              go_upto_region 1 with fail
              clear hw1
              go_wp2_with (first
                | (go_at_call 27
                   refine (HA.out _ K1.out).mono ?_
                   rintro e w2 ⟨rfl, k2⟩
                   have K2 := hid (K1.out.trans k2)
                   have B2 := hid (B1.out.kp0 k2)
                   have a20 := B2.out.cell 0
                   have a21 := B2.out.cell 1
                   simp only [List.getElem?_toArray, List.getElem?_cons_zero, List.getElem?_cons_succ] at a20 a21
                   clear k2)
                | (go_at_call 29
                   refine (HB.out _ K2.out).mono ?_
                   rintro e w3 ⟨rfl, k3⟩
                   have K3 := hid (K2.out.trans k3)
                   have B3 := hid (B2.out.kp0 k3)
                   have a30 := B3.out.cell 0
                   have a31 := B3.out.cell 1
                   simp only [List.getElem?_toArray, List.getElem?_cons_zero, List.getElem?_cons_succ] at a30 a31
                   clear k3)
                | (go_at_call 14
                   refine (HI.out _ K3.out).mono ?_
                   rintro e w4 ⟨u, rfl, o4, k4⟩
                   have O4 := hid o4
                   have K4 := hid (K3.out.trans k4)
                   have B4 := hid (B3.out.kp0 k4)
                   clear o4 k4)
                | (go_at_call 31
                   refine (HTW.out _ _ _ O4.out).mono ?_
                   rintro e w5 ⟨rfl, k5⟩
                   have K5 := hid (K4.out.trans k5)
                   have B5 := hid (B4.out.kp0 k5)
                   have a50 := B5.out.cell 0
                   have a51 := B5.out.cell 1
                   simp only [List.getElem?_toArray, List.getElem?_cons_zero, List.getElem?_cons_succ] at a50 a51
                   clear k5)
                | (go_at_call 32
                   refine (HL.out _ K5.out).mono ?_
                   rintro e w6 ⟨rfl, k6⟩
                   have K6 := hid (K5.out.trans k6)
                   have B6 := hid (B5.out.kp0 k6)
                   have a60 := B6.out.cell 0
                   have a61 := B6.out.cell 1
                   simp only [List.getElem?_toArray, List.getElem?_cons_zero, List.getElem?_cons_succ] at a60 a61
                   clear k6)
                | (go_at_call 33
                   refine (HO.out _ K6.out).mono ?_
                   rintro e w7 ⟨rfl, k7⟩
                   have K7 := hid (K6.out.trans k7)
                   have B7 := hid (B6.out.kp0 k7)
                   have a70 := B7.out.cell 0
                   have a71 := B7.out.cell 1
                   simp only [List.getElem?_toArray, List.getElem?_cons_zero, List.getElem?_cons_succ] at a70 a71
                   clear k7)
                | (go_at_call 16
                   refine (HTL.out _ K7.out).mono ?_
                   rintro e w8 ⟨rfl, k8⟩
                   have K8 := hid (K7.out.trans k8)
                   clear k8))
              go_ret
              exact ⟨by rw [HR.out]; rfl, (K0.out.trans K5.out)⟩
          · rw [if_pos (by simp)] at hc1
            have HR := hid hc1
            clear HO' HTL' hc1
            go_enter Tryz.func12, Tryz.ntmps12
            go_upto_region 1 with fail
            clear hw1
            go_wp2_with (first
              | (go_at_call 27
                 refine (HA.out _ K1.out).mono ?_
                 rintro e w2 ⟨rfl, k2⟩
                 have K2 := hid (K1.out.trans k2)
                 have B2 := hid (B1.out.kp0 k2)
                 have a20 := B2.out.cell 0
                 have a21 := B2.out.cell 1
                 simp only [List.getElem?_toArray, List.getElem?_cons_zero, List.getElem?_cons_succ] at a20 a21
                 clear k2)
              | (go_at_call 29
                 refine (HB.out _ K2.out).mono ?_
                 rintro e w3 ⟨rfl, k3⟩
                 have K3 := hid (K2.out.trans k3)
                 have B3 := hid (B2.out.kp0 k3)
                 have a30 := B3.out.cell 0
                 have a31 := B3.out.cell 1
                 simp only [List.getElem?_toArray, List.getElem?_cons_zero, List.getElem?_cons_succ] at a30 a31
                 clear k3)
              | (go_at_call 14
                 refine (HI.out _ K3.out).mono ?_
                 rintro e w4 ⟨u, rfl, o4, k4⟩
                 have O4 := hid o4
                 have K4 := hid (K3.out.trans k4)
                 have B4 := hid (B3.out.kp0 k4)
                 clear o4 k4)
              | (go_at_call 31
                 refine (HTW.out _ _ _ O4.out).mono ?_
                 rintro e w5 ⟨rfl, k5⟩
                 have K5 := hid (K4.out.trans k5)
                 have B5 := hid (B4.out.kp0 k5)
                 have a50 := B5.out.cell 0
                 have a51 := B5.out.cell 1
                 simp only [List.getElem?_toArray, List.getElem?_cons_zero, List.getElem?_cons_succ] at a50 a51
                 clear k5)
              | (go_at_call 32
                 refine (HL.out _ K5.out).mono ?_
                 rintro e w6 ⟨rfl, k6⟩
                 have K6 := hid (K5.out.trans k6)
                 have B6 := hid (B5.out.kp0 k6)
                 have a60 := B6.out.cell 0
                 have a61 := B6.out.cell 1
                 simp only [List.getElem?_toArray, List.getElem?_cons_zero, List.getElem?_cons_succ] at a60 a61
                 clear k6)
              | (go_at_call 33
                 refine (HO.out _ K6.out).mono ?_
                 rintro e w7 ⟨rfl, k7⟩
                 have K7 := hid (K6.out.trans k7)
                 have B7 := hid (B6.out.kp0 k7)
                 have a70 := B7.out.cell 0
                 have a71 := B7.out.cell 1
                 simp only [List.getElem?_toArray, List.getElem?_cons_zero, List.getElem?_cons_succ] at a70 a71
                 clear k7)
              | (go_at_call 16
                 refine (HTL.out _ K7.out).mono ?_
                 rintro e w8 ⟨rfl, k8⟩
                 have K8 := hid (K7.out.trans k8)
                 clear k8))
            go_ret
            exact ⟨by rw [HR.out]; rfl, (K0.out.trans K3.out)⟩
        · rw [if_pos (by simp)] at hc1
          have HR := hid hc1
          clear HO' HTL' hc1
          go_enter Tryz.func12, Tryz.ntmps12
          go_upto_region 1 with fail
          clear hw1
          go_wp2_with (first
            | (go_at_call 27
               refine (HA.out _ K1.out).mono ?_
               rintro e w2 ⟨rfl, k2⟩
               have K2 := hid (K1.out.trans k2)
               have B2 := hid (B1.out.kp0 k2)
               have a20 := B2.out.cell 0
               have a21 := B2.out.cell 1
               simp only [List.getElem?_toArray, List.getElem?_cons_zero, List.getElem?_cons_succ] at a20 a21
               clear k2)
            | (go_at_call 29
               refine (HB.out _ K2.out).mono ?_
               rintro e w3 ⟨rfl, k3⟩
               have K3 := hid (K2.out.trans k3)
               have B3 := hid (B2.out.kp0 k3)
               have a30 := B3.out.cell 0
               have a31 := B3.out.cell 1
               simp only [List.getElem?_toArray, List.getElem?_cons_zero, List.getElem?_cons_succ] at a30 a31
               clear k3)
            | (go_at_call 14
               refine (HI.out _ K3.out).mono ?_
               rintro e w4 ⟨u, rfl, o4, k4⟩
               have O4 := hid o4
               have K4 := hid (K3.out.trans k4)
               have B4 := hid (B3.out.kp0 k4)
               clear o4 k4)
            | (go_at_call 31
               refine (HTW.out _ _ _ O4.out).mono ?_
               rintro e w5 ⟨rfl, k5⟩
               have K5 := hid (K4.out.trans k5)
               have B5 := hid (B4.out.kp0 k5)
               have a50 := B5.out.cell 0
               have a51 := B5.out.cell 1
               simp only [List.getElem?_toArray, List.getElem?_cons_zero, List.getElem?_cons_succ] at a50 a51
               clear k5)
            | (go_at_call 32
               refine (HL.out _ K5.out).mono ?_
               rintro e w6 ⟨rfl, k6⟩
               have K6 := hid (K5.out.trans k6)
               have B6 := hid (B5.out.kp0 k6)
               have a60 := B6.out.cell 0
               have a61 := B6.out.cell 1
               simp only [List.getElem?_toArray, List.getElem?_cons_zero, List.getElem?_cons_succ] at a60 a61
               clear k6)
            | (go_at_call 33
               refine (HO.out _ K6.out).mono ?_
               rintro e w7 ⟨rfl, k7⟩
               have K7 := hid (K6.out.trans k7)
               have B7 := hid (B6.out.kp0 k7)
               have a70 := B7.out.cell 0
               have a71 := B7.out.cell 1
               simp only [List.getElem?_toArray, List.getElem?_cons_zero, List.getElem?_cons_succ] at a70 a71
               clear k7)
            | (go_at_call 16
               refine (HTL.out _ K7.out).mono ?_
               rintro e w8 ⟨rfl, k8⟩
               have K8 := hid (K7.out.trans k8)
               clear k8))
          go_ret
          exact ⟨by rw [HR.out]; rfl, (K0.out.trans K2.out)⟩
end Go.Proofs.YtjmaingpiieioaaGreat
