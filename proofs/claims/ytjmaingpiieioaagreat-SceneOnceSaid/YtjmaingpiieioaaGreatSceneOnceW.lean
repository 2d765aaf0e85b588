/-
  The walk of SceneOnce.
-/
import Derived.Test.YtjmaingpiieioaaGreatZOnce
import Derived.Test.YtjmaingpiieioaaGreatZSame
import Derived.Test.YtjmaingpiieioaaGreatZOpen
import Derived.Deep.RegionHeldLaw
namespace Go.Proofs.YtjmaingpiieioaaGreat
open Go.RowKit Go.Shelf

theorem same_is {w : World} {P Q : Nat → Prop} {v u : Value} {gs gs' : List GS} {ts ts' : List TS} {q : Bool} (h : Sn w P v gs ts) (h' : Sn w Q u gs' ts') (hq : decide (gs = gs' ∧ ts = ts') = q) :
    Calls Tryz.prog 20 #[v, u] w fun e w' => e = .returned (.bool q) ∧ Kp No w w' := by
  rw [← hq]
  exact same_any h h'
theorem order_is {w : World} {P : Nat → Prop} {v : Value} {gs gs' : List GS} {ts ts' : List TS} (h : Sn w P v gs ts) (hl : gs.length ≤ 1000000) (hlt : ts.length ≤ 1000000) (hp : ∀ g ∈ gs, I64 g.id ∧ I64 g.par) (hnd : (gs.map (·.id)).Nodup) (hndt : (ts.map (·.id)).Nodup) (hg : orderG gs = gs') (ht : srtT ts = ts') :
    Calls Tryz.prog 22 #[v] w fun e w' => ∃ o, e = .returned o ∧ Sn w' Anyb o gs' ts' ∧ Kp No w w' := by
  refine (order_any h hl hlt hp hnd hndt).mono ?_
  rintro e w' ⟨ug, ut, rfl, h1, h2, h3⟩
  rw [hg] at h1
  rw [ht] at h2
  exact ⟨_, rfl, ⟨_, _, rfl, h1.rwp.any, h2.rwp.any⟩, h3⟩
theorem check_is {w : World} {P : Nat → Prop} {v : Value} {gs : List GS} {ts : List TS} {c : Int} (h : Sn w P v gs ts) (hp : ∀ g ∈ gs, I64 g.id ∧ I64 g.par) (hpt : ∀ t ∈ ts, I64 t.gr) (hc : checkS gs ts = c) :
    Calls Tryz.prog 12 #[v] w fun e w' => e = .returned (.int .i64 c) ∧ Kp No w w' := by
  rw [← hc]
  exact check_any h hp hpt
theorem few_is {w : World} {P : Nat → Prop} {v : Value} {gs : List GS} {ts : List TS} {q : Bool} (h : Sn w P v gs ts) (hq : few gs ts = q) :
    Calls Tryz.prog 10 #[v] w fun e w' => e = .returned (.bool q) ∧ Kp No w w' := by
  rw [← hq]
  exact few_any h
/-- What the two scenes' own boxes hold stays. -/
structure SY (w4 : World) (sb tb : Nat) (w : World) : Prop where
  kp : Kp No w4 w
  s : sb < w4.heap.size
  t : tb < w4.heap.size
section
variable {w4 w w' : World} {sb tb : Nat} {a b c d : Value}
theorem SY.kpa (h : w.cell? ⟨sb, 0, none⟩ = some a ∧ w.cell? ⟨sb, 1, none⟩ = some b ∧ w.cell? ⟨tb, 0, none⟩ = some c ∧ w.cell? ⟨tb, 1, none⟩ = some d ∧ SY w4 sb tb w) : Kp No w4 w := h.2.2.2.2.kp
theorem SY.step (h : w.cell? ⟨sb, 0, none⟩ = some a ∧ w.cell? ⟨sb, 1, none⟩ = some b ∧ w.cell? ⟨tb, 0, none⟩ = some c ∧ w.cell? ⟨tb, 1, none⟩ = some d ∧ SY w4 sb tb w) (k : Kp No w w') :
    w'.cell? ⟨sb, 0, none⟩ = some a ∧ w'.cell? ⟨sb, 1, none⟩ = some b ∧ w'.cell? ⟨tb, 0, none⟩ = some c ∧ w'.cell? ⟨tb, 1, none⟩ = some d ∧ SY w4 sb tb w' := by
  obtain ⟨h1, h2, h3, h4, h5⟩ := h
  have hs := Nat.lt_of_lt_of_le h5.s h5.kp.size
  have ht := Nat.lt_of_lt_of_le h5.t h5.kp.size
  exact ⟨(k.cell (p := ⟨sb, 0, none⟩) hs id).trans h1, (k.cell (p := ⟨sb, 1, none⟩) hs id).trans h2, (k.cell (p := ⟨tb, 0, none⟩) ht id).trans h3, (k.cell (p := ⟨tb, 1, none⟩) ht id).trans h4, h5.kp.trans k, h5.s, h5.t⟩
end
set_option maxRecDepth 100000 in
set_option maxHeartbeats 4000000 in
theorem sceneOnce_walk (w : World) (by' : Int) {v : Value} {gs : List GS} {ts : List TS} (h : SnI w v gs ts) (hby : 0 ≤ by' ∧ by' ≤ 255) :
    Calls Tryz.prog 5 #[v, .int .u8 by'] w fun e w' => e = .returned (.bool true) ∧ Kp No w w' := by
  obtain ⟨hS, hGI, hTI⟩ := h
  obtain ⟨vg, vt, rfl, hg, ht⟩ := id hS
  have hp : ∀ g ∈ gs, I64 g.id ∧ I64 g.par := fun g hg => ⟨(hGI g hg).id, (hGI g hg).par⟩
  have hpt : ∀ t ∈ ts, I64 t.gr := fun t ht => (hTI t ht).gr
  have k0 := (Kp.refl No w).alloc (.cells #[vg, vt] 25)
  have b0 := Blk.new w 25 #[vg, vt]
  obtain ⟨w0, hw0⟩ : ∃ w0, w.alloc (.cells #[vg, vt] 25) = w0 := ⟨_, rfl⟩
  rw [hw0] at k0 b0
  have s0 := b0.cell 0
  have s1 := b0.cell 1
  simp only [List.getElem?_toArray, List.getElem?_cons_zero, List.getElem?_cons_succ] at s0 s1
  have K0 := hid k0
  have B0 := hid b0
  have HS := hid (hS.kp0 k0)
  obtain ⟨fb, hfb⟩ : ∃ fb, few gs ts = fb := ⟨_, rfl⟩
  obtain ⟨ce, hce⟩ : ∃ ce, checkS gs ts = ce := ⟨_, rfl⟩
  have HF := hid (fun (W : World) (k : Kp No w0 W) => few_is (HS.out.kp0 k) hfb)
  have HC := hid (fun (W : World) (k : Kp No w0 W) => check_is (HS.out.kp0 k) hp hpt hce)
  have HCE := hid hce
  have HFB := hid hfb
  have HP := hid hp
  have HPT := hid hpt
  obtain ⟨A, c, rfl, _⟩ := hg
  obtain ⟨A2, c2, rfl, _⟩ := ht
  obtain ⟨n, hn⟩ : ∃ n, gs.length = n := ⟨_, rfl⟩
  obtain ⟨m, hm⟩ : ∃ m, ts.length = m := ⟨_, rfl⟩
  rw [hn] at HS HF HC s0 hw0 B0 ⊢
  rw [hm] at HS HF HC s1 hw0 B0 ⊢
  have HN := hid hn
  have HM := hid hm
  clear hS hGI hTI hp hpt k0 b0 hfb hce hn hm
  cases fb
  · go_enter Tryz.func5, Tryz.ntmps5
    go_upto_region 1 with fail
    clear hw0
    go_wp2_with (first
      | (go_at_call 9
         with_reducible refine (awake_any w0).mono ?_
         rintro e w1 ⟨rfl, k1⟩
         have K1 := hid k1
         have B1 := B0.out.kp0 k1
         have s10 := B1.cell 0
         have s11 := B1.cell 1
         simp only [List.getElem?_toArray, List.getElem?_cons_zero, List.getElem?_cons_succ] at s10 s11
         clear k1 B1)
      | (go_at_call 10
         with_reducible refine (HF.out _ K1.out).mono ?_
         rintro e w2 ⟨rfl, k2⟩
         have K2 := hid (K1.out.trans k2)
         have B2 := B0.out.kp0 (K1.out.trans k2)
         have s20 := B2.cell 0
         have s21 := B2.cell 1
         simp only [List.getElem?_toArray, List.getElem?_cons_zero, List.getElem?_cons_succ] at s20 s21
         clear k2 B2)
      | (go_at_call 12
         with_reducible refine (HC.out _ K2.out).mono ?_
         rintro e w3 ⟨rfl, k3⟩
         have K3 := hid (K2.out.trans k3)
         have B3 := B0.out.kp0 (K2.out.trans k3)
         have s30 := B3.cell 0
         have s31 := B3.cell 1
         simp only [List.getElem?_toArray, List.getElem?_cons_zero, List.getElem?_cons_succ] at s30 s31
         clear k3 B3))
    go_ret
    exact ⟨rfl, K0.out.trans K3.out⟩
  · by_cases hc0 : ce = 0
    · subst hc0
      cases gs with
      | nil =>
        have h2 : (2 : Int) = 0 := HCE.out
        exact absurd h2 (by decide)
      | cons g0 gt =>
        obtain ⟨b, hbb⟩ : ∃ b, by'.toNat = b := ⟨_, rfl⟩
        have hpg : (rotG gt b).Perm gt := rot_perm gt b gs0
        have hpts : (outT ts b ts.length).Perm ts := outT_perm ts b
        obtain ⟨f1, f2, f3, f4, n3, n4, n1, n2, f5⟩ := check_shuf HCE.out hpg hpts
        have hfw := HFB.out
        unfold few at hfw
        rw [Bool.and_eq_true, decide_eq_true_eq, decide_eq_true_eq] at hfw
        have hSH := fun (W : World) (k : Kp No w0 W) => shuffled_any (HS.out.kp0 k) (by omega) (by omega) by' ⟨hby.1, by omega⟩
        rw [hbb, show (g0 :: gt).length = gt.length + 1 from rfl, outG_cons] at hSH
        have hpT : ∀ g ∈ g0 :: rotG gt b, I64 g.id ∧ I64 g.par := fun g hg => HP.out g ((hpg.cons g0).mem_iff.1 hg)
        have hptT : ∀ t ∈ outT ts b ts.length, I64 t.gr := fun t ht => HPT.out t (hpts.mem_iff.1 ht)
        have hlg : (g0 :: rotG gt b).length ≤ 30 := by rw [(hpg.cons g0).length_eq]; exact hfw.1
        have hlt : (outT ts b ts.length).length ≤ 30 := by rw [hpts.length_eq]; exact hfw.2
        obtain ⟨tg, htg⟩ : ∃ tg, g0 :: rotG gt b = tg := ⟨_, rfl⟩
        obtain ⟨tt, htt⟩ : ∃ tt, outT ts b ts.length = tt := ⟨_, rfl⟩
        rw [htg] at hSH f3 n3 f5 hpT hlg
        rw [htt] at hSH f4 n4 f5 hptT hlt
        obtain ⟨ss, hss⟩ : ∃ ss, g0 :: gt = ss := ⟨_, rfl⟩
        rw [hss] at f1 f3 f5 n1 hfw HS HCE HFB HP HN
        have HSH := hid hSH
        have HOS := hid (fun (W : World) (k : Kp No w0 W) => order_is (HS.out.kp0 k) (by omega) (by omega) HP.out n1 n2 f1 f2)
        have HOT := hid (fun (W : World) (u : Value) (hu : Sn W Anyb u tg tt) => order_is hu (by omega) (by omega) hpT n3 n4 f3 f4)
        obtain ⟨q, hq⟩ : ∃ q, decide (tg = ss ∧ tt = ts) = q := ⟨_, rfl⟩
        have HQ := hid hq
        have HCT := hid (fun (W : World) (u : Value) (hu : Sn W Anyb u tg tt) => check_is hu hpT hptT f5)
        clear f1 f2 f3 f4 f5 n1 n2 n3 n4 hSH hpT hptT hlg hlt hpg hpts htg htt hss hbb hfw
        cases q
        all_goals (
          first
          | rw [if_neg (of_decide_eq_false hq)] at HCT
          | rw [if_pos (of_decide_eq_true hq)] at HCT
          clear hq
          go_enter Tryz.func5, Tryz.ntmps5
          go_upto_region 1 with fail
          clear hw0
          go_upto_region 8 with (first
            | (go_at_call 9
               with_reducible refine (awake_any w0).mono ?_
               rintro e w1 ⟨rfl, k1⟩
               have K1 := hid k1
               have B1 := B0.out.kp0 k1
               have s10 := B1.cell 0
               have s11 := B1.cell 1
               simp only [List.getElem?_toArray, List.getElem?_cons_zero, List.getElem?_cons_succ] at s10 s11
               clear k1 B1)
            | (go_at_call 10
               with_reducible refine (HF.out _ K1.out).mono ?_
               rintro e w2 ⟨rfl, k2⟩
               have K2 := hid (K1.out.trans k2)
               have B2 := B0.out.kp0 (K1.out.trans k2)
               have s20 := B2.cell 0
               have s21 := B2.cell 1
               simp only [List.getElem?_toArray, List.getElem?_cons_zero, List.getElem?_cons_succ] at s20 s21
               clear k2 B2)
            | (go_at_call 12
               with_reducible refine (HC.out _ K2.out).mono ?_
               rintro e w3 ⟨rfl, k3⟩
               have K3 := hid (K2.out.trans k3)
               have B3 := B0.out.kp0 (K2.out.trans k3)
               have s30 := B3.cell 0
               have s31 := B3.cell 1
               simp only [List.getElem?_toArray, List.getElem?_cons_zero, List.getElem?_cons_succ] at s30 s31
               clear k3 B3)
            | (go_at_call 24
               with_reducible refine (HSH.out _ K3.out).mono ?_
               rintro e w5 ⟨u, rfl, su, k5⟩
               obtain ⟨ug, ut, rfl, rug, rut⟩ := id su
               obtain ⟨Ag, cg, rfl, _⟩ := rug
               obtain ⟨At, ct, rfl, _⟩ := rut
               obtain ⟨ln, hln⟩ : ∃ ln, tg.length = ln := ⟨_, rfl⟩
               obtain ⟨lm, hlm⟩ : ∃ lm, tt.length = lm := ⟨_, rfl⟩
               rw [hln, hlm] at su ⊢
               have k56 := (Kp.refl No w5).alloc (.cells #[.slice Ag ln cg, .slice At lm ct] 25)
               have B6 := hid (Blk.new w5 25 #[.slice Ag ln cg, .slice At lm ct])
               have SU := hid (su.kp0 k56)
               have K6 := hid (K3.out.trans (k5.trans k56))
               have B06 := hid (B0.out.kp0 (K3.out.trans (k5.trans k56)))
               have t60 := B6.out.cell 0
               have t61 := B6.out.cell 1
               have s60 := B06.out.cell 0
               have s61 := B06.out.cell 1
               simp only [List.getElem?_toArray, List.getElem?_cons_zero, List.getElem?_cons_succ] at t60 t61 s60 s61
               clear su k5 k56 hln hlm)
            | (go_at_call 12
               with_reducible refine (HCT.out _ _ SU.out).mono ?_
               rintro e w7 ⟨rfl, k7⟩
               have K7 := hid (K6.out.trans k7)
               have ST := hid (SU.out.kp0 k7)
               have B7 := hid (B6.out.kp0 k7)
               have B07 := hid (B06.out.kp0 k7)
               have hk7 := hid k7
               clear k7))
          have SZ := hid (show w7.drew.cell? ⟨w.heap.size, 0, none⟩ = some (.slice A n c) ∧ w7.drew.cell? ⟨w.heap.size, 1, none⟩ = some (.slice A2 m c2) ∧ w7.drew.cell? ⟨w5.heap.size, 0, none⟩ = some (.slice Ag ln cg) ∧ w7.drew.cell? ⟨w5.heap.size, 1, none⟩ = some (.slice At lm ct) ∧ SY w7 w.heap.size w5.heap.size w7.drew from
            ⟨B07.out.cell 0, B07.out.cell 1, B7.out.cell 0, B7.out.cell 1, (Kp.refl _ _).drew, B07.out.lt, B7.out.lt⟩)
          first
          | (
            go_region_held_law (fun w' => w'.cell? ⟨w.heap.size, 0, none⟩ = some (.slice A n c) ∧ w'.cell? ⟨w.heap.size, 1, none⟩ = some (.slice A2 m c2) ∧ w'.cell? ⟨w5.heap.size, 0, none⟩ = some (.slice Ag ln cg) ∧ w'.cell? ⟨w5.heap.size, 1, none⟩ = some (.slice At lm ct) ∧ SY w7 w.heap.size w5.heap.size w')
              (first | exact SZ.out | exact SY.step (by assumption) (by assumption) | assumption)
              (first
                | (go_at_call 22
                   with_reducible refine (HOS.out _ (K7.out.trans (SY.kpa (by assumption)))).mono ?_
                   rintro e w8 ⟨o8, rfl, r8, k8⟩
                   have R8 := hid r8
                   clear r8)
                | (go_at_call 22
                   with_reducible refine (HOT.out _ _ (ST.out.kp0 (SY.kpa (by assumption)))).mono ?_
                   rintro e w9 ⟨o9, rfl, r9, k9⟩
                   have R9 := hid r9
                   clear r9)
                | (go_at_call 20
                   with_reducible refine (same_is (q := true) R8.out (HS.out.kp0 (K7.out.trans (SY.kpa (by assumption)))) (by simp)).mono ?_
                   rintro e w10 ⟨rfl, k10⟩)
                | (go_at_call 20
                   with_reducible refine (same_is (q := true) R9.out (HS.out.kp0 (K7.out.trans (SY.kpa (by assumption)))) (by simp)).mono ?_
                   rintro e w11 ⟨rfl, k11⟩)
                | (go_at_call 20
                   with_reducible refine (same_is (ST.out.kp0 (SY.kpa (by assumption))) (HS.out.kp0 (K7.out.trans (SY.kpa (by assumption)))) HQ.out).mono ?_
                   rintro e w12 ⟨rfl, k12⟩)))
          | fail "held3"
          go_wp2_with fail
          go_ret
          exact ⟨rfl, K0.out.trans (K7.out.trans (SY.kpa (by assumption)))⟩)
    · have hce : (ce != 0) = true := by simpa using hc0
      go_enter Tryz.func5, Tryz.ntmps5
      go_upto_region 1 with fail
      clear hw0
      go_wp2_with (first
        | (go_at_call 9
           with_reducible refine (awake_any w0).mono ?_
           rintro e w1 ⟨rfl, k1⟩
           have K1 := hid k1
           have B1 := B0.out.kp0 k1
           have s10 := B1.cell 0
           have s11 := B1.cell 1
           simp only [List.getElem?_toArray, List.getElem?_cons_zero, List.getElem?_cons_succ] at s10 s11
           clear k1 B1)
        | (go_at_call 10
           with_reducible refine (HF.out _ K1.out).mono ?_
           rintro e w2 ⟨rfl, k2⟩
           have K2 := hid (K1.out.trans k2)
           have B2 := B0.out.kp0 (K1.out.trans k2)
           have s20 := B2.cell 0
           have s21 := B2.cell 1
           simp only [List.getElem?_toArray, List.getElem?_cons_zero, List.getElem?_cons_succ] at s20 s21
           clear k2 B2)
        | (go_at_call 12
           with_reducible refine (HC.out _ K2.out).mono ?_
           rintro e w3 ⟨rfl, k3⟩
           have K3 := hid (K2.out.trans k3)
           have B3 := B0.out.kp0 (K2.out.trans k3)
           have s30 := B3.cell 0
           have s31 := B3.cell 1
           simp only [List.getElem?_toArray, List.getElem?_cons_zero, List.getElem?_cons_succ] at s30 s31
           clear k3 B3))
      go_ret
      exact ⟨rfl, K0.out.trans K3.out⟩
end Go.Proofs.YtjmaingpiieioaaGreat
