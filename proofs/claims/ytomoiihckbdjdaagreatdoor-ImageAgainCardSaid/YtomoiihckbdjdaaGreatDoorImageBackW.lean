/-
  The walk of ImageBack.
-/
import Derived.Test.YtomoiihckbdjdaaGreatDoorJK
import Derived.Test.YtomoiihckbdjdaaGreatDoorZSame
namespace Go.Proofs.YtomoiihckbdjdaaGreatDoor
open Go.RowKit Go.Shelf

theorem same_is {w : World} {P Q : Nat → Prop} {v u : Value} {gs gs' : List GS} {ts ts' : List TS} {q : Bool} (h : Sce w P v gs ts) (h' : Sce w Q u gs' ts') (hq : decide (gs = gs' ∧ ts = ts') = q) :
    Calls Tryz.prog 17 #[v, u] w fun e w' => e = .returned (.bool q) ∧ Kp No w w' := by
  rw [← hq]
  exact zsame_any h h'
theorem few_is {w : World} {P : Nat → Prop} {v : Value} {gs : List GS} {ts : List TS} {q : Bool} (h : Sce w P v gs ts) (hq : few gs ts = q) :
    Calls Tryz.prog 10 #[v] w fun e w' => e = .returned (.bool q) ∧ Kp No w w' := by
  rw [← hq]
  exact zfew_any h
theorem few_bd {gs : List GS} {ts : List TS} (h : few gs ts = true) : gs.length ≤ 30 ∧ ts.length ≤ 30 := by
  unfold few at h
  simpa using h
theorem encZ {gs : List GS} {ts : List TS} (h : encE gs ts = 0) : checkS gs ts = 0 ∧ Can (secs gs ts) := by
  unfold encE at h
  by_cases h0 : checkS gs ts = 0
  · rw [if_pos h0] at h
    exact ⟨h0, (can_iff _).1 h⟩
  · rw [if_neg h0] at h
    exact absurd h h0
theorem enc_few {gs : List GS} {ts : List TS} (h : few gs ts = true) : encE gs ts = checkS gs ts := by
  obtain ⟨h1, h2⟩ := few_bd h
  unfold encE
  by_cases h0 : checkS gs ts = 0
  · rw [if_pos h0, (can_iff _).2 (secs_can h1 h2), h0]
  · rw [if_neg h0]
set_option maxRecDepth 100000 in
set_option maxHeartbeats 4000000 in
theorem imageBack_walk (w : World) {v : Value} {gs : List GS} {ts : List TS} (ht : Tab w) (h : SnI w v gs ts) :
    Calls Tryz.prog 5 #[v] w fun e w' => e = .returned (.bool true) ∧ Kp No w w' := by
  obtain ⟨hS, hGI, hTI⟩ := h
  obtain ⟨vg, vt, rfl, hg, htt⟩ := id hS
  have hp : ∀ g ∈ gs, I64 g.id ∧ I64 g.par := fun g hg => ⟨(hGI g hg).id, (hGI g hg).par⟩
  have hpt : ∀ t ∈ ts, I64 t.gr := fun t ht => (hTI t ht).gr
  have hco : ∀ t ∈ ts, 0 ≤ t.co ∧ t.co ≤ 18446744073709551615 := fun t ht => by have := (hTI t ht).co; omega
  have k0 := (Kp.refl No w).alloc (.cells #[vg, vt] 25)
  have b0 := Blk.new w 25 #[vg, vt]
  obtain ⟨w0, hw0⟩ : ∃ w0, w.alloc (.cells #[vg, vt] 25) = w0 := ⟨_, rfl⟩
  rw [hw0] at k0 b0
  have s0 := b0.cell 0
  have s1 := b0.cell 1
  simp only [List.getElem?_toArray, List.getElem?_cons_zero, List.getElem?_cons_succ] at s0 s1
  have K0 := hid k0
  have B0 := hid b0
  have HS := hid (hS.kp0 k0)
  have HTB := hid (ht.kp0 k0)
  obtain ⟨fb, hfb⟩ : ∃ fb, few gs ts = fb := ⟨_, rfl⟩
  obtain ⟨ce, hce⟩ : ∃ ce, checkS gs ts = ce := ⟨_, rfl⟩
  obtain ⟨x, hx⟩ : ∃ x, encE gs ts = x := ⟨_, rfl⟩
  have HF := hid (fun (W : World) (k : Kp No w0 W) => few_is (HS.out.kp0 k) hfb)
  have HC := hid (fun (W : World) (k : Kp No w0 W) => zcheck_is (HS.out.kp0 k) hp hpt hce)
  have HEB := hid (fun (hx0 : x ≠ 0) (W : World) (k : Kp No w0 W) => encode_bad (HTB.out.kp0 k) (HS.out.kp0 k) hp hpt hco hx hx0)
  have HEG := hid (fun (h0 : checkS gs ts = 0) (hC : Can (secs gs ts)) (W : World) (k : Kp No w0 W) => encode_good (HTB.out.kp0 k) (HS.out.kp0 k) hp hpt hco h0 hC)
  have HCE := hid hce
  have HX := hid hx
  have HFB := hid hfb
  have HCO := hid hco
  obtain ⟨A, c, rfl, _⟩ := hg
  obtain ⟨A2, c2, rfl, _⟩ := htt
  obtain ⟨n, hn⟩ : ∃ n, gs.length = n := ⟨_, rfl⟩
  obtain ⟨m, hm⟩ : ∃ m, ts.length = m := ⟨_, rfl⟩
  rw [hn] at HS HF HC HEB HEG s0 hw0 B0 ⊢
  rw [hm] at HS HF HC HEB HEG s1 hw0 B0 ⊢
  have HN := hid hn
  have HM := hid hm
  clear hS hGI hTI hp hpt hco k0 b0 hfb hce hn hm ht hx
  cases fb
  · go_enter Tryz.func5, Tryz.ntmps5
    go_upto_region 1 with fail
    clear hw0
    go_wp2_with (first
      | (go_at_call 9
         with_reducible refine (iawake_any HTB.out).mono ?_
         rintro e w1 ⟨rfl, k1⟩
         have K1 := hid k1
         have b1 := B0.out.kp0 K1.out
         have s10 := b1.cell 0
         have s11 := b1.cell 1
         simp only [List.getElem?_toArray, List.getElem?_cons_zero, List.getElem?_cons_succ] at s10 s11
         clear b1
         clear k1)
      | (go_at_call 10
         with_reducible refine (HF.out _ K1.out).mono ?_
         rintro e w2 ⟨rfl, k2⟩
         have K2 := hid (K1.out.trans k2)
         have b2 := B0.out.kp0 K2.out
         have s20 := b2.cell 0
         have s21 := b2.cell 1
         simp only [List.getElem?_toArray, List.getElem?_cons_zero, List.getElem?_cons_succ] at s20 s21
         clear b2
         clear k2))
    go_ret
    exact ⟨rfl, K0.out.trans K2.out⟩
  · have HFW := hid (few_bd HFB.out)
    by_cases hx0 : x = 0
    · subst hx0
      obtain ⟨e1, e2⟩ := encZ HX.out
      obtain ⟨g1, g2⟩ := check_fits e1 HCO.out
      have HE := hid (HEG.out e1 e2)
      have HDI := hid (dec_image g1 g2 e2 e1)
      have HIL := hid (show (image (secs gs ts)).length = 41 + 21 * n + 35 * m by rw [secs_image_len, HN.out, HM.out])
      have hce0 : ce = 0 := by rw [← HCE.out, e1]
      subst hce0
      clear e1 e2 g1 g2
      go_enter Tryz.func5, Tryz.ntmps5
      go_upto_region 1 with fail
      clear hw0
      go_wp2_with (first
        | (go_at_call 9
           with_reducible refine (iawake_any HTB.out).mono ?_
           rintro e w1 ⟨rfl, k1⟩
           have K1 := hid k1
           have b1 := B0.out.kp0 K1.out
           have s10 := b1.cell 0
           have s11 := b1.cell 1
           simp only [List.getElem?_toArray, List.getElem?_cons_zero, List.getElem?_cons_succ] at s10 s11
           clear b1
           clear k1)
        | (go_at_call 10
           with_reducible refine (HF.out _ K1.out).mono ?_
           rintro e w2 ⟨rfl, k2⟩
           have K2 := hid (K1.out.trans k2)
           have b2 := B0.out.kp0 K2.out
           have s20 := b2.cell 0
           have s21 := b2.cell 1
           simp only [List.getElem?_toArray, List.getElem?_cons_zero, List.getElem?_cons_succ] at s20 s21
           clear b2
           clear k2)
        | (go_at_call 11
           with_reducible refine (HE.out _ K2.out).mono ?_
           rintro e w3 ⟨u3, rfl, o3, k3⟩
           obtain ⟨Ai, ci, rfl⟩ := o3.formN HIL.out
           have K3 := hid (K2.out.trans k3)
           have b3 := B0.out.kp0 K3.out
           have s30 := b3.cell 0
           have s31 := b3.cell 1
           simp only [List.getElem?_toArray, List.getElem?_cons_zero, List.getElem?_cons_succ] at s30 s31
           clear b3
           have HD := hid (decode_any (HTB.out.kp0 K3.out) (o3.byt (P := Anyb) fun _ _ => trivial) (by rw [HIL.out]; have := HFW.out; have := HN.out; have := HM.out; omega) HDI.out)
           clear k3 o3)
        | (go_at_call 15
           with_reducible refine HD.out.mono ?_
           rintro e w4 ⟨ug, ut, rfl, og, ot, k4⟩
           obtain ⟨Ag, cg, rfl⟩ := og.formN HN.out
           obtain ⟨At, ct, rfl⟩ := ot.formN HM.out
           have k45 := (Kp.refl No w4).alloc (.cells #[.slice Ag n cg, .slice At m ct] 25)
           have K5 := hid (K3.out.trans (k4.trans k45))
           have S5 := hid (Own.sce (og.kp0 k45) (ot.kp0 k45))
           have b5 := B0.out.kp0 K5.out
           have s50 := b5.cell 0
           have s51 := b5.cell 1
           simp only [List.getElem?_toArray, List.getElem?_cons_zero, List.getElem?_cons_succ] at s50 s51
           clear b5
           clear k4 k45 og ot)
        | (go_at_call 17
           with_reducible refine (same_is (q := true) (HS.out.kp0 K5.out) S5.out (by simp)).mono ?_
           rintro e w6 ⟨rfl, k6⟩
           have K6 := hid (K5.out.trans k6)
           have b6 := B0.out.kp0 K6.out
           have s60 := b6.cell 0
           have s61 := b6.cell 1
           simp only [List.getElem?_toArray, List.getElem?_cons_zero, List.getElem?_cons_succ] at s60 s61
           clear b6
           clear k6)
        | (go_at_call 19
           with_reducible refine (HC.out _ K6.out).mono ?_
           rintro e w7 ⟨rfl, k7⟩
           have K7 := hid (K6.out.trans k7)
           clear k7))
      go_ret
      exact ⟨rfl, K0.out.trans K7.out⟩
    · have hne : (x != 0) = true := by rw [bne_iff_ne]; exact hx0
      have HE := hid (HEB.out hx0)
      have hce0 : ce = x := by rw [← HCE.out, ← HX.out, enc_few HFB.out]
      subst hce0
      clear hx0
      go_enter Tryz.func5, Tryz.ntmps5
      go_upto_region 1 with fail
      clear hw0
      go_wp2_with (first
        | (go_at_call 9
           with_reducible refine (iawake_any HTB.out).mono ?_
           rintro e w1 ⟨rfl, k1⟩
           have K1 := hid k1
           have b1 := B0.out.kp0 K1.out
           have s10 := b1.cell 0
           have s11 := b1.cell 1
           simp only [List.getElem?_toArray, List.getElem?_cons_zero, List.getElem?_cons_succ] at s10 s11
           clear b1
           clear k1)
        | (go_at_call 10
           with_reducible refine (HF.out _ K1.out).mono ?_
           rintro e w2 ⟨rfl, k2⟩
           have K2 := hid (K1.out.trans k2)
           have b2 := B0.out.kp0 K2.out
           have s20 := b2.cell 0
           have s21 := b2.cell 1
           simp only [List.getElem?_toArray, List.getElem?_cons_zero, List.getElem?_cons_succ] at s20 s21
           clear b2
           clear k2)
        | (go_at_call 11
           with_reducible refine (HE.out _ K2.out).mono ?_
           rintro e w3 ⟨rfl, k3⟩
           have K3 := hid (K2.out.trans k3)
           have b3 := B0.out.kp0 K3.out
           have s30 := b3.cell 0
           have s31 := b3.cell 1
           simp only [List.getElem?_toArray, List.getElem?_cons_zero, List.getElem?_cons_succ] at s30 s31
           clear b3
           clear k3)
        | (go_at_call 19
           with_reducible refine (HC.out _ K3.out).mono ?_
           rintro e w7 ⟨rfl, k7⟩
           have K7 := hid (K3.out.trans k7)
           clear k7))
      go_ret
      exact ⟨by simp, K0.out.trans K7.out⟩
end Go.Proofs.YtomoiihckbdjdaaGreatDoor
