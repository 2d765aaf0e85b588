/-
  The walk of ImageBursts.
-/
import Derived.Test.YtomoiihckbdjdaaGreatDoorImageUnlikeW
import Derived.Test.YtomoiihckbdjdaaGreatDoorPBurst
import Derived.Test.YtomoiihckbdjdaaGreatDoorStore
import Derived.BigRegion
namespace Go.Proofs.YtomoiihckbdjdaaGreatDoor
open Go.RowKit Go.Shelf

theorem dec_of_unp {xs : List Int} {x : Int} {l : List Sn} (h : unp xs = (x, l)) (h0 : x ≠ 0) : dec xs = (x, [], []) := by
  unfold dec
  rw [h]
  simp only
  rw [if_neg h0]
set_option maxRecDepth 100000 in
set_option maxHeartbeats 8000000 in
theorem imageBursts_walk (w : World) (nn dd cu : Int) {v : Value} {gs : List GS} {ts : List TS} (ht : Tab w) (h : SnI w v gs ts) (hnn : 0 ≤ nn ∧ nn ≤ 65535) (hdd : 0 ≤ dd ∧ dd ≤ 4294967295) (hcu : 0 ≤ cu ∧ cu ≤ 65535) :
    Calls Tryz.prog 7 #[v, .int .u16 nn, .int .u32 dd, .int .u16 cu] w fun e w' => e = .returned (.bool true) ∧ Kp No w w' := by
  obtain ⟨a, rfl⟩ : ∃ a : Nat, nn = (a : Int) := ⟨nn.toNat, by omega⟩
  obtain ⟨b, rfl⟩ : ∃ b : Nat, dd = (b : Int) := ⟨dd.toNat, by omega⟩
  obtain ⟨r, rfl⟩ : ∃ r : Nat, cu = (r : Int) := ⟨cu.toNat, by omega⟩
  have hb : b < 4294967296 := by omega
  have ha : a < 65536 := by omega
  have hr : r < 65536 := by omega
  clear hnn hdd hcu
  obtain ⟨hS, hGI, hTI⟩ := h
  obtain ⟨vg, vt, rfl, hg, htt⟩ := id hS
  have hp : ∀ g ∈ gs, I64 g.id ∧ I64 g.par := fun g hg => ⟨(hGI g hg).id, (hGI g hg).par⟩
  have hpt : ∀ t ∈ ts, I64 t.gr := fun t ht => (hTI t ht).gr
  have hco : ∀ t ∈ ts, 0 ≤ t.co ∧ t.co ≤ 18446744073709551615 := fun t ht => by have := (hTI t ht).co; omega
  have k0 := (Kp.refl No w).alloc (.cells #[vg, vt] 25)
  have b0 := Blk.new w 25 #[vg, vt]
  obtain ⟨w0, hw0⟩ : ∃ w0, w.alloc (.cells #[vg, vt] 25) = w0 := ⟨_, rfl⟩
  rw [hw0] at k0 b0
  have s0 := b0.cell 0
  have s1 := b0.cell 1
  simp only [List.getElem?_toArray, List.getElem?_cons_zero, List.getElem?_cons_succ] at s0 s1
  have K0 := hid k0
  have B0 := hid b0
  have HS := hid (hS.kp0 k0)
  have HTB := hid (ht.kp0 k0)
  obtain ⟨fb, hfb⟩ : ∃ fb, few gs ts = fb := ⟨_, rfl⟩
  obtain ⟨ce, hce⟩ : ∃ ce, checkS gs ts = ce := ⟨_, rfl⟩
  obtain ⟨x, hx⟩ : ∃ x, encE gs ts = x := ⟨_, rfl⟩
  have HF := hid (fun (W : World) (k : Kp No w0 W) => few_is (HS.out.kp0 k) hfb)
  have HC := hid (fun (W : World) (k : Kp No w0 W) => zcheck_is (HS.out.kp0 k) hp hpt hce)
  have HEF := hid (fun (W : World) (k : Kp No w0 W) => encode_form (HTB.out.kp0 k) (HS.out.kp0 k) hp hpt hco hx)
  have HEB := hid (fun (hx0 : x ≠ 0) (W : World) (k : Kp No w0 W) => encode_bad (HTB.out.kp0 k) (HS.out.kp0 k) hp hpt hco hx hx0)
  have HEG := hid (fun (h0 : checkS gs ts = 0) (hC : Can (secs gs ts)) (W : World) (k : Kp No w0 W) => encode_good (HTB.out.kp0 k) (HS.out.kp0 k) hp hpt hco h0 hC)
  have HCE := hid hce
  have HX := hid hx
  have HFB := hid hfb
  have HCO := hid hco
  obtain ⟨A, c, rfl, _⟩ := hg
  obtain ⟨A2, c2, rfl, _⟩ := htt
  obtain ⟨n, hn⟩ : ∃ n, gs.length = n := ⟨_, rfl⟩
  obtain ⟨m, hm⟩ : ∃ m, ts.length = m := ⟨_, rfl⟩
  rw [hn] at HS HF HC HEB HEG HEF s0 hw0 B0 ⊢
  rw [hm] at HS HF HC HEB HEG HEF s1 hw0 B0 ⊢
  have HN := hid hn
  have HM := hid hm
  clear hS hGI hTI hp hpt hco k0 b0 hfb hce hn hm ht hx
  by_cases hgood : fb = true ∧ x = 0
  · obtain ⟨rfl, rfl⟩ := hgood
    obtain ⟨e1, hC⟩ := encZ HX.out
    have HFW := few_bd HFB.out
    have hgt := check_fits e1 HCO.out
    have HOS := hid (show ofSecs (secs gs ts) = (0, gs, ts) by rw [ofSecs_secs hgt.1 hgt.2, if_pos e1])
    have HSB := hid (secs_bs gs ts)
    have HE := hid (HEG.out e1 hC)
    have HC2 := hid hC
    obtain ⟨img, himg⟩ : ∃ img, image (secs gs ts) = img := ⟨_, rfl⟩
    have HIMG := hid himg
    have hsz : img.length = 41 + 21 * n + 35 * m := by rw [← himg, secs_image_len, HN.out, HM.out]
    obtain ⟨ln, hln⟩ : ∃ ln, img.length = ln := ⟨_, rfl⟩
    rw [hln] at hsz
    rw [HN.out, HM.out] at HFW
    have hge : 13 ≤ ln ∧ ln ≤ 1725 := by omega
    have HLN := hid hln
    rw [himg] at HE
    clear e1 hgt hC himg HFW hsz HC HEB HEG HEF
    have HC := HC2
    have hmod : (a : Int) % (8 * (ln : Int)) = ((a % (8 * ln) : Nat) : Int) := by rw [Int.natCast_emod, Int.natCast_mul]; rfl
    have hmodt : (a : Int).tmod (8 * (ln : Int)) = ((a % (8 * ln) : Nat) : Int) := by rw [← hmod, Int.tmod_eq_emod_of_nonneg (by omega)]
    have hlt := Nat.mod_lt a (show 0 < 8 * ln by omega)
    obtain ⟨k, hk⟩ : ∃ k, a % (8 * ln) = k := ⟨_, rfl⟩
    rw [hk] at hmod hmodt hlt
    have g13 : ((ln : Int) == 0) = false := by rw [beq_eq_false_iff_ne]; omega
    have w8 := wrapI (x := 8 * (ln : Int)) (by unfold I64; omega)
    clear hln hk
    go_enter Tryz.func7, Tryz.ntmps7
    go_upto_region 1 with fail
    clear hw0
    go_wp2_with (first
      | (go_at_call 9
         with_reducible refine (iawake_any HTB.out).mono ?_
         rintro e w1 ⟨rfl, k1⟩
         have K1 := hid k1
         have b1 := B0.out.kp0 K1.out
         have s10 := b1.cell 0
         have s11 := b1.cell 1
         simp only [List.getElem?_toArray, List.getElem?_cons_zero, List.getElem?_cons_succ] at s10 s11
         clear b1
         clear k1)
      | (go_at_call 10
         with_reducible refine (HF.out _ K1.out).mono ?_
         rintro e w2 ⟨rfl, k2⟩
         have K2 := hid (K1.out.trans k2)
         have b2 := B0.out.kp0 K2.out
         have s20 := b2.cell 0
         have s21 := b2.cell 1
         simp only [List.getElem?_toArray, List.getElem?_cons_zero, List.getElem?_cons_succ] at s20 s21
         clear b2
         clear k2)
      | (go_at_call 11
         with_reducible refine (HE.out _ K2.out).mono ?_
         rintro e w3 ⟨u3, rfl, o3, k3⟩
         obtain ⟨A4, c4, rfl⟩ := o3.formN HLN.out
         have K3 := hid (K2.out.trans k3)
         have B3 := hid (o3.byt (P := Anyb) fun _ _ => trivial)
         have hlc : ln ≤ c4 ∧ c4 ≤ 9223372036854775807 := by
           obtain ⟨A', c', he, h1, h2, _⟩ := B3.out
           injection he with _ _ e3
           unfold maxLen at h2
           subst e3
           have := HLN.out
           omega
         clear o3 k3)
      | (at_builtin
         refine wp_app isU8 rfl (.tmp 41) (.tmp 42) rfl (base := w3.heap.size) (xs := []) (ys := img) (by exact Own.mt _ _) (by exact B3.out.kp0 ((Kp.refl _ _).alloc _)) (by rw [HLN.out]; simp; omega) (by simp) ?_
         intro v2 w4 o2 k2
         rw [List.nil_append] at o2
         have K4 := hid ((Kp.refl No w3).alloc (.cells #[] 5) |>.step k2 fun i hi h => by omega)
         obtain ⟨g, c, rfl, hg, hcm, hlc2, _⟩ := o2.spot (by rw [HLN.out]; omega)
         rw [HLN.out] at o2 hlc2 ⊢
         have O4 := hid o2
         unfold maxLen at hcm
         clear o2 k2))
    try rw [hmod]
    try rw [hmodt]
    clear hmod hmodt
    go_loopw [2, 15, 16] (fun y ch i w' => ∃ (j t : Nat) (zs : List Int) (q : Bool), j ≤ 32 ∧ i = .int .i64 j ∧ y = .int .u32 t ∧ t < 4294967296 ∧ ch = .bool q ∧ Hid (b / 2 ^ j = t ∧ Own w' w3.heap.size 5 (.slice (some ⟨g, 0, none⟩) ln c) zs ∧ Burst img k b j zs q ∧ Kp No w3 w')) (fun _ _ i _ => 32 - (intOf i).toNat)
    case atStart => exact ⟨0, b, img, false, by omega, rfl, rfl, hb, rfl, hid ⟨by simp, O4.out, ⟨rfl, by simp [Nat.mod_one], by simp [Nat.mod_one]⟩, K4.out⟩⟩
    case round =>
      obtain ⟨j, t, zs, q, hj, rfl, rfl, htl, rfl, H⟩ := hrel
      clear O4 K4
      by_cases hgo : j < 32 ∧ k + j < 8 * ln
      · obtain ⟨hg1, hg2⟩ := hgo
        have hg1' : (j : Int) < 32 := by omega
        have hg2' : (k : Int) + (j : Int) < 8 * (ln : Int) := by omega
        have wkj := wrapI (x := (k : Int) + (j : Int)) (by unfold I64; omega)
        have wj1 := wrapI (x := (j : Int) + 1) (by unfold I64; omega)
        by_cases hodd : t % 2 = 1
        · have hb1 : ((t : Int) % 2 == 1) = true := by rw [beq_iff_eq]; omega
          obtain ⟨et, oz, tz, kz⟩ := H.out
          have TS := hid (tz.yes (by rw [et]; exact hodd) (by rw [HLN.out]; exact hg2))
          have HH := hid (half_succ b j)
          have hzl : zs.length = ln := tz.1.trans HLN.out
          obtain ⟨_, _, he, _, _, _, hcell, hfr⟩ := oz.spot (by rw [hzl]; omega)
          injection he with e1 e2 e3
          injection e1 with e1
          injection e1 with e1 _ _
          subst e1 e3
          clear e2
          obtain ⟨s, es⟩ : ∃ s, k + j = s := ⟨_, rfl⟩
          rw [es] at TS hg2
          have e1 : IntKind.i64.wrap ((k : Int) + (j : Int)) = (s : Int) := by rw [IntWalk.i64_in _ (by omega)]; omega
          have hll : s / 8 < zs.length := by omega
          have hc1 := hcell (s / 8) hll
          have hf1 := hfr (s / 8)
          have hbd := oz.2 (zs.getD (s / 8) 0) (by simp [List.getD, List.getElem?_eq_getElem hll])
          obtain ⟨x, hx⟩ : ∃ x, (zs.getD (s / 8) 0).toNat = x := ⟨_, rfl⟩
          have hx2 : zs.getD (s / 8) 0 = (x : Int) := by omega
          have hx3 : x < 256 := by omega
          rw [hx2] at hc1
          rw [hx] at TS
          have hll1 : s / 8 < ln := by omega
          have hll' : (s : Int) / 8 < (ln : Int) := by omega
          have hm8 : 2 ^ (s % 8) < 2 ^ 8 := Nat.pow_lt_pow_right (by decide) (Nat.mod_lt _ (by decide))
          have hy : x ^^^ 2 ^ (s % 8) < 256 := Nat.xor_lt_two_pow (n := 8) hx3 hm8
          have hxor : bits .xor .u8 (x : Int) (2 ^ (s % 8) % 256) = ((x ^^^ 2 ^ (s % 8) : Nat) : Int) := by
            rw [← u8_xor_nat x (2 ^ (s % 8)) hx3 hm8, show ((2 : Int) ^ (s % 8) % 256) = ((2 ^ (s % 8) % 256 : Nat) : Int) by rw [Int.natCast_emod, Int.natCast_pow]; rfl, Nat.mod_eq_of_lt hm8]
          obtain ⟨y, ey⟩ : ∃ y, x ^^^ 2 ^ (s % 8) = y := ⟨_, rfl⟩
          rw [ey] at hy hxor TS
          clear hcell hfr hbd hx hx2 et oz tz kz es hzl hll ey hm8 wkj
          go_wp2
          go_region
          go_wp2
          go_roundw
          case rel =>
            refine ⟨j + 1, t / 2, zs.set (s / 8) (y : Int), true, by omega, by go_num, by go_num, by omega, rfl, hid ⟨?_, ?_, TS.out, ?_⟩⟩
            · rw [HH.out, H.out.1]
            · exact (H.out.2.1.put (s / 8) (y : Int) (by omega)).drew
            · exact (H.out.2.2.2.setCell (p := ⟨g, s / 8, none⟩) (.inr hg) _).drew
          case measure => simp [intOf]; omega
        · have hb1 : ((t : Int) % 2 == 1) = false := by rw [beq_eq_false_iff_ne]; omega
          have HH := hid (half_succ b j)
          have TS := hid (H.out.2.2.1.no (by rw [H.out.1]; exact hodd))
          clear wkj
          go_wp2
          go_roundw
          case rel => exact ⟨j + 1, t / 2, zs, q, by omega, by go_num, by go_num, by omega, rfl, hid ⟨by rw [HH.out, H.out.1], H.out.2.1, TS.out, H.out.2.2.2⟩⟩
          case measure => simp [intOf]; omega
      · have hun := Burst.unp (l := secs gs ts) (by rw [HIMG.out]; exact H.out.2.2.1) HC.out HSB.out H.out.2.1.2 hj
        have K5 := hid (K3.out.trans H.out.2.2.2)
        have B5 := hid (H.out.2.1.byt (P := Anyb) fun _ _ => trivial)
        have B35 := hid (B3.out.kp0 H.out.2.2.2)
        have hzl := hid (show zs.length ≤ 100000 by rw [H.out.2.2.1.1, HLN.out]; omega)
        obtain ⟨x, pz, hx⟩ : ∃ x p, dec zs = (x, p) := ⟨_, _, rfl⟩
        obtain ⟨gz, tz⟩ := pz
        have HXX := hid hx
        have hxq : (x != 0) = q := by
          cases q with
          | true =>
            have := dec_unp (hun.1 rfl)
            rw [hx] at this
            rw [bne_iff_ne]
            exact this
          | false =>
            have h0 := hun.2 rfl
            unfold dec at hx
            rw [h0] at hx
            simp only at hx
            rw [if_pos trivial, HOS.out] at hx
            rw [bne_eq_false_iff_eq]
            exact (Prod.mk.inj hx).1.symm
        obtain ⟨lg, hlg⟩ : ∃ l, gz.length = l := ⟨_, rfl⟩
        obtain ⟨lt, hlt0⟩ : ∃ l, tz.length = l := ⟨_, rfl⟩
        have HLG := hid hlg
        have HLT := hid hlt0
        have hqq : (q == q) = true := by simp
        have hmod2 : (r : Int) % (ln : Int) = ((r % ln : Nat) : Int) := by rw [Int.natCast_emod]
        have hlt2 := Nat.mod_lt r (show 0 < ln by omega)
        obtain ⟨p, hp⟩ : ∃ p, r % ln = p := ⟨_, rfl⟩
        rw [hp] at hmod2 hlt2
        have hp1 : (p : Int) ≤ (c4 : Int) := by omega
        clear hun hx H hp hlg hlt0
        by_cases hj1 : j < 32
        · have hg1 : (j : Int) < 32 := by omega
          have hg2 : ¬ (k : Int) + (j : Int) < 8 * (ln : Int) := by omega
          have wkj := wrapI (x := (k : Int) + (j : Int)) (by unfold I64; omega)
          clear hgo
          go_upto_region 19 with (first
            | (go_at_call 15
               refine (decode_any (HTB.out.kp0 K5.out) B5.out hzl.out HXX.out).mono ?_
               rintro e w6 ⟨ug6, ut6, rfl, og6, ot6, k6⟩
               obtain ⟨Ag6, cg6, rfl⟩ := og6.formN HLG.out
               obtain ⟨At6, ct6, rfl⟩ := ot6.formN HLT.out
               have kd6 := k6.alloc (.cells #[.slice Ag6 lg cg6, .slice At6 lt ct6] 25)
               have K6 := hid (K5.out.trans kd6)
               have B36 := hid (B35.out.kp0 kd6)
               clear og6 ot6 k6 kd6))
          have HTK := hid (B36.out.take p (by rw [HLN.out]; omega))
          have HCUT := hid (show dec (img.take p) = (2, [], []) by rw [dec_of_unp (x := 2) (by rw [← HIMG.out]; exact unp_cut HC.out (by rw [HIMG.out, HLN.out]; exact hlt2)) (by decide)])
          go_upto_region 20 with (first
            | (go_at_call 15
               rw [hmod2]
               refine (decode_any (HTB.out.kp0 K6.out) HTK.out (by rw [List.length_take, HLN.out]; omega) HCUT.out).mono ?_
               rintro e w7 ⟨ug7, ut7, rfl, og7, ot7, k7⟩
               obtain ⟨Ag7, cg7, rfl⟩ := og7.formN rfl
               obtain ⟨At7, ct7, rfl⟩ := ot7.formN rfl
               have kd7 := k7.alloc (.cells #[.slice Ag7 0 cg7, .slice At7 0 ct7] 25)
               have K7 := hid (K6.out.trans kd7)
               have B37 := hid (B36.out.kp0 kd7)
               clear og7 ot7 k7 kd7))
          have HTL := hid (show dec (img ++ [((r % 256 : Nat) : Int)]) = (3, [], []) by rw [dec_of_unp (x := 3) (by rw [← HIMG.out]; exact unp_tail HC.out (by simp)) (by decide)])
          generalize (w7.alloc (.cells #[.slice Ag7 0 cg7, .slice At7 0 ct7] 25)) = wb at K7 B37 ⊢
          go_wp2_with (first
            | (at_builtin
               refine wp_app isU8 rfl (.tmp 104) (.tmp 105) rfl (base := wb.heap.size) (xs := []) (ys := img) (by exact Own.mt _ _) (by exact B37.out.kp0 ((Kp.refl _ _).alloc _)) (by rw [HLN.out]; simp; omega) (by simp) ?_
               intro v8 w8 o8 k8
               rw [List.nil_append] at o8
               have K8 := hid ((Kp.refl No wb).alloc (.cells #[] 5) |>.step k8 fun i hi h => by omega)
               have O8 := hid (o8.kp ((Kp.refl No w8).alloc (.cells #[.int .u8 ((r : Int) % 256)] 5)) fun _ _ h => h)
               have V8 := hid (Byt.one (P := Anyb) w8 5 ((r : Int) % 256) (by omega) trivial)
               have K88 := hid (K8.out.alloc (.cells #[.int .u8 ((r : Int) % 256)] 5))
               clear o8 k8)
            | (at_builtin
               refine wp_app isU8 rfl (.tmp 106) (.tmp 109) rfl (base := wb.heap.size) (xs := img) (ys := [(r : Int) % 256]) (by exact O8.out) (by exact V8.out) (by rw [HLN.out]; simp; omega) (by exact K88.out.size) ?_
               intro v9 w9 o9 k9
               have K9 := hid (K7.out.trans (K88.out.step k9 fun i hi h => by omega))
               have B9 := hid (o9.byt (P := Anyb) fun _ _ => trivial)
               clear o9 k9)
            | (go_at_call 15
               refine (decode_any (HTB.out.kp0 K9.out) B9.out (by rw [List.length_append, HLN.out]; simp; omega) HTL.out).mono ?_
               rintro e w10 ⟨ug10, ut10, rfl, og10, ot10, k10⟩
               obtain ⟨Ag10, cg10, rfl⟩ := og10.formN rfl
               obtain ⟨At10, ct10, rfl⟩ := ot10.formN rfl
               have kd10 := k10.alloc (.cells #[.slice Ag10 0 cg10, .slice At10 0 ct10] 25)
               have K10 := hid (K9.out.trans kd10)
               clear og10 ot10 k10 kd10))
          go_ret
          exact ⟨rfl, K0.out.trans K10.out⟩
        · have hg1 : ¬ (j : Int) < 32 := by omega
          clear hgo
          go_upto_region 19 with (first
            | (go_at_call 15
               refine (decode_any (HTB.out.kp0 K5.out) B5.out hzl.out HXX.out).mono ?_
               rintro e w6 ⟨ug6, ut6, rfl, og6, ot6, k6⟩
               obtain ⟨Ag6, cg6, rfl⟩ := og6.formN HLG.out
               obtain ⟨At6, ct6, rfl⟩ := ot6.formN HLT.out
               have kd6 := k6.alloc (.cells #[.slice Ag6 lg cg6, .slice At6 lt ct6] 25)
               have K6 := hid (K5.out.trans kd6)
               have B36 := hid (B35.out.kp0 kd6)
               clear og6 ot6 k6 kd6))
          have HTK := hid (B36.out.take p (by rw [HLN.out]; omega))
          have HCUT := hid (show dec (img.take p) = (2, [], []) by rw [dec_of_unp (x := 2) (by rw [← HIMG.out]; exact unp_cut HC.out (by rw [HIMG.out, HLN.out]; exact hlt2)) (by decide)])
          go_upto_region 20 with (first
            | (go_at_call 15
               rw [hmod2]
               refine (decode_any (HTB.out.kp0 K6.out) HTK.out (by rw [List.length_take, HLN.out]; omega) HCUT.out).mono ?_
               rintro e w7 ⟨ug7, ut7, rfl, og7, ot7, k7⟩
               obtain ⟨Ag7, cg7, rfl⟩ := og7.formN rfl
               obtain ⟨At7, ct7, rfl⟩ := ot7.formN rfl
               have kd7 := k7.alloc (.cells #[.slice Ag7 0 cg7, .slice At7 0 ct7] 25)
               have K7 := hid (K6.out.trans kd7)
               have B37 := hid (B36.out.kp0 kd7)
               clear og7 ot7 k7 kd7))
          have HTL := hid (show dec (img ++ [((r % 256 : Nat) : Int)]) = (3, [], []) by rw [dec_of_unp (x := 3) (by rw [← HIMG.out]; exact unp_tail HC.out (by simp)) (by decide)])
          generalize (w7.alloc (.cells #[.slice Ag7 0 cg7, .slice At7 0 ct7] 25)) = wb at K7 B37 ⊢
          go_wp2_with (first
            | (at_builtin
               refine wp_app isU8 rfl (.tmp 104) (.tmp 105) rfl (base := wb.heap.size) (xs := []) (ys := img) (by exact Own.mt _ _) (by exact B37.out.kp0 ((Kp.refl _ _).alloc _)) (by rw [HLN.out]; simp; omega) (by simp) ?_
               intro v8 w8 o8 k8
               rw [List.nil_append] at o8
               have K8 := hid ((Kp.refl No wb).alloc (.cells #[] 5) |>.step k8 fun i hi h => by omega)
               have O8 := hid (o8.kp ((Kp.refl No w8).alloc (.cells #[.int .u8 ((r : Int) % 256)] 5)) fun _ _ h => h)
               have V8 := hid (Byt.one (P := Anyb) w8 5 ((r : Int) % 256) (by omega) trivial)
               have K88 := hid (K8.out.alloc (.cells #[.int .u8 ((r : Int) % 256)] 5))
               clear o8 k8)
            | (at_builtin
               refine wp_app isU8 rfl (.tmp 106) (.tmp 109) rfl (base := wb.heap.size) (xs := img) (ys := [(r : Int) % 256]) (by exact O8.out) (by exact V8.out) (by rw [HLN.out]; simp; omega) (by exact K88.out.size) ?_
               intro v9 w9 o9 k9
               have K9 := hid (K7.out.trans (K88.out.step k9 fun i hi h => by omega))
               have B9 := hid (o9.byt (P := Anyb) fun _ _ => trivial)
               clear o9 k9)
            | (go_at_call 15
               refine (decode_any (HTB.out.kp0 K9.out) B9.out (by rw [List.length_append, HLN.out]; simp; omega) HTL.out).mono ?_
               rintro e w10 ⟨ug10, ut10, rfl, og10, ot10, k10⟩
               obtain ⟨Ag10, cg10, rfl⟩ := og10.formN rfl
               obtain ⟨At10, ct10, rfl⟩ := ot10.formN rfl
               have kd10 := k10.alloc (.cells #[.slice Ag10 0 cg10, .slice At10 0 ct10] 25)
               have K10 := hid (K9.out.trans kd10)
               clear og10 ot10 k10 kd10))
          go_ret
          exact ⟨rfl, K0.out.trans K10.out⟩
  · have hwhy : fb = false ∨ (fb = true ∧ (x != 0) = true) := by
      cases fb
      · exact .inl rfl
      · exact .inr ⟨rfl, by rw [bne_iff_ne]; exact fun e => hgood ⟨rfl, e⟩⟩
    clear hgood
    rcases hwhy with rfl | ⟨rfl, hx⟩
    all_goals (
      go_enter Tryz.func7, Tryz.ntmps7
      go_upto_region 1 with fail
      clear hw0
      go_wp2_with (first
        | (go_at_call 9
           with_reducible refine (iawake_any HTB.out).mono ?_
           rintro e w1 ⟨rfl, k1⟩
           have K1 := hid k1
           have b1 := B0.out.kp0 K1.out
           have s10 := b1.cell 0
           have s11 := b1.cell 1
           simp only [List.getElem?_toArray, List.getElem?_cons_zero, List.getElem?_cons_succ] at s10 s11
           clear b1
           clear k1)
        | (go_at_call 10
           with_reducible refine (HF.out _ K1.out).mono ?_
           rintro e w2 ⟨rfl, k2⟩
           have K2 := hid (K1.out.trans k2)
           have b2 := B0.out.kp0 K2.out
           have s20 := b2.cell 0
           have s21 := b2.cell 1
           simp only [List.getElem?_toArray, List.getElem?_cons_zero, List.getElem?_cons_succ] at s20 s21
           clear b2
           clear k2)
        | (go_at_call 11
           with_reducible refine (HEF.out _ K2.out).mono ?_
           rintro e w3 ⟨u3, rfl, _, k3⟩
           have K3 := hid (K2.out.trans k3)
           clear k3))
      go_ret
      exact ⟨rfl, K0.out.trans K3.out⟩)
end Go.Proofs.YtomoiihckbdjdaaGreatDoor
