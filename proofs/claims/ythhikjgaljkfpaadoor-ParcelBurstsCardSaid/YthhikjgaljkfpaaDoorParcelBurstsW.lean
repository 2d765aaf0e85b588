/-
  The walk of ParcelBursts.
-/
import Derived.Test.YthhikjgaljkfpaaDoorPLaw
import Derived.Test.YthhikjgaljkfpaaDoorPBurst
import Derived.Test.YthhikjgaljkfpaaDoorStore
import Derived.BigRegion
namespace Go.Proofs.YthhikjgaljkfpaaDoor
open Go.RowKit

set_option maxHeartbeats 4000000 in
theorem parcelBursts_walk (w : World) (v : Value) (n d cu : Int) (u : Value) {ss : List Sv} {ms : List Int} (ht : Tab w) (hv : Ps w Anyb v ss) (hn : 0 ≤ n ∧ n ≤ 65535) (hd : 0 ≤ d ∧ d ≤ 4294967295) (hcu : 0 ≤ cu ∧ cu ≤ 65535) (hu : Byt w Anyb u ms) :
    Calls Tryd.prog 6 #[v, .int .u16 n, .int .u32 d, .int .u16 cu, u] w fun e w' => e = .returned (.bool true) ∧ Kp No w w' := by
  obtain ⟨a, rfl⟩ : ∃ a : Nat, n = (a : Int) := ⟨n.toNat, by omega⟩
  obtain ⟨b, rfl⟩ : ∃ b : Nat, d = (b : Int) := ⟨d.toNat, by omega⟩
  obtain ⟨r, rfl⟩ : ∃ r : Nat, cu = (r : Int) := ⟨cu.toNat, by omega⟩
  have hb : b < 4294967296 := by omega
  have ha : a < 65536 := by omega
  have hr : r < 65536 := by omega
  have HT := hid ht
  have HO := hid hv
  have HV := hid hu
  obtain ⟨mn, hmn⟩ : ∃ mn, ms.length = mn := ⟨_, rfl⟩
  have HMN := hid hmn
  obtain ⟨AM, cm, rfl, hrest⟩ := hu
  rw [hmn] at HV ⊢
  have HSB := hid (show ∀ s ∈ ss.map sn, Bs s.body from fun s hs => by
    obtain ⟨t, ht, rfl⟩ := List.mem_map.1 hs
    exact (hv.ok t ht).b.bytes)
  clear ht hv hrest hn hd hcu hmn
  go_enter Tryd.func6, Tryd.ntmps6
  go_upto_region 2 with (first
    | (go_at_call 9
       refine (pawake_any HT.out).mono ?_
       rintro e w1 ⟨rfl, k1⟩
       have K1 := hid k1
       clear k1))
  go_wp2_with fail
  refine (few_any (HO.out.kp0 K1.out)).mono ?_
  rintro e w2 ⟨q, rfl, rfl, hq⟩
  have HQ := hid hq
  clear hq
  go_wp2_with fail
  refine (pack_any (HT.out.kp0 K1.out) (HO.out.kp0 K1.out)).mono ?_
  rintro e w3 ⟨k3, ⟨hC, u3, rfl, o3⟩ | ⟨y, h1, h2, rfl⟩⟩
  · have K3 := hid (K1.out.trans k3)
    have HC := hid hC
    cases q with
    | false =>
      clear hC o3 k3
      go_wp2
      go_ret
      exact ⟨rfl, K3.out⟩
    | true =>
      have HSM := hid (HQ.out rfl)
      by_cases h100 : 100 < mn
      · have g100 : (100 : Int) < (mn : Int) := by omega
        clear hC o3 k3
        go_wp2
        go_ret
        exact ⟨rfl, K3.out⟩
      have g100 : ¬ (100 : Int) < (mn : Int) := by omega
      obtain ⟨img, himg⟩ : ∃ img, image (ss.map sn) = img := ⟨_, rfl⟩
      have HIMG := hid himg
      have hsz := small_image HSM.out hC
      have hge : 13 ≤ (image (ss.map sn)).length := by rw [image_len]; omega
      rw [himg] at o3 hsz hge
      obtain ⟨ln, hln⟩ : ∃ ln, img.length = ln := ⟨_, rfl⟩
      rw [hln] at hsz hge
      have HLN := hid hln
      have HX := hid (show Bs img from o3.2)
      obtain ⟨A4, c4, rfl⟩ := o3.formN hln
      have B3 := hid (o3.byt (P := Anyb) fun _ _ => trivial)
      have hlc : ln ≤ c4 ∧ c4 ≤ 9223372036854775807 := by
        obtain ⟨A', c', he, h1, h2, _⟩ := B3.out
        injection he with _ _ e3
        unfold maxLen at h2
        subst e3
        omega
      have hmod : (a : Int) % (8 * (ln : Int)) = ((a % (8 * ln) : Nat) : Int) := by rw [Int.natCast_emod, Int.natCast_mul]; rfl
      have hlt := Nat.mod_lt a (show 0 < 8 * ln by omega)
      obtain ⟨k, hk⟩ : ∃ k, a % (8 * ln) = k := ⟨_, rfl⟩
      rw [hk] at hmod hlt
      have g13 : ¬ (ln : Int) < 13 := by omega
      have w8 := wrapI (x := 8 * (ln : Int)) (by unfold I64; omega)
      clear hC o3 k3 himg hln hk h100
      go_wp2_with (first
          | (at_builtin
             refine wp_app isU8 rfl (.tmp 48) (.tmp 49) rfl (base := w3.heap.size) (xs := []) (ys := img) (by exact Own.mt _ _) (by exact B3.out.kp0 ((Kp.refl _ _).alloc _)) (by rw [HLN.out]; simp; omega) (by simp) ?_
             intro v2 w4 o2 k2
             rw [List.nil_append] at o2
             have K4 := hid ((Kp.refl No w3).alloc (.cells #[] 5) |>.step k2 fun i hi h => by omega)
             obtain ⟨g, c, rfl, hg, hcm, hlc2, _⟩ := o2.spot (by rw [HLN.out]; omega)
             rw [HLN.out] at o2 hlc2 ⊢
             have O4 := hid o2
             unfold maxLen at hcm
             clear o2 k2)
          | fail)
      rw [hmod]
      clear hmod
      go_loopw [2, 17, 18] (fun y ch i w' => ∃ (j t : Nat) (zs : List Int) (q : Bool), j ≤ 32 ∧ i = .int .i64 j ∧ y = .int .u32 t ∧ t < 4294967296 ∧ ch = .bool q ∧ Hid (b / 2 ^ j = t ∧ Own w' w3.heap.size 5 (.slice (some ⟨g, 0, none⟩) ln c) zs ∧ Burst img k b j zs q ∧ Kp No w3 w')) (fun _ _ i _ => 32 - (intOf i).toNat)
      case atStart => exact ⟨0, b, img, false, by omega, rfl, rfl, hb, rfl, hid ⟨by simp, O4.out, ⟨rfl, by simp [Nat.mod_one], by simp [Nat.mod_one]⟩, K4.out⟩⟩
      case round =>
        obtain ⟨j, t, zs, q, hj, rfl, rfl, htl, rfl, H⟩ := hrel
        clear O4 K4
        by_cases hgo : j < 32 ∧ k + j < 8 * ln
        · obtain ⟨hg1, hg2⟩ := hgo
          have hg1' : (j : Int) < 32 := by omega
          have hg2' : (k : Int) + (j : Int) < 8 * (ln : Int) := by omega
          have wkj := wrapI (x := (k : Int) + (j : Int)) (by unfold I64; omega)
          have wj1 := wrapI (x := (j : Int) + 1) (by unfold I64; omega)
          by_cases hodd : t % 2 = 1
          · have hb1 : ((t : Int) % 2 == 1) = true := by rw [beq_iff_eq]; omega
            obtain ⟨et, oz, tz, kz⟩ := H.out
            have TS := hid (tz.yes (by rw [et]; exact hodd) (by rw [HLN.out]; exact hg2))
            have HH := hid (half_succ b j)
            have hzl : zs.length = ln := tz.1.trans HLN.out
            obtain ⟨_, _, he, _, _, _, hcell, hfr⟩ := oz.spot (by rw [hzl]; omega)
            injection he with e1 e2 e3
            injection e1 with e1
            injection e1 with e1 _ _
            subst e1 e3
            clear e2
            obtain ⟨s, es⟩ : ∃ s, k + j = s := ⟨_, rfl⟩
            rw [es] at TS hg2
            have e1 : IntKind.i64.wrap ((k : Int) + (j : Int)) = (s : Int) := by rw [IntWalk.i64_in _ (by omega)]; omega
            have hll : s / 8 < zs.length := by omega
            have hc1 := hcell (s / 8) hll
            have hf1 := hfr (s / 8)
            have hbd := oz.2 (zs.getD (s / 8) 0) (by simp [List.getD, List.getElem?_eq_getElem hll])
            obtain ⟨x, hx⟩ : ∃ x, (zs.getD (s / 8) 0).toNat = x := ⟨_, rfl⟩
            have hx2 : zs.getD (s / 8) 0 = (x : Int) := by omega
            have hx3 : x < 256 := by omega
            rw [hx2] at hc1
            rw [hx] at TS
            have hll1 : s / 8 < ln := by omega
            have hll' : (s : Int) / 8 < (ln : Int) := by omega
            have hm8 : 2 ^ (s % 8) < 2 ^ 8 := Nat.pow_lt_pow_right (by decide) (Nat.mod_lt _ (by decide))
            have hy : x ^^^ 2 ^ (s % 8) < 256 := Nat.xor_lt_two_pow (n := 8) hx3 hm8
            have hxor : bits .xor .u8 (x : Int) (2 ^ (s % 8) % 256) = ((x ^^^ 2 ^ (s % 8) : Nat) : Int) := by
              rw [← u8_xor_nat x (2 ^ (s % 8)) hx3 hm8, show ((2 : Int) ^ (s % 8) % 256) = ((2 ^ (s % 8) % 256 : Nat) : Int) by rw [Int.natCast_emod, Int.natCast_pow]; rfl, Nat.mod_eq_of_lt hm8]
            obtain ⟨y, ey⟩ : ∃ y, x ^^^ 2 ^ (s % 8) = y := ⟨_, rfl⟩
            rw [ey] at hy hxor TS
            clear hcell hfr hbd hx hx2 et oz tz kz es hzl hll ey hm8 wkj
            go_wp2
            go_region
            go_wp2
            go_roundw
            case rel =>
              refine ⟨j + 1, t / 2, zs.set (s / 8) (y : Int), true, by omega, by go_num, by go_num, by omega, rfl, hid ⟨?_, ?_, TS.out, ?_⟩⟩
              · rw [HH.out, H.out.1]
              · exact (H.out.2.1.put (s / 8) (y : Int) (by omega)).drew
              · exact (H.out.2.2.2.setCell (p := ⟨g, s / 8, none⟩) (.inr hg) _).drew
            case measure => simp [intOf]; omega
          · have hb1 : ((t : Int) % 2 == 1) = false := by rw [beq_eq_false_iff_ne]; omega
            have HH := hid (half_succ b j)
            have TS := hid (H.out.2.2.1.no (by rw [H.out.1]; exact hodd))
            clear wkj
            go_wp2
            go_roundw
            case rel => exact ⟨j + 1, t / 2, zs, q, by omega, by go_num, by go_num, by omega, rfl, hid ⟨by rw [HH.out, H.out.1], H.out.2.1, TS.out, H.out.2.2.2⟩⟩
            case measure => simp [intOf]; omega
        · have hun := Burst.unp (l := ss.map sn) (by rw [HIMG.out]; exact H.out.2.2.1) HC.out HSB.out H.out.2.1.2 hj
          have T5 := hid (HT.out.kp0 (K3.out.trans H.out.2.2.2))
          have K5 := hid (K3.out.trans H.out.2.2.2)
          have B5 := hid (H.out.2.1.byt (P := Anyb) fun _ _ => trivial)
          have B35 := hid (B3.out.kp0 H.out.2.2.2)
          have hzl := hid (show zs.length ≤ 100000 by rw [H.out.2.2.1.1, HLN.out]; omega)
          obtain ⟨x, hx⟩ : ∃ x, (unp zs).1 = x := ⟨_, rfl⟩
          have HXX := hid hx
          have hxq : (x != 0) = q := by
            cases q with
            | true => rw [bne_iff_ne, ← hx]; exact hun.1 rfl
            | false => rw [bne_eq_false_iff_eq, ← hx, hun.2 rfl]
          have hqq : (q == q) = true := by simp
          have hmod2 : (r : Int) % (ln : Int) = ((r % ln : Nat) : Int) := by rw [Int.natCast_emod]
          have hlt2 := Nat.mod_lt r (show 0 < ln by omega)
          obtain ⟨p, hp⟩ : ∃ p, r % ln = p := ⟨_, rfl⟩
          rw [hp] at hmod2 hlt2
          have hp1 : (p : Int) ≤ (c4 : Int) := by omega
          clear hun hx H hp
          by_cases hj1 : j < 32
          · have hg1 : (j : Int) < 32 := by omega
            have hg2 : ¬ (k : Int) + (j : Int) < 8 * (ln : Int) := by omega
            have wkj := wrapI (x := (k : Int) + (j : Int)) (by unfold I64; omega)
            clear hgo
            go_upto_region 19 with (first
              | (go_at_call 16
                 refine (unpack_any T5.out B5.out hzl.out).mono ?_
                 rintro e w6 ⟨u6, t6, rfl, _, _, k6⟩
                 rw [HXX.out]
                 have K6 := hid (K5.out.trans k6)
                 have B36 := hid (B35.out.kp0 k6)
                 clear k6))
            have HTK := hid (B36.out.take p (by rw [HLN.out]; omega))
            have HCUT := hid (show unp (img.take p) = (2, []) by rw [← HIMG.out]; exact unp_cut HC.out (by rw [HIMG.out, HLN.out]; exact hlt2))
            go_upto_region 20 with (first
              | (go_at_call 16
                 rw [hmod2]
                 refine (unpack_any (HT.out.kp0 K6.out) HTK.out (by rw [List.length_take, HLN.out]; omega)).mono ?_
                 rintro e w7 ⟨u7, t7, rfl, _, _, k7⟩
                 rw [HCUT.out]
                 have K7 := hid (K6.out.trans k7)
                 have B37 := hid (B36.out.kp0 k7)
                 clear k7))
            obtain ⟨z, hz⟩ : ∃ z, (unp (img ++ ms)).1 = z := ⟨_, rfl⟩
            have HZ := hid hz
            by_cases hm0 : mn = 0
            · have hz0 : z = 0 := by
                have h1 : ms = [] := List.eq_nil_of_length_eq_zero (by rw [HMN.out]; exact hm0)
                rw [← hz, h1, List.append_nil, ← HIMG.out, unp_image HC.out]
              subst hz0 hm0
              clear hz
              go_wp2_with (first
                | (at_builtin
                   refine wp_app isU8 rfl (.tmp 111) (.tmp 112) rfl (base := w7.heap.size) (xs := []) (ys := img) (by exact Own.mt _ _) (by exact B37.out.kp0 ((Kp.refl _ _).alloc _)) (by rw [HLN.out]; simp; omega) (by simp) ?_
                   intro v8 w8 o8 k8
                   rw [List.nil_append] at o8
                   have K8 := hid ((Kp.refl No w7).alloc (.cells #[] 5) |>.step k8 fun i hi h => by omega)
                   have O8 := hid o8
                   have V8 := hid (HV.out.kp0 (K7.out.trans K8.out))
                   clear o8 k8)
                | (at_builtin
                   refine wp_app isU8 rfl (.tmp 113) (.tmp 114) rfl (base := w7.heap.size) (xs := img) (ys := ms) (by exact O8.out) (by exact V8.out) (by rw [HLN.out, HMN.out]; omega) (by exact K8.out.size) ?_
                   intro v9 w9 o9 k9
                   have K9 := hid (K7.out.trans (K8.out.step k9 fun i hi h => by omega))
                   have B9 := hid (o9.byt (P := Anyb) fun _ _ => trivial)
                   clear o9 k9)
                | (go_at_call 16
                   refine (unpack_any (HT.out.kp0 K9.out) B9.out (by rw [List.length_append, HLN.out, HMN.out]; omega)).mono ?_
                   rintro e w10 ⟨u10, t10, rfl, _, _, k10⟩
                   rw [HZ.out]
                   have K10 := hid (K9.out.trans k10)
                   clear k10))
              go_ret
              exact ⟨rfl, K10.out⟩
            · have hz3 : z = 3 := by rw [← hz, ← HIMG.out, unp_tail HC.out (by rw [HMN.out]; omega)]
              subst hz3
              have hmp : (0 : Int) < (mn : Int) := by omega
              have hmp2 : 0 < mn := by omega
              have hmb : ((mn : Int) == 0) = false := by rw [beq_eq_false_iff_ne]; omega
              clear hz hm0
              go_wp2_with (first
                | (at_builtin
                   refine wp_app isU8 rfl (.tmp 111) (.tmp 112) rfl (base := w7.heap.size) (xs := []) (ys := img) (by exact Own.mt _ _) (by exact B37.out.kp0 ((Kp.refl _ _).alloc _)) (by rw [HLN.out]; simp; omega) (by simp) ?_
                   intro v8 w8 o8 k8
                   rw [List.nil_append] at o8
                   have K8 := hid ((Kp.refl No w7).alloc (.cells #[] 5) |>.step k8 fun i hi h => by omega)
                   have O8 := hid o8
                   have V8 := hid (HV.out.kp0 (K7.out.trans K8.out))
                   clear o8 k8)
                | (at_builtin
                   refine wp_app isU8 rfl (.tmp 113) (.tmp 114) rfl (base := w7.heap.size) (xs := img) (ys := ms) (by exact O8.out) (by exact V8.out) (by rw [HLN.out, HMN.out]; omega) (by exact K8.out.size) ?_
                   intro v9 w9 o9 k9
                   have K9 := hid (K7.out.trans (K8.out.step k9 fun i hi h => by omega))
                   have B9 := hid (o9.byt (P := Anyb) fun _ _ => trivial)
                   clear o9 k9)
                | (go_at_call 16
                   refine (unpack_any (HT.out.kp0 K9.out) B9.out (by rw [List.length_append, HLN.out, HMN.out]; omega)).mono ?_
                   rintro e w10 ⟨u10, t10, rfl, _, _, k10⟩
                   rw [HZ.out]
                   have K10 := hid (K9.out.trans k10)
                   clear k10))
              go_ret
              exact ⟨rfl, K10.out⟩
          · have hg1 : ¬ (j : Int) < 32 := by omega
            clear hgo
            go_upto_region 19 with (first
              | (go_at_call 16
                 refine (unpack_any T5.out B5.out hzl.out).mono ?_
                 rintro e w6 ⟨u6, t6, rfl, _, _, k6⟩
                 rw [HXX.out]
                 have K6 := hid (K5.out.trans k6)
                 have B36 := hid (B35.out.kp0 k6)
                 clear k6))
            have HTK := hid (B36.out.take p (by rw [HLN.out]; omega))
            have HCUT := hid (show unp (img.take p) = (2, []) by rw [← HIMG.out]; exact unp_cut HC.out (by rw [HIMG.out, HLN.out]; exact hlt2))
            go_upto_region 20 with (first
              | (go_at_call 16
                 rw [hmod2]
                 refine (unpack_any (HT.out.kp0 K6.out) HTK.out (by rw [List.length_take, HLN.out]; omega)).mono ?_
                 rintro e w7 ⟨u7, t7, rfl, _, _, k7⟩
                 rw [HCUT.out]
                 have K7 := hid (K6.out.trans k7)
                 have B37 := hid (B36.out.kp0 k7)
                 clear k7))
            obtain ⟨z, hz⟩ : ∃ z, (unp (img ++ ms)).1 = z := ⟨_, rfl⟩
            have HZ := hid hz
            by_cases hm0 : mn = 0
            · have hz0 : z = 0 := by
                have h1 : ms = [] := List.eq_nil_of_length_eq_zero (by rw [HMN.out]; exact hm0)
                rw [← hz, h1, List.append_nil, ← HIMG.out, unp_image HC.out]
              subst hz0 hm0
              clear hz
              go_wp2_with (first
                | (at_builtin
                   refine wp_app isU8 rfl (.tmp 111) (.tmp 112) rfl (base := w7.heap.size) (xs := []) (ys := img) (by exact Own.mt _ _) (by exact B37.out.kp0 ((Kp.refl _ _).alloc _)) (by rw [HLN.out]; simp; omega) (by simp) ?_
                   intro v8 w8 o8 k8
                   rw [List.nil_append] at o8
                   have K8 := hid ((Kp.refl No w7).alloc (.cells #[] 5) |>.step k8 fun i hi h => by omega)
                   have O8 := hid o8
                   have V8 := hid (HV.out.kp0 (K7.out.trans K8.out))
                   clear o8 k8)
                | (at_builtin
                   refine wp_app isU8 rfl (.tmp 113) (.tmp 114) rfl (base := w7.heap.size) (xs := img) (ys := ms) (by exact O8.out) (by exact V8.out) (by rw [HLN.out, HMN.out]; omega) (by exact K8.out.size) ?_
                   intro v9 w9 o9 k9
                   have K9 := hid (K7.out.trans (K8.out.step k9 fun i hi h => by omega))
                   have B9 := hid (o9.byt (P := Anyb) fun _ _ => trivial)
                   clear o9 k9)
                | (go_at_call 16
                   refine (unpack_any (HT.out.kp0 K9.out) B9.out (by rw [List.length_append, HLN.out, HMN.out]; omega)).mono ?_
                   rintro e w10 ⟨u10, t10, rfl, _, _, k10⟩
                   rw [HZ.out]
                   have K10 := hid (K9.out.trans k10)
                   clear k10))
              go_ret
              exact ⟨rfl, K10.out⟩
            · have hz3 : z = 3 := by rw [← hz, ← HIMG.out, unp_tail HC.out (by rw [HMN.out]; omega)]
              subst hz3
              have hmp : (0 : Int) < (mn : Int) := by omega
              have hmp2 : 0 < mn := by omega
              have hmb : ((mn : Int) == 0) = false := by rw [beq_eq_false_iff_ne]; omega
              clear hz hm0
              go_wp2_with (first
                | (at_builtin
                   refine wp_app isU8 rfl (.tmp 111) (.tmp 112) rfl (base := w7.heap.size) (xs := []) (ys := img) (by exact Own.mt _ _) (by exact B37.out.kp0 ((Kp.refl _ _).alloc _)) (by rw [HLN.out]; simp; omega) (by simp) ?_
                   intro v8 w8 o8 k8
                   rw [List.nil_append] at o8
                   have K8 := hid ((Kp.refl No w7).alloc (.cells #[] 5) |>.step k8 fun i hi h => by omega)
                   have O8 := hid o8
                   have V8 := hid (HV.out.kp0 (K7.out.trans K8.out))
                   clear o8 k8)
                | (at_builtin
                   refine wp_app isU8 rfl (.tmp 113) (.tmp 114) rfl (base := w7.heap.size) (xs := img) (ys := ms) (by exact O8.out) (by exact V8.out) (by rw [HLN.out, HMN.out]; omega) (by exact K8.out.size) ?_
                   intro v9 w9 o9 k9
                   have K9 := hid (K7.out.trans (K8.out.step k9 fun i hi h => by omega))
                   have B9 := hid (o9.byt (P := Anyb) fun _ _ => trivial)
                   clear o9 k9)
                | (go_at_call 16
                   refine (unpack_any (HT.out.kp0 K9.out) B9.out (by rw [List.length_append, HLN.out, HMN.out]; omega)).mono ?_
                   rintro e w10 ⟨u10, t10, rfl, _, _, k10⟩
                   rw [HZ.out]
                   have K10 := hid (K9.out.trans k10)
                   clear k10))
              go_ret
              exact ⟨rfl, K10.out⟩
  · have K3 := hid (K1.out.trans k3)
    have hne0 : (y != 0) = true := by rw [bne_iff_ne]; exact h2
    clear h1 h2 k3
    cases q with
    | false =>
      go_wp2
      go_ret
      exact ⟨rfl, K3.out⟩
    | true =>
      go_wp2
      go_ret
      exact ⟨rfl, K3.out⟩
end Go.Proofs.YthhikjgaljkfpaaDoor
