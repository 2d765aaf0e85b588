/-
  The walk of DiskWhole.
-/
import Derived.Test.YtndbkpmfimpgnaaDLaw
namespace Go.Proofs.Ytndbkpmfimpgnaa
open Go.RowKit

/-- What is read of the first sectors. -/
def lookL (s : Ds) (k : Nat) : List (List Int) := (List.range k).map (look s)
theorem lookL_succ (s : Ds) (k : Nat) : lookL s (k + 1) = lookL s k ++ [look s k] := by simp [lookL, List.range_succ]
theorem lookL_len (s : Ds) (k : Nat) : (lookL s k).length = k := by simp [lookL]
theorem lookL_at (s : Ds) {k j : Nat} (h : j < k) : (lookL s k).getD j [] = look s j := by simp [lookL, List.getD, h]
theorem same_true {S T : Nat → Prop} {w : World} {v u : Value} {xs : List Int} (h : Byt w S v xs) (h' : Byt w T u xs) : Calls Try.prog 14 #[v, u] w fun e w' => e = .returned (.bool true) ∧ ∃ n, w' = w.drewN n :=
  (same_any v u xs xs w h h').mono fun e w' ⟨he, hn⟩ => ⟨by rw [he, decide_eq_true rfl], hn⟩

set_option maxHeartbeats 8000000 in
set_option maxRecDepth 100000 in
theorem diskWhole_walk (w : World) (v vk : Value) {os : List Dop} {keep : List Bool} (ho : Ops w Anyb v os) (hk : Sl Value.bool false w Anyb vk keep) :
    Calls Try.prog 3 #[v, vk] w fun e w' => e = .returned (.bool true) ∧ Kp No w w' := by
  have HO := hid ho.below
  have HKP := hid hk.below
  obtain ⟨V, vc, rfl, hvc, hvm, _⟩ := ho.rw
  obtain ⟨K, kc, rfl, hkc, hkm, _⟩ := hk
  unfold maxLen at hvm hkm
  obtain ⟨nk, hnk⟩ : ∃ n, keep.length = n := ⟨_, rfl⟩
  have HNK := hid hnk
  rw [hnk] at hkc HKP ⊢
  generalize os.length = no at *
  clear hnk ho
  go_enter Try.func3, Try.ntmps3
  go_wp2_with fail
  refine (awake_any w).mono ?_
  rintro e w1 ⟨rfl, k1⟩
  have K1 := hid k1
  have HO1 := hid (HO.out.kp k1 fun _ _ h => h)
  clear k1
  go_wp2_with fail
  refine (few_any HO1.out).mono ?_
  rintro e w1 ⟨q, rfl, rfl⟩
  cases q with
  | false =>
    go_wp2
    go_ret
    exact ⟨rfl, K1.out⟩
  | true =>
  by_cases hlk : 50 < nk
  · have d3 : decide ((50 : Int) < (nk : Int)) = true := by simp; omega
    go_wp2
    go_ret
    exact ⟨rfl, K1.out⟩
  have d3 : decide ((50 : Int) < (nk : Int)) = false := by simp; omega
  go_wp2_with fail
  refine (walked_any HO1.out).mono ?_
  rintro e w2 ⟨g, b, m, s0, rfl, D2, ha2, hk2, hg, hb, hm, k2⟩
  have K2 := hid (K1.out.trans k2)
  have hsz1 := K1.out.size
  have D2 := hid D2
  have HA2 := hid ha2
  have HK2 := hid hk2
  clear k2 ha2 hk2 HO1 d3
  go_wp2_with fail
  refine (kept_any D2.out).mono ?_
  rintro e w3 ⟨v3, rfl, ks3, k3⟩
  have l2 := D2.out.lts
  have hs23 := k3.size
  have KA3 := hid ks3.kr
  obtain ⟨A3, c3, rfl⟩ := ks3.formN (n := 20) HK2.out
  have D3 := hid (D2.out.kp0 k3)
  have K3 := hid (K2.out.trans k3)
  have OFF := hid (off_on HA2.out)
  have HOK := hid D2.out.ok
  clear ks3 k3 D2
  go_wp2
  obtain ⟨B, hB⟩ : ∃ B, w3.heap.size = B := ⟨_, rfl⟩
  have HB := hid hB
  rw [hB] at hs23
  clear hB
  go_loopw [9, 10] (fun v i wr => ∃ k : Nat, k ≤ 20 ∧ i = .int .i64 (k : Int) ∧ Hid (Ks wr B v (lookL s0 k)) ∧ Hid (Kp No w3 wr)) (fun _ i _ => 20 - (intOf i).toNat)
  case atStart => exact ⟨0, Nat.zero_le _, rfl, hid (Ks.nil w3 B), hid (Kp.refl No w3)⟩
  case round =>
    obtain ⟨k, hk20, rfl, KS, KP⟩ := hrel
    have hs0 : B ≤ wr.heap.size := by have := KP.out.size; have := HB.out; omega
    obtain ⟨A0, c0', rfl⟩ := KS.out.formN (n := k) (lookL_len _ _)
    by_cases hkn : k < 20
    · have hki : (k : Int) < 20 := by omega
      have hsum := wrapI (x := (k : Int) + 1) (by unfold I64; omega)
      have DR := hid (D3.out.kp0 KP.out)
      have HL := hid (lookL_succ s0 k)
      go_wp2_with fail
      refine (read_is DR.out (i := k) (by rw [HK2.out]; exact hkn) OFF.out).mono ?_
      rintro e w5 ⟨v5, rfl, ⟨q5, rfl, hq5, hq5', B5⟩, k5⟩
      have k6 := k5.alloc (.cells #[.slice (some ⟨q5, 0, none⟩) 64 64] 30)
      have hp6 := (Blk.new w5 30 #[Value.slice (some ⟨q5, 0, none⟩) 64 64]).cell 0
      simp only [List.getElem?_toArray, List.getElem?_cons_zero] at hp6
      have HP6 := hid hp6
      have B6 := hid (B5.kp0 ((Kp.refl No w5).alloc (.cells #[.slice (some ⟨q5, 0, none⟩) 64 64] 30)))
      have K6 := hid k6
      clear hp6 k6 k5 B5
      go_wp2_with (refine wp_snoc (w0 := wr) (base := B) (ks := lookL s0 k) (l := look s0 k) (S := No) (q := q5) (p := w5.heap.size) rfl _ _ rfl rfl KS.out K6.out (fun _ _ _ h => h) hs0 rfl HP6.out B6.out hq5 (by rw [lookL_len]; omega) ?_; intro v7 w7 ks7 k7; rw [← HL.out] at ks7; obtain ⟨A7, c7, rfl⟩ := ks7.formN (n := k + 1) (lookL_len _ _))
      have KS7 := hid ks7
      have KP7 := hid (show Kp No w3 w7 from (KP.out.trans K6.out).step k7 fun i hi e => by have := HB.out; omega)
      clear ks7 k7
      go_roundw
      case rel => exact ⟨k + 1, by omega, by go_num, KS7, KP7⟩
      case measure => simp [intOf]; omega
    · obtain rfl : k = 20 := by omega
      simp only [show ((20 : Nat) : Int) = 20 from rfl]
      have KS4 := hid KS.out.kr
      have KA4 := hid (KA3.out.kp0 KP.out)
      have D4 := hid (D3.out.kp0 KP.out)
      have K4 := hid (K3.out.trans KP.out)
      clear KS KP KA3 D3
      go_wp2_with fail
      refine (waits_any D4.out).mono ?_
      rintro e w5 ⟨v5, rfl, ow5, k5⟩
      obtain ⟨nW, hnW⟩ : ∃ n, (waits s0).length = n := ⟨_, rfl⟩
      have HW := hid hnW
      have SL5 := hid ow5.sl
      obtain ⟨A5, c5, rfl⟩ := ow5.formN (m := nW) hnW
      have KS5 := hid (KS4.out.kp0 k5)
      have KA5 := hid (KA4.out.kp0 k5)
      have D5 := hid (D4.out.kp0 k5)
      have K5 := hid (K4.out.trans k5)
      have hs45 := k5.size
      clear ow5 k5 hnW KS4 KA4 D4
      go_wp2_with fail
      refine (crash_any D5.out (HKP.out.kp K5.out fun _ _ _ h => h) (fun h => by have : m < w.heap.size := h; omega)).mono ?_
      rintro e w6 ⟨⟨v6, rfl⟩, k6, D6⟩
      have KS6 := hid (KS5.out.kp k6 fun i hi _ e => by rcases e with e | e | e <;> omega)
      have KA6 := hid (KA5.out.kp k6 fun i hi _ e => by rcases e with e | e | e <;> omega)
      have SL6 := hid (SL5.out.kp k6 fun i _ hi e => by rcases e with e | e | e <;> omega)
      have K6 := hid (show Kp No w w6 from K5.out.step k6 fun i hi e => by rcases e with e | e | e <;> omega)
      have D6 := hid D6
      clear k6 KS5 KA5 SL5 D5
      go_wp2_with fail
      refine (kept_any D6.out).mono ?_
      rintro e w7 ⟨v7, rfl, ks7, k7⟩
      have N7 := hid (show (crashed s0 keep).k.length = 20 by rw [crashed_len]; exact HK2.out)
      have KN7 := hid ks7.kr
      obtain ⟨A7, c7, rfl⟩ := ks7.formN (n := 20) N7.out
      have KS7 := hid (KS6.out.kp0 k7)
      have KA7 := hid (KA6.out.kp0 k7)
      have SL7 := hid (SL6.out.kp0 k7)
      have D7 := hid (D6.out.kp0 k7)
      have K7 := hid (K6.out.trans k7)
      clear ks7 k7 KS6 KA6 SL6 D6
      go_wp2_with fail
      refine (waits_any D7.out).mono ?_
      rintro e w8 ⟨v8, rfl, ow8, k8⟩
      rw [waits_none (fun _ => rfl)] at ow8
      obtain ⟨A8, c8, rfl⟩ := ow8.formN (m := 0) rfl
      have KN8 := hid (KN7.out.kp0 k8)
      have KS8 := hid (KS7.out.kp0 k8)
      have KA8 := hid (KA7.out.kp0 k8)
      have SL8 := hid (SL7.out.kp0 k8)
      have K8 := hid (K7.out.trans k8)
      clear ow8 k8 KS7 KA7 SL7 KN7 D7
      have hcz := hid (show cnt s0.c 20 = nW by rw [← HW.out, cnt_eq, ← HK2.out]; simp [waits])
      go_wp2
      go_loopw [15, 16] (fun c i wr => ∃ j : Nat, j ≤ 20 ∧ i = .int .i64 (j : Int) ∧ c = .int .i64 ((cnt s0.c j : Nat) : Int) ∧ Hid (Kp No w8 wr)) (fun _ i _ => 20 - (intOf i).toNat)
      case atStart => exact ⟨0, Nat.zero_le _, rfl, rfl, hid (Kp.refl No w8)⟩
      case round =>
        obtain ⟨j, hj20, rfl, rfl, KP⟩ := hrel
        by_cases hjn : j < 20
        · have hji : (j : Int) < 20 := by omega
          have hsum := wrapI (x := (j : Int) + 1) (by unfold I64; omega)
          have KAr := KA8.out.kp0 KP.out
          have KSr := KS8.out.kp0 KP.out
          have KNr := KN8.out.kp0 KP.out
          have HKr := HKP.out.kp (K8.out.trans KP.out) fun _ _ _ h => h
          have SLr := SL8.out.kp0 KP.out
          obtain ⟨rb1, ro1, q1, rfl, hc1, _, _, _, B1⟩ := KAr.get (j := j) (by rw [HK2.out]; exact hjn)
          obtain ⟨rb2, ro2, q2, rfl, hc2, _, _, _, B2⟩ := KSr.get (j := j) (by rw [lookL_len]; exact hjn)
          obtain ⟨rb3, ro3, q3, rfl, hc3, _, _, _, B3⟩ := KNr.get (j := j) (by rw [N7.out]; exact hjn)
          rw [lookL_at s0 hjn] at B2
          have hjk : j < s0.k.length := by rw [HK2.out]; exact hjn
          have hcr := crashed_at (s := s0) keep hjk
          have S1 := HOK.out.sec (s0.k.getD j []) (by simp [List.getD, hjk])
          have S2 := look_sec HOK.out hjk
          have BA := hid (blk_byt Anyb B1 S1 trivial)
          have BS := hid (blk_byt Anyb B2 S2 trivial)
          obtain ⟨c, hc⟩ : ∃ c, cnt s0.c j = c := ⟨_, rfl⟩
          have HC := hid hc
          rw [hc]
          have hcl : c ≤ j := by rw [← hc]; exact cnt_le _ _
          have hcsum := wrapI (x := (c : Int) + 1) (by unfold I64; omega)
          clear KAr KSr KNr
          cases hcj : (s0.c (j : Int)).isSome with
          | true =>
            have hrk := rank_at (c := s0.c) hjk hcj
            have hcn : cnt s0.c (j + 1) = c + 1 := by
              show cnt s0.c j + (if (s0.c (j : Int)).isSome = true then 1 else 0) = c + 1
              rw [if_pos hcj, hc]
            have HCN := hid hcn
            rw [hc] at hrk
            have hcW : c < nW := by
              rw [← HW.out]
              unfold waits
              rw [List.length_map]
              exact (List.getElem?_eq_some_iff.1 hrk).1
            have hwj : (waits s0).getD c 0 = (j : Int) := by
              unfold waits
              rw [List.getD_eq_getElem?_getD, List.getElem?_map, hrk]
              rfl
            obtain ⟨A9, c9, he9, _, _, hr9⟩ := SLr
            injection he9 with ha9 hy1 hy2
            obtain ⟨b9, o9, e9, _, _, hcell9⟩ := hr9 (by rw [HW.out]; omega)
            rw [e9] at ha9
            subst ha9
            have cw := hcell9 c (by rw [HW.out]; exact hcW)
            rw [hwj] at cw
            have hcWi : (c : Int) < (nW : Int) := by omega
            have hd1 : decide ((c : Int) < (nW : Int)) = true := by simp; omega
            have hd1' : decide (c < nW) = true := by simp; omega
            clear hy1 hy2 hr9 e9 hcell9 hwj hrk hcn
            rw [hcj, hc] at hcr
            by_cases hck : c < nk
            · obtain ⟨AK, cK, heK, _, _, hrK⟩ := HKr
              injection heK with haK hy3 hy4
              obtain ⟨bK, oK, eK, _, _, hcellK⟩ := hrK (by rw [HNK.out]; omega)
              rw [eK] at haK
              subst haK
              have ck := hcellK c (by rw [HNK.out]; exact hck)
              have hcki : (c : Int) < (nk : Int) := by omega
              have hd2 : decide ((c : Int) < (nk : Int)) = true := by simp; omega
              have hd2' : decide (c < nk) = true := by simp; omega
              clear hy3 hy4 hrK eK hcellK
              cases hkc : keep.getD c false with
              | true =>
                rw [hkc] at ck
                rw [hkc, if_pos ⟨rfl, rfl⟩] at hcr
                rw [hcr] at B3
                have BN := hid (blk_byt Anyb B3 S2 trivial)
                clear B1 B2 B3 S1 S2 hcr hcj hkc hc
                go_wp2_with fail
                refine (same_true BN.out BS.out).mono ?_
                rintro e wz ⟨rfl, nz, rfl⟩
                go_wp2
                go_roundw
                case rel => exact ⟨j + 1, by omega, by go_num, by rw [HCN.out]; go_num, hid (KP.out.trans (kp_drewN _ _))⟩
                case measure => simp [intOf]; omega
              | false =>
                rw [hkc] at ck
                rw [hkc, if_neg (by simp)] at hcr
                rw [hcr] at B3
                have BN := hid (blk_byt Anyb B3 S1 trivial)
                clear B1 B2 B3 S1 S2 hcr hcj hkc hc
                go_wp2_with fail
                refine (same_true BN.out BA.out).mono ?_
                rintro e wz ⟨rfl, nz, rfl⟩
                go_wp2
                go_roundw
                case rel => exact ⟨j + 1, by omega, by go_num, by rw [HCN.out]; go_num, hid (KP.out.trans (kp_drewN _ _))⟩
                case measure => simp [intOf]; omega
            · have hkc : keep.getD c false = false := by
                rw [List.getD_eq_getElem?_getD, List.getElem?_eq_none (by rw [HNK.out]; omega)]
                rfl
              rw [hkc, if_neg (by simp)] at hcr
              rw [hcr] at B3
              have BN := hid (blk_byt Anyb B3 S1 trivial)
              have hd2 : decide ((c : Int) < (nk : Int)) = false := by simp; omega
              have hd2' : decide (c < nk) = false := by simp; omega
              clear B1 B2 B3 S1 S2 hcr hcj hkc hc HKr
              go_wp2_with fail
              refine (same_true BN.out BA.out).mono ?_
              rintro e wz ⟨rfl, nz, rfl⟩
              go_wp2
              go_roundw
              case rel => exact ⟨j + 1, by omega, by go_num, by rw [HCN.out]; go_num, hid (KP.out.trans (kp_drewN _ _))⟩
              case measure => simp [intOf]; omega
          | false =>
            have hcn : cnt s0.c (j + 1) = c := by
              show cnt s0.c j + (if (s0.c (j : Int)).isSome = true then 1 else 0) = c
              rw [if_neg (by rw [hcj]; decide), hc]
              rfl
            have HCN := hid hcn
            have hln : look s0 j = s0.k.getD j [] := by
              unfold look
              cases h : s0.c (j : Int) with
              | none => rfl
              | some l => rw [h] at hcj; cases hcj
            rw [hcj, if_neg (by simp)] at hcr
            rw [hcr] at B3
            rw [hln] at BS
            have BN := hid (blk_byt Anyb B3 S1 trivial)
            clear hcn hcr B1 B2 B3 S1 S2 HKr hln
            by_cases hcW : c < nW
            · obtain ⟨i', hi1, hi2, hi3, hi4⟩ := waits_at (s := s0) (k := c) (by rw [HW.out]; exact hcW)
              have hne : ¬ i' = j := fun e => by
                subst e
                rw [hcj] at hi3
                cases hi3
              obtain ⟨A9, c9, he9, _, _, hr9⟩ := SLr
              injection he9 with ha9 hy1 hy2
              obtain ⟨b9, o9, e9, _, _, hcell9⟩ := hr9 (by rw [HW.out]; omega)
              rw [e9] at ha9
              subst ha9
              have cw := hcell9 c (by rw [HW.out]; exact hcW)
              rw [hi1] at cw
              have hcWi : (c : Int) < (nW : Int) := by omega
              have hd1 : decide ((c : Int) < (nW : Int)) = true := by simp; omega
              have hd1' : decide (c < nW) = true := by simp; omega
              have hx1 : ((i' : Int) == (j : Int)) = false := by simp; omega
              have hx2 : (i' == j) = false := by simp; omega
              clear hy1 hy2 hr9 e9 hcell9 hi1 hi2 hi3 hi4 hcj hc hne
              go_wp2_with fail
              go_quiet ((go_at_call 14; exact Calls.quiet_of (same_true (by exact BS.out.kp0 ((Kp.refl No _).drewN _)) (by exact BA.out.kp0 ((Kp.refl No _).drewN _)))))
              go_wp2_with fail
              refine (same_true (BN.out.kp0 ((Kp.refl No _).drewN _)) (BA.out.kp0 ((Kp.refl No _).drewN _))).mono ?_
              rintro e wz ⟨rfl, nz, rfl⟩
              go_wp2
              go_roundw
              case rel => exact ⟨j + 1, by omega, by go_num, by rw [HCN.out], hid (KP.out.trans (kp_drewN _ _))⟩
              case measure => simp [intOf]; omega
            · have hd1 : decide ((c : Int) < (nW : Int)) = false := by simp; omega
              have hd1' : decide (c < nW) = false := by simp; omega
              clear hcj hc SLr
              go_wp2_with fail
              go_quiet ((go_at_call 14; exact Calls.quiet_of (same_true (by exact BS.out.kp0 ((Kp.refl No _).drewN _)) (by exact BA.out.kp0 ((Kp.refl No _).drewN _)))))
              go_wp2_with fail
              refine (same_true (BN.out.kp0 ((Kp.refl No _).drewN _)) (BA.out.kp0 ((Kp.refl No _).drewN _))).mono ?_
              rintro e wz ⟨rfl, nz, rfl⟩
              go_wp2
              go_roundw
              case rel => exact ⟨j + 1, by omega, by go_num, by rw [HCN.out], hid (KP.out.trans (kp_drewN _ _))⟩
              case measure => simp [intOf]; omega
        · obtain rfl : j = 20 := by omega
          rw [hcz.out]
          have he : (((nW : Nat) : Int) == ((nW : Nat) : Int)) = true := by simp
          go_wp2
          go_ret
          exact ⟨rfl, K8.out.trans KP.out⟩
end Go.Proofs.Ytndbkpmfimpgnaa
