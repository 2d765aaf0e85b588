/-
  The walk of DiskStays.
-/
import Derived.Test.YtndbkpmfimpgnaaDLaw
namespace Go.Proofs.Ytndbkpmfimpgnaa
open Go.RowKit

set_option maxHeartbeats 4000000 in
set_option maxRecDepth 100000 in
theorem diskStays_walk (w : World) (v : Value) (at' : Int) (vb vm vk : Value) {os more : List Dop} {keep : List Bool} {xb : List Int} (ho : Ops w Anyb v os) (hat : 0 ≤ at' ∧ at' ≤ 255) (hxb : Byt w Anyb vb xb) (hmo : Ops w Anyb vm more) (hk : Sl Value.bool false w Anyb vk keep) :
    Calls Try.prog 4 #[v, .int .u8 at', vb, vm, vk] w fun e w' => e = .returned (.bool true) ∧ Kp No w w' := by
  have HO := hid ho.below
  have HM := hid hmo.below
  have HB := hid hxb.below
  have HX := hid hxb.bytes
  have HKP := hid hk.below
  obtain ⟨B, bc, rfl, hbc, hbm, _⟩ := hxb
  obtain ⟨V, vc, rfl, hvc, hvm, _⟩ := ho.rw
  obtain ⟨M, mc, rfl, hmc, hmm, _⟩ := hmo.rw
  obtain ⟨K, kc, rfl, hkc, hkm, _⟩ := hk
  unfold maxLen at hbm hvm hmm hkm
  obtain ⟨nb, hnb⟩ : ∃ n, xb.length = n := ⟨_, rfl⟩
  have HNB := hid hnb
  rw [hnb] at hbc HB ⊢
  obtain ⟨nm, hnm⟩ : ∃ n, more.length = n := ⟨_, rfl⟩
  have HNM := hid hnm
  rw [hnm] at hmc HM ⊢
  generalize os.length = no at *
  generalize keep.length = nk at *
  obtain ⟨i, rfl⟩ : ∃ i : Nat, at' = (i : Int) := ⟨at'.toNat, by omega⟩
  obtain ⟨r, hr⟩ : ∃ r, i % 20 = r := ⟨_, rfl⟩
  have hmod : (i : Int).tmod 20 = (r : Int) := by rw [Int.tmod_eq_emod_of_nonneg (by omega)]; omega
  have hr20 : r < 20 := by omega
  have hwi := wrapI (x := (i : Int)) (by unfold I64; omega)
  clear hnb hnm ho hmo hr
  go_enter Try.func4, Try.ntmps4
  go_wp2_with fail
  refine (awake_any w).mono ?_
  rintro e w1 ⟨rfl, k1⟩
  have K1 := hid k1
  have HO1 := hid (HO.out.kp k1 fun _ _ h => h)
  have HM1 := hid (HM.out.kp k1 fun _ _ h => h)
  clear k1
  go_wp2_with fail
  refine (few_any HO1.out).mono ?_
  rintro e w1 ⟨q, rfl, rfl⟩
  go_wp2_with fail
  refine (few_any HM1.out).mono ?_
  rintro e w1 ⟨q2, rfl, rfl⟩
  cases q with
  | false =>
    go_wp2
    go_ret
    exact ⟨rfl, K1.out⟩
  | true =>
  cases q2 with
  | false =>
    go_wp2
    go_ret
    exact ⟨rfl, K1.out⟩
  | true =>
  by_cases hlm : 20 < nm
  · have d1 : decide ((20 : Int) < (nm : Int)) = true := by simp; omega
    go_wp2
    go_ret
    exact ⟨rfl, K1.out⟩
  have d1 : decide ((20 : Int) < (nm : Int)) = false := by simp; omega
  by_cases hlb : 64 < nb
  · have d2 : decide ((64 : Int) < (nb : Int)) = true := by simp; omega
    go_wp2
    go_ret
    exact ⟨rfl, K1.out⟩
  have d2 : decide ((64 : Int) < (nb : Int)) = false := by simp; omega
  by_cases hlk : 50 < nk
  · have d3 : decide ((50 : Int) < (nk : Int)) = true := by simp; omega
    go_wp2
    go_ret
    exact ⟨rfl, K1.out⟩
  have d3 : decide ((50 : Int) < (nk : Int)) = false := by simp; omega
  go_wp2_with fail
  refine (walked_any HO1.out).mono ?_
  rintro e w2 ⟨g, b, m, s0, rfl, D2, ha2, hk2, hg, hb, hm, k2⟩
  have K2 := hid (K1.out.trans k2)
  have hsz1 := K1.out.size
  have D2 := hid D2
  have HA2 := hid ha2
  have HK2 := hid hk2
  clear k2 ha2 hk2 HO1 HM1 d1 d2 d3
  go_wp2_with fail
  refine (write_is D2.out (off_on HA2.out) (by rw [HK2.out]; exact hr20) (HB.out.kp K2.out fun _ _ h => h) (fun h => by have : g < w.heap.size := h; omega) (by rw [HNB.out]; omega)).mono ?_
  rintro e w3 ⟨rfl, k3, D3⟩
  have L3 := look_wrote s0 r xb
  have a3 : (wrote s0 (r : Int) xb).armed = false := HA2.out
  have n3 : (wrote s0 (r : Int) xb).k.length = 20 := HK2.out
  generalize wrote s0 (r : Int) xb = s1 at D3 L3 a3 n3
  have K3 := hid (show Kp No w w3 from K2.out.step k3 fun i hi e => by rcases e with e | e <;> omega)
  have D3 := hid D3
  have L3 := hid L3
  have A3 := hid a3
  have N3 := hid n3
  clear k3 a3 n3 D2
  go_wp2_with fail
  refine (flush_is D3.out (off_on A3.out)).mono ?_
  rintro e w4 ⟨rfl, k4, D4⟩
  have L4 : (flushed (calld s1)).k.getD r [] = pad xb := by
    have := kept_at (calld s1) (j := r) (by show r < s1.k.length; rw [N3.out]; exact hr20)
    exact this.trans L3.out
  have c4 : ∀ x, (flushed (calld s1)).c x = none := fun _ => rfl
  have a4 : (flushed (calld s1)).armed = false := A3.out
  have n4 : (flushed (calld s1)).k.length = 20 := by show (kept (calld s1)).length = 20; rw [kept_len]; exact N3.out
  generalize flushed (calld s1) = s2 at D4 L4 c4 a4 n4
  have K4 := hid (show Kp No w w4 from K3.out.step k4 fun i hi e => by rcases e with e | e | e <;> omega)
  have D4 := hid D4
  have L4 := hid L4
  have C4 := hid c4
  have A4 := hid a4
  have N4 := hid n4
  clear k4 c4 a4 n4 D3 L3
  go_wp2_with fail
  refine (waits_any D4.out).mono ?_
  rintro e w5 ⟨v5, rfl, ow5, k5⟩
  rw [waits_none C4.out] at ow5
  obtain ⟨A5, c5, rfl⟩ := ow5.formN (m := 0) rfl
  have K5 := hid (K4.out.trans k5)
  have D5 := hid (D4.out.kp0 k5)
  clear ow5 k5 D4
  go_wp2
  go_loopw [18] (fun j wr => ∃ k : Nat, k ≤ nm ∧ j = .int .i64 (k : Int) ∧ Hid (∃ s, Dk wr g b m s ∧ s.k = s2.k ∧ s.armed = false ∧ s.c (r : Int) = none) ∧ Hid (Kp No w wr)) (fun j _ => nm - (intOf j).toNat)
  case atStart => exact ⟨0, Nat.zero_le _, rfl, hid ⟨s2, D5.out, rfl, A4.out, C4.out _⟩, K5⟩
  case round =>
    obtain ⟨k, hk, rfl, HD, KP⟩ := hrel
    by_cases hkn : k < nm
    · have HW := HM.out.kp KP.out fun _ _ h => h
      obtain ⟨b0, o0, rfl, ok, hcell⟩ := HW.at' (k := k) (by rw [HNM.out]; exact hkn)
      generalize more.getD k dop0 = x at ok hcell
      have c1 := hcell 1 (by omega)
      have c3 := hcell 3 (by omega)
      simp only [dc] at c1 c3
      have OK := hid ok
      obtain ⟨xd, xi, xn, xv, xl, xk, xkl⟩ := x
      simp only at c1 c3
      have hsum := wrapI (x := (k : Int) + 1) (by unfold I64; omega)
      clear hcell ok HO HM HW
      by_cases h3 : xi = (r : Int)
      · have n3 : (xi == (r : Int)) = true := by simp [h3]
        have n3' : (xi != (r : Int)) = false := by simp [h3]
        clear h3
        go_wp2
        go_roundw
        case rel => exact ⟨k + 1, by omega, by go_num, HD, KP⟩
        case measure => simp [intOf]; omega
      · have n3 : (xi == (r : Int)) = false := by simp [h3]
        have n3' : (xi != (r : Int)) = true := by simp [h3]
        have H3 := hid h3
        clear h3
        obtain ⟨s, D, hs1, hs2, hs3⟩ := HD.out
        have HS1 := hid hs1
        have HS2 := hid hs2
        have HS3 := hid hs3
        have D := hid (D.kp0 ((Kp.refl No wr).drew))
        clear hs1 hs2 hs3
        go_wp2_with fail
        refine region_tail 11 (by kernel_rfl) (by kernel_rfl) ?_
        simp only [List.take_succ_cons, List.take_zero, List.drop_succ_cons, List.drop_zero]
        repeat still_step
        refine wpStill_nil ?_
        go_wp2_with fail
        refine (write_any D.out HS2.out (OK.out.b.kp ((Kp.refl No wr).drew) fun _ _ h => h) (fun h => by have : g < w.heap.size := h; omega)).mono ?_
        rintro e w6 ⟨⟨x, rfl⟩, k6, s', D6, e1, e2, e3⟩
        have HD6 := hid (show ∃ s, Dk w6 g b m s ∧ s.k = s2.k ∧ s.armed = false ∧ s.c (r : Int) = none from ⟨s', D6, e1.trans HS1.out, e2.trans HS2.out, by rw [e3 _ (fun e => H3.out e.symm)]; exact HS3.out⟩)
        have KP6 := hid (show Kp No w w6 from KP.out.drew.step k6 fun i hi e => by rcases e with e | e <;> omega)
        clear D6 k6 e1 e2 e3 c1 c3 OK H3 D HD
        go_wp2
        go_roundw
        case rel => exact ⟨k + 1, by omega, by go_num, HD6, KP6⟩
        case measure => simp [intOf]; omega
    · obtain rfl : k = nm := by omega
      obtain ⟨s, D, hs1, hs2, hs3⟩ := HD.out
      have HS1 := hid hs1
      have HS2 := hid hs2
      have HS3 := hid hs3
      have D := hid D
      have hsr := KP.out.size
      clear hs1 hs2 hs3
      go_wp2_with fail
      refine (crash_any D.out (HKP.out.kp KP.out fun _ _ _ h => h) (fun h => by have : m < w.heap.size := h; omega)).mono ?_
      rintro e w7 ⟨⟨v7, rfl⟩, k7, D7⟩
      have F7 := look_crashed (s := s) keep (i := r) (by rw [HS1.out, N4.out]; exact hr20)
      rw [HS3.out, if_neg (by simp), HS1.out, L4.out] at F7
      have e7 : off (crashed s keep) = false := rfl
      have n7 : (crashed s keep).k.length = 20 := by rw [crashed_len, HS1.out, N4.out]
      generalize crashed s keep = s7 at D7 F7 e7 n7
      have K7 := hid (show Kp No w w7 from KP.out.step k7 fun i hi e => by rcases e with e | e | e <;> omega)
      have D7 := hid D7
      have N7 := hid n7
      have F7 := hid F7
      clear k7 n7 D
      go_wp2_with fail
      refine (read_is D7.out (i := r) (by rw [N7.out]; exact hr20) e7).mono ?_
      rintro e w8 ⟨v8, rfl, ⟨q8, rfl, hq8, hq8', B8⟩, k8⟩
      rw [F7.out] at B8
      have B8 := hid B8
      have K8 := hid (K7.out.trans k8)
      have HB8 := hid (HB.out.kp K8.out fun _ _ h => h)
      clear k8 D7 F7
      go_wp2
      go_loopw [21] (fun j wr => ∃ k n : Nat, k ≤ 64 ∧ j = .int .i64 (k : Int) ∧ wr = w8.drewN n) (fun j _ => 64 - (intOf j).toNat)
      case atStart => exact ⟨0, 0, Nat.zero_le _, rfl, rfl⟩
      case round =>
        obtain ⟨k, n, hk, rfl, rfl⟩ := hrel
        by_cases hk64 : k < 64
        · have bx := B8.out.cell k
          rw [List.getElem?_toArray, sc_at (by rw [pad_len (by rw [HNB.out]; omega)]; exact hk64)] at bx
          have hki : (k : Int) < 64 := by omega
          have hsum := wrapI (x := (k : Int) + 1) (by unfold I64; omega)
          by_cases hkb : k < nb
          · have hpx : (pad xb).getD k 0 = xb.getD k 0 := by
              unfold pad
              simp [List.getD, List.getElem?_append_left (show k < xb.length by rw [HNB.out]; exact hkb)]
            rw [hpx] at bx
            obtain ⟨A', c', he, _, _, _, hr'⟩ := HB8.out
            injection he with he1 he2 he3
            obtain ⟨bb, oo, e8, _, _, hcell⟩ := hr' (by rw [HNB.out]; omega)
            rw [e8] at he1
            subst he1
            have by' := hcell k (by rw [HNB.out]; exact hkb)
            generalize xb.getD k 0 = y at bx by'
            have hki2 : (k : Int) < (nb : Int) := by omega
            have hd1 : decide ((k : Int) < (nb : Int)) = true := by simp; omega
            have hd2 : decide ((nb : Int) ≤ (k : Int)) = false := by simp; omega
            have hd3 : decide (k < nb) = true := by simp; omega
            have hd4 : decide (nb ≤ k) = false := by simp; omega
            clear hcell hr' he2 he3 e8
            go_wp2
            go_quiet (fail)
            go_wp2
            go_roundw
            case rel => exact ⟨k + 1, _, by omega, by go_num, rfl⟩
            case measure => simp [intOf]; omega
          · have hpx : (pad xb).getD k 0 = 0 := by
              unfold pad
              rw [List.getD_eq_getElem?_getD, List.getElem?_append_right (by rw [HNB.out]; omega), List.getElem?_replicate]
              split <;> rfl
            rw [hpx] at bx
            have hd1 : decide ((k : Int) < (nb : Int)) = false := by simp; omega
            have hd2 : decide ((nb : Int) ≤ (k : Int)) = true := by simp; omega
            have hd3 : decide (k < nb) = false := by simp; omega
            have hd4 : decide (nb ≤ k) = true := by simp; omega
            go_wp2
            go_quiet (fail)
            go_wp2
            go_roundw
            case rel => exact ⟨k + 1, _, by omega, by go_num, rfl⟩
            case measure => simp [intOf]; omega
        · go_wp2
          go_ret
          exact ⟨rfl, K8.out.trans (kp_drewN _ _)⟩
end Go.Proofs.Ytndbkpmfimpgnaa
