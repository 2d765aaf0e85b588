/-
  The walk of LoadLess.
-/
import Derived.Test.YtoeeighfjoplhaaLoDa
namespace Go.Proofs.Ytoeeighfjoplhaa
open Go.RowKit
theorem So.at {w : World} {sb j i : Nat} {ss : List St} (h : So w sb ss) (hj : j < ss.length) (hi : i < 3) : w.cell? ⟨sb, j * 3 + i, none⟩ = some (sc (ss.getD j st0) i) := by
  obtain ⟨cs, hb, hc⟩ := h.bx
  rw [hb.cell]
  exact hc j i hj hi
set_option maxRecDepth 100000 in
set_option maxHeartbeats 4000000 in
theorem loadLess_walk (w : World) (v : Value) (s : Int) {ss : List St} (h : Rw 3 sc st0 w Anyb v ss ∧ ∀ s ∈ ss, U64 s.cs) (hs : 0 ≤ s ∧ s ≤ 18446744073709551615) :
    Calls Try.prog 5 #[v, .int .u64 s] w fun e w' => e = .returned (.bool true) ∧ Kp No w w' := by
  obtain ⟨s, rfl⟩ : ∃ k : Nat, s = (k : Int) := ⟨s.toNat, by omega⟩
  have HS := hid (show U64 s from show s < 18446744073709551616 by omega)
  have HR := hid h.1
  have HCS := hid (csAt_ok h.2)
  obtain ⟨A, c, rfl, _⟩ := id h.1
  clear h hs
  go_enter Try.func5, Try.ntmps5
  go_upto_region 2 with (go_at_call 9; refine (awake_any _).mono ?_; rintro e w1 ⟨rfl, k1⟩; have K1 := hid k1; clear k1)
  go_upto_region 3 with (go_at_call 17; refine (apart_any (HR.out.kp0 K1.out)).mono ?_; rintro e w2 ⟨q, rfl, hq, k2⟩; have HQ := hid hq; have K2 := hid (K1.out.trans k2); clear hq k2)
  by_cases h1 : (40 : Int) < (ss.length : Int)
  · go_wp2_with fail
    go_ret
    exact ⟨rfl, K2.out⟩
  cases q with
  | false =>
    go_wp2_with fail
    go_ret
    exact ⟨rfl, K2.out⟩
  | true =>
  have HA := hid (HQ.out.1 rfl)
  clear HQ K1
  have HN := hid (show ss.length ≤ 40 by omega)
  go_upto_region 6 with (go_at_call 15; refine (balance_any (HR.out.kp0 K2.out) rfl HN.out HS.out HCS.out).mono ?_; rintro e w3 ⟨k3, i, t, q, rfl, hb⟩; have K3 := hid (K2.out.trans k3); have HB := hid hb; clear k3 hb)
  cases q with
  | false =>
    obtain ⟨rfl, rfl⟩ : i = 0 ∧ t = 0 := by
      rcases HB.out with ⟨h, _⟩ | ⟨_, h2, h3, _⟩
      · cases h
      · exact ⟨h2, h3⟩
    go_wp2_with fail
    go_ret
    exact ⟨rfl, K3.out⟩
  | true =>
  obtain ⟨p, t', hi, ht, hmv⟩ : ∃ p t' : Nat, i = (ss.getD p st0).id ∧ t = (t' : Int) ∧ Mv1 s ss p t' := by
    rcases HB.out with ⟨_, h⟩ | ⟨h, _⟩
    · exact h
    · cases h
  subst ht
  have HMV := hid hmv
  have HI := hid hi.symm
  clear hi hmv HB K2
  have HPL := hid HMV.out.pl
  go_upto_region 9 with (refine wp_apps usS (fun x i => sc_one x i) rfl (.tmp 42) (.tmp 43) rfl (f := sc) (d := st0) (base := w3.heap.size) (xs := []) (ys := ss) (Pb := Anyb) (by exact Ow.mt _ _ _ _ _ (Nat.le_refl _)) (by exact (HR.out.kp0 K3.out).kp0 ((Kp.refl No _).alloc _)) (by have := HN.out; simp only [List.length_nil]; omega) (by have := HN.out; simp only [List.length_nil, maxLen]; omega) (by rw [World.size_alloc]; omega) ?_
                         intro v6 w6 o6 k6
                         rw [List.nil_append] at o6
                         obtain ⟨A6, c6, rfl, s6⟩ := Sw.of o6
                         obtain ⟨sb, rfl, so, hlt, hge⟩ := s6.so (by have := HPL.out; omega)
                         have SO6 := hid so
                         have CB := hid s6.cb
                         have GE := hid (show w.heap.size ≤ sb by have := K3.out.size; omega)
                         have K6 := hid ((K3.out.trans ((Kp.refl No _).alloc (.cells #[] 38))).step k6 fun i hi e => by have := K3.out.size; omega)
                         clear o6 k6 s6 so hlt hge)
  go_wp2_with fail
  go_loopw [11, 12] (fun u v wr => ∃ (j : Nat) (f : Bool), u = .bool f ∧ v = .int .i64 (j : Int) ∧ j ≤ ss.length ∧ Hid (f = decide (p < j)) ∧ Hid (So wr sb (if j ≤ p then ss else mvS ss p (t' : Int))) ∧ Hid (Kp No w wr)) (fun _ v _ => ss.length - (vNum v).toNat)
  case atStart => exact ⟨0, false, rfl, rfl, Nat.zero_le _, hid (by simp), hid (by rw [if_pos (Nat.zero_le _)]; exact SO6.out), K6⟩
  case round =>
    obtain ⟨j, f, rfl, rfl, hj, HF, HSO, HK⟩ := hrel
    clear SO6 K6 K3
    have hN := HN.out
    have hP := HPL.out
    have wj := wrapI (x := (j : Int) + 1) (by unfold I64; omega)
    by_cases hlt : j < ss.length
    · have glt : (j : Int) < (ss.length : Int) := by omega
      by_cases hjp : j = p
      · subst hjp
        have HSJ := hid (show So wr sb ss from by have := HSO.out; rwa [if_pos (Nat.le_refl _)] at this)
        obtain ⟨k, hk1, hk2, hk3, hk4⟩ := HMV.out.frm
        have htk : t' ≠ k := by rintro rfl; omega
        have b1 : isIn s (k : Int) = true := by rw [isIn_nat s k hk1, hk3]
        have b2 : isIn s (t' : Int) = true := by rw [isIn_nat s t' HMV.out.t64, HMV.out.ton]
        have b3 : isIn (ss.getD j st0).cs (t' : Int) = true := by rw [isIn_nat _ t' HMV.out.t64, HMV.out.tcs]
        have b4 : ((k : Int) == (t' : Int)) = false := by simp; omega
        have q0 := HSJ.out.at (j := j) (i := 0) hlt (by omega)
        have q1 := HSJ.out.at (j := j) (i := 1) hlt (by omega)
        have q2 := HSJ.out.at (j := j) (i := 2) hlt (by omega)
        have hU : U64 (ss.getD j st0).cs := by have := HCS.out (j : Int); unfold csAt at this; rwa [Int.toNat_natCast] at this
        simp only [sc, Nat.add_zero] at q0 q1 q2
        rw [HI.out] at q0
        rw [hk2] at q1
        obtain ⟨m, hm⟩ : ∃ m, (ss.getD j st0).cs = m := ⟨_, rfl⟩
        rw [hm] at q2 b3 hU
        have HU := hid hU
        have B1 := hid b1
        have B2 := hid b2
        have B3 := hid b3
        have fz := HSJ.out.frozen (j * 3 + 1)
        have gii : (i == i) = true := by simp
        have gni : (i != i) = false := by simp
        clear hm hk2 hU b1 b2 b3 hk3 hk4
        go_wp2_with (go_at_call 21; refine (refHas_any _ _ _ (by first | exact HS.out | exact HU.out)).mono ?_; (first | rw [B1.out] | rw [B2.out] | rw [B3.out]); rintro e w8 ⟨rfl, rfl⟩)
        go_roundw
        case rel =>
          refine ⟨j + 1, true, rfl, by go_num, by omega, hid (by simp), hid ?_, hid ?_⟩
          · rw [if_neg (by omega)]
            exact HSJ.out.set hlt (t' : Int)
          · exact HK.out.step (Kp.set1 sb (j * 3 + 1) wr (.int .i64 (t' : Int))) fun i hi e => by have e : i = sb := e; have := GE.out; omega
        case measure => simp [vNum] <;> omega
      · have hlen : (if j ≤ p then ss else mvS ss p (t' : Int)).length = ss.length := by
          split
          · rfl
          · exact mvS_len
        have HSJ := hid (show wr.cell? ⟨sb, j * 3, none⟩ = some (.int .i64 (ss.getD j st0).id) from by
          have := HSO.out.at (j := j) (i := 0) (by rw [hlen]; exact hlt) (by omega)
          rw [Nat.add_zero] at this
          rw [this]
          split
          · rfl
          · simp only [sc, mvS_id HPL.out])
        have hne : (ss.getD j st0).id ≠ i := by
          rw [← HI.out]
          rcases Nat.lt_or_gt_of_ne hjp with h | h
          · exact HA.out p j h HPL.out
          · exact fun e => HA.out j p h hlt e.symm
        have q0 := HSJ.out
        obtain ⟨y, hy⟩ : ∃ y, (ss.getD j st0).id = y := ⟨_, rfl⟩
        rw [hy] at q0 hne
        have gyi : (y == i) = false := by simp [hne]
        have gni : (y != i) = true := by simp [hne]
        clear hy HSJ
        go_wp2_with fail
        go_roundw
        case rel =>
          refine ⟨j + 1, f, rfl, by go_num, by omega, hid ?_, hid ?_, HK⟩
          · rw [HF.out]
            exact decide_eq_decide.2 ⟨fun h => by omega, fun h => by omega⟩
          · by_cases h : j ≤ p
            · have := HSO.out
              rw [if_pos h] at this
              rwa [if_pos (by omega)]
            · have := HSO.out
              rw [if_neg h] at this
              rwa [if_neg (by omega)]
        case measure => simp [vNum] <;> omega
    · obtain rfl : j = ss.length := by omega
      obtain rfl : f = true := by rw [HF.out]; exact decide_eq_true hP
      have glt : ¬ (ss.length : Int) < (ss.length : Int) := by omega
      have HSJ := hid (show So wr sb (mvS ss p (t' : Int)) from by have := HSO.out; rwa [if_neg (by omega)] at this)
      have HRW := hid (show Rw 3 sc st0 wr (fun i => i = sb) (.slice (some ⟨sb, 0, none⟩) ss.length c6) (mvS ss p (t' : Int)) from by
        have := HSJ.out.rw (c := c6) (by rw [mvS_len]; exact CB.out.1) CB.out.2
        rwa [mvS_len] at this)
      have HSQ := hid (sqs_mv HMV.out)
      have gsq : ((sqs (mvS ss p (t' : Int)) : Nat) : Int) < ((sqs ss : Nat) : Int) := by have := HSQ.out; omega
      have HSA := hid (fun (W : World) (kk : Kp No wr W) => squares_any (HRW.out.kp0 kk) (by rw [mvS_len]; exact HN.out))
      have HSB := hid (fun (W : World) (kk : Kp No wr W) => squares_any (HR.out.kp0 (HK.out.trans kk)) HN.out)
      obtain ⟨x, hx⟩ : ∃ x, sqs (mvS ss p (t' : Int)) = x := ⟨_, rfl⟩
      obtain ⟨y, hy⟩ : ∃ y, sqs ss = y := ⟨_, rfl⟩
      rw [hx] at HSA gsq
      rw [hy] at HSB gsq
      clear hx hy hP
      go_wp2_with (first
        | (go_at_call 22; with_reducible refine (HSA.out _ (Kp.refl _ _)).mono ?_; rintro e w8 ⟨rfl, k8⟩; have K8 := hid k8; clear k8)
        | (go_at_call 22; with_reducible refine (HSB.out _ K8.out).mono ?_; rintro e w9 ⟨rfl, k9⟩; have K9 := hid k9; clear k9))
      go_ret
      exact ⟨rfl, (HK.out.trans K8.out).trans K9.out⟩
end Go.Proofs.Ytoeeighfjoplhaa
