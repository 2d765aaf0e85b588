/-
  The walk of LoadSettles.
-/
import Derived.Test.YtoeeighfjoplhaaLoDa
namespace Go.Proofs.Ytoeeighfjoplhaa
open Go.RowKit
/-- What becomes of a seat when moves are made. -/
theorem Mvs.at {on : Nat} {ss s : List St} {m : Nat} (h : Mvs on ss m s) (i : Nat) : (s.getD i st0).id = (ss.getD i st0).id ∧ (s.getD i st0).cs = (ss.getD i st0).cs ∧ ((s.getD i st0).core = (ss.getD i st0).core ∨ ∃ t k : Nat, t < 64 ∧ k < 64 ∧ (s.getD i st0).core = (t : Int) ∧ (ss.getD i st0).core = (k : Int) ∧ on.testBit t = true ∧ on.testBit k = true ∧ (ss.getD i st0).cs.testBit t = true) := by
  induction h with
  | none => exact ⟨rfl, rfl, .inl rfl⟩
  | @next m s p t _ h1 ih =>
    have hp := h1.pl
    refine ⟨by rw [mvS_id hp]; exact ih.1, by rw [mvS_cs hp]; exact ih.2.1, ?_⟩
    by_cases e : i = p
    · subst e
      obtain ⟨k, hk1, hk2, hk3, _⟩ := h1.frm
      refine .inr ?_
      have hc := h1.tcs
      rw [ih.2.1] at hc
      rcases ih.2.2 with h2 | ⟨_, k', _, g2, _, g4, _, g6, _⟩
      · exact ⟨t, k, h1.t64, hk1, by rw [mvS_at hp], by rw [← h2]; exact hk2, h1.ton, hk3, hc⟩
      · exact ⟨t, k', h1.t64, g2, by rw [mvS_at hp], g4, h1.ton, g6, hc⟩
    · rw [mvS_ne e]
      exact ih.2.2
set_option maxRecDepth 100000 in
set_option maxHeartbeats 4000000 in
theorem loadSettles_walk (w : World) (v : Value) (s : Int) {ss : List St} (h : Rw 3 sc st0 w Anyb v ss ∧ ∀ s ∈ ss, U64 s.cs) (hs : 0 ≤ s ∧ s ≤ 18446744073709551615) :
    Calls Try.prog 6 #[v, .int .u64 s] w fun e w' => e = .returned (.bool true) ∧ Kp No w w' := by
  obtain ⟨s, rfl⟩ : ∃ k : Nat, s = (k : Int) := ⟨s.toNat, by omega⟩
  have HS := hid (show U64 s from show s < 18446744073709551616 by omega)
  have HR := hid h.1
  have HCS := hid (csAt_ok h.2)
  have mixed : Try.prog.follows .mixedOrders = true := by kernel_rfl
  obtain ⟨A, c, rfl, _⟩ := id h.1
  clear h hs
  go_enter Try.func6, Try.ntmps6
  go_upto_region 2 with (go_at_call 9; refine (awake_any _).mono ?_; rintro e w1 ⟨rfl, k1⟩; have K1 := hid k1; clear k1)
  go_upto_region 3 with (go_at_call 17; refine (apart_any (HR.out.kp0 K1.out)).mono ?_; rintro e w2 ⟨q, rfl, hq, k2⟩; have K2 := hid (K1.out.trans k2); clear hq k2)
  by_cases h1 : (40 : Int) < (ss.length : Int)
  · go_wp2_with fail
    go_ret
    exact ⟨rfl, K2.out⟩
  cases q with
  | false =>
    go_wp2_with fail
    go_ret
    exact ⟨rfl, K2.out⟩
  | true =>
  clear K1
  have HN := hid (show ss.length ≤ 40 by omega)
  go_upto_region 6 with (go_at_call 18; refine (settle_any (HR.out.kp0 K2.out) HN.out HS.out HCS.out).mono ?_; rintro e w3 ⟨B, d, m, l, rfl, hrw, hmv, hm0, k3⟩; have K3 := hid (K2.out.trans k3); have HL := hid hrw; have HM := hid hmv; have H0 := hid hm0; clear k3 hrw hmv hm0)
  have hLN := HM.out.len
  go_upto_region 7 with (go_at_call 15; refine (balance_any HL.out hLN HN.out HS.out (fun x => by rw [HM.out.cs]; exact HCS.out x)).mono ?_; rintro e w4 ⟨k4, i, t, q, rfl, hb⟩; have K4 := hid (K3.out.trans k4); have HB := hid hb; have KL := hid k4; clear k4 hb)
  obtain rfl : q = false := by
    rcases HB.out with ⟨_, p', t', _, _, h4⟩ | ⟨h, _⟩
    · exact (H0.out.not h4).elim
    · exact h
  have HR4 := hid (HR.out.kp0 K4.out)
  have HL4 := hid (HL.out.kp0 KL.out)
  have HLN := hid hLN
  have HSQ := hid HM.out.sq
  have HSS := hid (sqs_small ss HN.out)
  clear HB K2 K3 H0 HR HL KL hLN h1
  have HSA := hid (fun (W : World) (kk : Kp No w4 W) => squares_any (HR4.out.kp0 kk) HN.out)
  have HSB := hid (fun (W : World) (kk : Kp No w4 W) => squares_any (HL4.out.kp0 kk) (by rw [HLN.out]; exact HN.out))
  obtain ⟨x, hx⟩ : ∃ x, sqs ss = x := ⟨_, rfl⟩
  obtain ⟨y, hy⟩ : ∃ y, sqs l = y := ⟨_, rfl⟩
  have HMZ := hid (show m = 0 ↔ l = ss from ⟨fun e => by
    rcases HM.out.front with ⟨_, h⟩ | ⟨_, _, m', _, h, _⟩
    · exact h
    · omega, fun e => by have := HSQ.out; rw [e] at this; omega⟩)
  rw [hx, hy] at HSQ
  rw [hx] at HSA HSS
  rw [hy] at HSB
  have hSQ := HSQ.out
  have hSS := HSS.out
  have w2m := wrapI (x := 2 * (m : Int)) (by unfold I64; omega)
  have wxy := wrapI (x := (x : Int) - (y : Int)) (by unfold I64; omega)
  have gm0 : ¬ (m : Int) < 0 := by omega
  have gxy : ¬ (x : Int) - (y : Int) < 2 * (m : Int) := by omega
  have gnl : ((ss.length : Int) != (ss.length : Int)) = false := by simp
  clear hx hy
  go_upto_region 9 with (first
    | (go_at_call 22; with_reducible refine (HSA.out _ (Kp.refl _ _)).mono ?_; rintro e w8 ⟨rfl, k8⟩; have K8 := hid k8; clear k8)
    | (go_at_call 22; with_reducible refine (HSB.out _ K8.out).mono ?_; rintro e w9 ⟨rfl, k9⟩; have K9 := hid (K8.out.trans k9); clear k9))
  clear w2m wxy gm0 gxy gnl hSQ hSS HSQ HSS HSA HSB K8
  go_wp2_with fail
  go_loopw [12] (fun u wr => ∃ j : Nat, u = .int .i64 (j : Int) ∧ j ≤ ss.length ∧ Hid (Kp No w4 wr)) (fun u _ => ss.length - (vNum u).toNat)
  case atStart => exact ⟨0, rfl, Nat.zero_le _, K9⟩
  case round =>
    obtain ⟨j, rfl, hj, HK⟩ := hrel
    clear K9
    have hN := HN.out
    have hL := HLN.out
    have wj := wrapI (x := (j : Int) + 1) (by unfold I64; omega)
    by_cases hlt : j < ss.length
    · have glt : (j : Int) < (ss.length : Int) := by omega
      obtain ⟨ba, oa, rfl⟩ := HR4.out.there (by omega)
      obtain ⟨bb, ob, rfl⟩ := HL4.out.there (by omega)
      obtain ⟨h1, h2, h3⟩ := HM.out.at j
      have hU : U64 (ss.getD j st0).cs := by have := HCS.out (j : Int); unfold csAt at this; rwa [Int.toNat_natCast] at this
      have HCL := hid (fun (W : World) (kk : Kp No w4 W) => show W.cell? ⟨ba, oa + j * 3, none⟩ = some (.int .i64 (ss.getD j st0).id) ∧ W.cell? ⟨ba, oa + j * 3 + 1, none⟩ = some (.int .i64 (ss.getD j st0).core) ∧ W.cell? ⟨ba, oa + j * 3 + 2, none⟩ = some (.int .u64 ((ss.getD j st0).cs : Int)) ∧ W.cell? ⟨bb, ob + j * 3, none⟩ = some (.int .i64 (l.getD j st0).id) ∧ W.cell? ⟨bb, ob + j * 3 + 1, none⟩ = some (.int .i64 (l.getD j st0).core) ∧ W.cell? ⟨bb, ob + j * 3 + 2, none⟩ = some (.int .u64 ((l.getD j st0).cs : Int)) from
        ⟨HR4.out.cell (j := j) (i := 0) kk (by omega) (by omega) rfl, HR4.out.cell (j := j) (i := 1) kk (by omega) (by omega) rfl, HR4.out.cell (j := j) (i := 2) kk (by omega) (by omega) rfl, HL4.out.cell (j := j) (i := 0) kk (by omega) (by omega) rfl, HL4.out.cell (j := j) (i := 1) kk (by omega) (by omega) rfl, HL4.out.cell (j := j) (i := 2) kk (by omega) (by omega) rfl⟩)
      rw [h1, h2] at HCL
      obtain ⟨xi, hxi⟩ : ∃ x, (ss.getD j st0).id = x := ⟨_, rfl⟩
      obtain ⟨xm, hxm⟩ : ∃ x, (ss.getD j st0).cs = x := ⟨_, rfl⟩
      obtain ⟨xc, hxc⟩ : ∃ x, (ss.getD j st0).core = x := ⟨_, rfl⟩
      obtain ⟨yc, hyc⟩ : ∃ x, (l.getD j st0).core = x := ⟨_, rfl⟩
      rw [hxi, hxm, hxc, hyc] at HCL
      rw [hxm, hxc, hyc] at h3
      rw [hxm] at hU
      have HU := hid hU
      clear h1 h2 hxi hxm hxc hyc hU
      have gi : (xi == xi) = true := by simp
      have gin : (xi != xi) = false := by simp
      have gm : ((xm : Int) == (xm : Int)) = true := by simp
      have gmn : ((xm : Int) != (xm : Int)) = false := by simp
      by_cases he : yc = xc
      · subst he
        clear h3
        have gc : (yc == yc) = true := by simp
        have gcn : (yc != yc) = false := by simp
        go_upto_region 12 with fail
        refine region_all (fun W => Kp No w4 W) mixed (by kernel_rfl) (HK.out.trans (Kp.refl No _).drew) ?_
        repeat ((first | ((with_reducible refine cl_val (v := ?_) ?_ ?_ ?_); rotate_left; (focus (go_simp; done)); (focus (intro w' hw; obtain ⟨z0, z1, z2, z3, z4, z5⟩ := HCL.out _ hw; go_simp; (try with_reducible rfl); done))) | ((with_reducible refine cl_skip ?_ ?_); (focus (first | (go_simp; done) | exact unwanted rfl rfl)))); simp only [Act.put, List.setIfInBounds_toArray, List.set_cons_zero, List.set_cons_succ])
        refine cl_nil fun w5 hw => ?_
        have K5 := hid hw
        clear hw
        go_upto_region 14 with fail
        refine region_all (fun W => Kp No w4 W) mixed (by kernel_rfl) (K5.out.trans (Kp.refl No _).drew) ?_
        repeat ((first | ((with_reducible refine cl_val (v := ?_) ?_ ?_ ?_); rotate_left; (focus (go_simp; done)); (focus (intro w' hw; obtain ⟨z0, z1, z2, z3, z4, z5⟩ := HCL.out _ hw; go_simp; (try with_reducible rfl); done))) | ((with_reducible refine cl_skip ?_ ?_); (focus (first | (go_simp; done) | exact unwanted rfl rfl)))); simp only [Act.put, List.setIfInBounds_toArray, List.set_cons_zero, List.set_cons_succ])
        refine cl_nil fun w5 hw => ?_
        have K6 := hid hw
        clear hw
        go_wp2_with fail
        go_roundw
        case rel => exact ⟨j + 1, by go_num, by omega, K6⟩
        case measure => simp [vNum] <;> omega
      · obtain ⟨t', k', ht, hk, rfl, rfl, ht1, hk1, hc1⟩ := h3.resolve_left he
        have gc : ((t' : Int) == (k' : Int)) = false := by simp; omega
        have gcn : ((t' : Int) != (k' : Int)) = true := by simp; omega
        have B1 := hid (show isIn s (t' : Int) = true by rw [isIn_nat s t' ht, ht1])
        have B2 := hid (show isIn xm (t' : Int) = true by rw [isIn_nat xm t' ht, hc1])
        have B3 := hid (show isIn s (k' : Int) = true by rw [isIn_nat s k' hk, hk1])
        clear he h3 ht hk ht1 hk1 hc1
        go_upto_region 12 with fail
        refine region_all (fun W => Kp No w4 W) mixed (by kernel_rfl) (HK.out.trans (Kp.refl No _).drew) ?_
        repeat ((first | ((with_reducible refine cl_val (v := ?_) ?_ ?_ ?_); rotate_left; (focus (go_simp; done)); (focus (intro w' hw; obtain ⟨z0, z1, z2, z3, z4, z5⟩ := HCL.out _ hw; go_simp; (try with_reducible rfl); done))) | ((with_reducible refine cl_skip ?_ ?_); (focus (first | (go_simp; done) | exact unwanted rfl rfl)))); simp only [Act.put, List.setIfInBounds_toArray, List.set_cons_zero, List.set_cons_succ])
        refine cl_nil fun w5 hw => ?_
        have K5 := hid hw
        clear hw
        go_upto_region 14 with fail
        refine region_all (fun W => Kp No w4 W) mixed (by kernel_rfl) (K5.out.trans (Kp.refl No _).drew) ?_
        repeat ((first | ((with_reducible refine cl_val (v := ?_) ?_ ?_ ?_); rotate_left; (focus (go_simp; done)); (focus (intro w' hw; obtain ⟨z0, z1, z2, z3, z4, z5⟩ := HCL.out _ hw; go_simp; (try with_reducible rfl); done))) | ((with_reducible refine cl_skip ?_ ?_); (focus (first | (go_simp; done) | exact unwanted rfl rfl)))); simp only [Act.put, List.setIfInBounds_toArray, List.set_cons_zero, List.set_cons_succ])
        refine cl_call (v := .bool true) (by first | rfl | go_simp) (fun w' hw => by go_simp) (fun w' hw => ((fun W => refHas_any s (t' : Int) W HS.out) w').mono fun e w'' h => ⟨by rw [h.1, B1.out], by rw [← h.2]; exact hw⟩) ?_
        simp only [Act.put, List.setIfInBounds_toArray, List.set_cons_zero, List.set_cons_succ]
        repeat ((first | ((with_reducible refine cl_val (v := ?_) ?_ ?_ ?_); rotate_left; (focus (go_simp; done)); (focus (intro w' hw; obtain ⟨z0, z1, z2, z3, z4, z5⟩ := HCL.out _ hw; go_simp; (try with_reducible rfl); done))) | ((with_reducible refine cl_skip ?_ ?_); (focus (first | (go_simp; done) | exact unwanted rfl rfl)))); simp only [Act.put, List.setIfInBounds_toArray, List.set_cons_zero, List.set_cons_succ])
        refine cl_call (v := .bool true) (by first | rfl | go_simp) (fun w' hw => by go_simp) (fun w' hw => ((fun W => refHas_any xm (t' : Int) W HU.out) w').mono fun e w'' h => ⟨by rw [h.1, B2.out], by rw [← h.2]; exact hw⟩) ?_
        simp only [Act.put, List.setIfInBounds_toArray, List.set_cons_zero, List.set_cons_succ]
        repeat ((first | ((with_reducible refine cl_val (v := ?_) ?_ ?_ ?_); rotate_left; (focus (go_simp; done)); (focus (intro w' hw; obtain ⟨z0, z1, z2, z3, z4, z5⟩ := HCL.out _ hw; go_simp; (try with_reducible rfl); done))) | ((with_reducible refine cl_skip ?_ ?_); (focus (first | (go_simp; done) | exact unwanted rfl rfl)))); simp only [Act.put, List.setIfInBounds_toArray, List.set_cons_zero, List.set_cons_succ])
        refine cl_call (v := .bool true) (by first | rfl | go_simp) (fun w' hw => by go_simp) (fun w' hw => ((fun W => refHas_any s (k' : Int) W HS.out) w').mono fun e w'' h => ⟨by rw [h.1, B3.out], by rw [← h.2]; exact hw⟩) ?_
        simp only [Act.put, List.setIfInBounds_toArray, List.set_cons_zero, List.set_cons_succ]
        repeat ((first | ((with_reducible refine cl_val (v := ?_) ?_ ?_ ?_); rotate_left; (focus (go_simp; done)); (focus (intro w' hw; obtain ⟨z0, z1, z2, z3, z4, z5⟩ := HCL.out _ hw; go_simp; (try with_reducible rfl); done))) | ((with_reducible refine cl_skip ?_ ?_); (focus (first | (go_simp; done) | exact unwanted rfl rfl)))); simp only [Act.put, List.setIfInBounds_toArray, List.set_cons_zero, List.set_cons_succ])
        refine cl_nil fun w5 hw => ?_
        have K6 := hid hw
        clear hw
        go_wp2_with fail
        go_roundw
        case rel => exact ⟨j + 1, by go_num, by omega, K6⟩
        case measure => simp [vNum] <;> omega
    · obtain rfl : j = ss.length := by omega
      have glt : ¬ (ss.length : Int) < (ss.length : Int) := by omega
      by_cases hm : m = 0
      · subst hm
        go_wp2_with (go_at_call 20; refine (rsame_any (HL4.out.kp0 HK.out) (HR4.out.kp0 HK.out) hL (by omega)).mono ?_; rintro e w6 ⟨q, rfl, hq, k6⟩; obtain rfl : q = true := hq.2 (HMZ.out.1 rfl); have K6 := hid (HK.out.trans k6); clear hq k6)
        go_ret
        exact ⟨rfl, K4.out.trans K6.out⟩
      · have gm0 : ((m : Int) == 0) = false := by simp; omega
        go_wp2_with (go_at_call 20; refine (rsame_any (HL4.out.kp0 HK.out) (HR4.out.kp0 HK.out) hL (by omega)).mono ?_; rintro e w6 ⟨q, rfl, hq, k6⟩; obtain rfl : q = false := (by cases q; rfl; exact absurd (HMZ.out.2 (hq.1 rfl)) hm); have K6 := hid (HK.out.trans k6); clear hq k6)
        go_ret
        exact ⟨rfl, K4.out.trans K6.out⟩
end Go.Proofs.Ytoeeighfjoplhaa
