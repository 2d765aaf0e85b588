/-
  The walk of QueueHalves.
-/
import Derived.Test.YtlkbjfjjfifbmaaQHalf
namespace Go.Proofs.Ytlkbjfjjfifbmaa
open Go.RowKit

set_option maxRecDepth 100000 in
set_option maxHeartbeats 10000000 in
theorem queueHalves_walk (w : World) (v : Value) (which a b c : Int) {ops : List Qo} (hv : Rw 6 qc qo0 w Anyb v ops) (hi : ∀ o ∈ ops, I6 o) (hw8 : 0 ≤ which ∧ which ≤ 255) (ha : 0 ≤ a ∧ a ≤ 4294967295) (hb : 0 ≤ b ∧ b ≤ 4294967295) (hc : 0 ≤ c ∧ c ≤ 4294967295) :
    Calls Try.prog 15 #[v, .int .u8 which, .int .u32 a, .int .u32 b, .int .u32 c] w fun e w' => e = .returned (.bool true) ∧ Kp No w w' := by
  have HV := hid hv
  obtain ⟨A, ac, rfl, hac, ham, har⟩ := hv
  clear har
  simp only [maxLen] at ham
  have HI := hid hi
  clear hi
  go_enter Try.func15, Try.ntmps15
  go_wp2_with fail
  refine (awakeq_any w).mono ?_
  rintro e w1 ⟨rfl, k1⟩
  have K1 := hid k1
  have V1 := hid (HV.out.kp0 k1)
  clear k1 HV
  by_cases hbig : 60 < ops.length
  · go_wp2_with fail
    go_ret
    exact ⟨rfl, K1.out⟩
  have hl : ops.length ≤ 60 := by omega
  go_wp2_with fail
  refine (walkedq_any V1.out HI.out hl).mono ?_
  rintro e w2 ⟨g, mb, sg, rfl, h2⟩
  have H2 := hid h2
  clear h2
  go_wp2_with fail
  refine (walkedq_any (V1.out.kp0 H2.out.kept) HI.out hl).mono ?_
  rintro e w3 ⟨g', mb', sg', rfl, h3⟩
  have H3 := hid (H2.out.pair h3)
  have hsl := playQ_len ops
  clear h3 H2
  generalize playQ ops = s at H3 hsl
  go_wp2_with fail
  refine H3.out.fst.all.mono ?_
  rintro e w4 ⟨u4, rfl, k4, o4⟩
  obtain ⟨A4, c4, rfl⟩ := o4.formN (m := (toldQ s).length) rfl
  have H4 := hid (H3.out.kp0 k4)
  have L4 := hid (show Rw 4 mc mb0 w4 Anyb (.slice A4 (toldQ s).length c4) (toldQ s) from o4.rw)
  have QS := hid H3.out.fst.ok
  have hlen := toldQ_len s
  clear k4 o4 H3
  by_cases h0 : (toldQ s).length = 0
  · rw [h0] at L4
    simp only [h0]
    go_wp2_with fail
    go_ret
    exact ⟨rfl, K1.out.trans H4.out.kept⟩
  have hpos : (0 : Int) < ((toldQ s).length : Int) := by omega
  obtain ⟨idx, hidx⟩ : ∃ idx : Nat, which % ((toldQ s).length : Int) = (idx : Int) := ⟨(which % ((toldQ s).length : Int)).toNat, by
    have := Int.emod_nonneg which (show ((toldQ s).length : Int) ≠ 0 by omega)
    omega⟩
  have hidx' : which.tmod ((toldQ s).length : Int) = (idx : Int) := by rw [Int.tmod_eq_emod_of_nonneg hw8.1, hidx]
  have hlt : idx < (toldQ s).length := by
    have := Int.emod_lt_of_pos which hpos
    omega
  obtain ⟨y, hy⟩ : ∃ y, s.l.getD idx mb0 = y := ⟨_, rfl⟩
  have hym : y ∈ s.l := by rw [← hy]; exact getD_mem (by omega)
  have hxy : ((toldQ s).getD idx mb0).id = y.id := by
    rw [← hy]
    simp [toldQ, List.getD, show idx < s.l.length by omega, tl]
  have HYI := hid (QS.out.ok y hym).id64
  have HYM := hid hym
  have hL60 : (toldQ s).length ≤ 60 := by omega
  clear hy hym hlen
  generalize toldQ s = L at L4 h0 hpos hidx hidx' hlt hxy hL60 ⊢
  obtain ⟨ab, ao, hA⟩ := L4.out.there (by omega)
  subst hA
  have a0 := L4.out.cell (Kp.refl No w4) hlt (i := 0) (by omega) rfl
  simp only [mc, Nat.add_zero] at a0
  rw [hxy] at a0
  have hli0 : ¬ (L.length : Int) = 0 := by omega
  have hlt' : (idx : Int) < (L.length : Int) := by omega
  have hi0 : ¬ (idx : Int) < 0 := by omega
  have hwx : IntKind.i64.wrap which = which := wrapI (by unfold I64; omega)
  have hwi : IntKind.i64.wrap (idx : Int) = (idx : Int) := wrapI (by unfold I64; omega)
  clear hxy
  obtain ⟨m, hm⟩ : ∃ m, a % 1000000 = m := ⟨_, rfl⟩
  obtain ⟨n, hn⟩ : ∃ n, b % 1000000 = n := ⟨_, rfl⟩
  obtain ⟨q, hq⟩ : ∃ q, c % 1048576 = q := ⟨_, rfl⟩
  have m0 : 0 ≤ m := by omega
  have m1 : m < 1000000 := by omega
  have n0 : 0 ≤ n := by omega
  have n1 : n < 1000000 := by omega
  have q0 : 0 ≤ q := by omega
  have q1 : q < 1048576 := by omega
  have hm' : a.tmod 1000000 = m := by rw [Int.tmod_eq_emod_of_nonneg ha.1, hm]
  have hn' : b.tmod 1000000 = n := by rw [Int.tmod_eq_emod_of_nonneg hb.1, hn]
  have hq' : c.tmod 1048576 = q := by rw [Int.tmod_eq_emod_of_nonneg hc.1, hq]
  have wm1 := wrapU32 m0 (by omega)
  have wn1 := wrapU32 n0 (by omega)
  have wq1 := wrapU32 q0 (by omega)
  have wm2 : IntKind.i64.wrap m = m := wrapI (by unfold I64; omega)
  have wn2 : IntKind.i64.wrap n = n := wrapI (by unfold I64; omega)
  have wq2 : IntKind.i64.wrap q = q := wrapI (by unfold I64; omega)
  have wmn : IntKind.i64.wrap (m + n) = m + n := wrapI (by unfold I64; omega)
  have wq3 : IntKind.i64.wrap (1 + q) = 1 + q := wrapI (by unfold I64; omega)
  clear L4
  go_wp2_with fail
  clear a0 hidx hidx' hwx hwi hli0 hlt' hi0 hm hm' hn hn' wm1 wn1 wm2 wn2
  refine H4.out.step (fun _ q => run_all q HYI.out m) ?_
  intro w5 h5 _
  have H5 := hid h5
  clear h5 H4
  go_wp2_with fail
  refine H5.out.step (fun _ q => run_all q HYI.out n) ?_
  intro w6 h6 _
  have H6 := hid h6
  clear h6 H5
  go_wp2_with fail
  refine H6.out.swap.step (fun _ q => run_all q HYI.out (m + n)) ?_
  intro w7 h7 _
  have H7 := hid h7.swap
  clear h7 H6 wmn
  have TWO := hid (fun h1 h2 => run_two QS.out HYM.out m0 n0 (by omega) h1 h2)
  obtain ⟨z, hz⟩ := run_there QS.out HYM.out (m + n)
  have HZ := hid hz
  clear hz
  have hsl2 := runS_len s y.id (m + n)
  have T60 : (toldQ (runS s y.id (m + n))).length ≤ 60 := by rw [toldQ_len]; omega
  clear hsl2
  generalize runE s y.id m = e1 at TWO ⊢
  generalize runS s y.id m = s1 at TWO H7 ⊢
  generalize runE s1 y.id n = e2 at TWO ⊢
  generalize runS s1 y.id n = s2 at TWO H7 ⊢
  generalize runE s y.id (m + n) = e3 at TWO ⊢
  generalize runS s y.id (m + n) = t at TWO H7 HZ T60
  generalize y.id = yi at HZ HYI ⊢
  by_cases he : e1 = 0 ∧ e2 = 0
  · obtain ⟨rfl, rfl⟩ := he
    obtain ⟨rfl, rfl⟩ := TWO.out rfl rfl
    clear TWO
    go_wp2_with fail
    refine H7.out.fst.base.mono ?_
    rintro e w7 ⟨rfl, rfl⟩
    go_wp2_with fail
    refine H7.out.snd.base.mono ?_
    rintro e w7 ⟨rfl, rfl⟩
    go_wp2_with fail
    refine H7.out.fst.all.mono ?_
    rintro e w8 ⟨u8, rfl, k8, o8⟩
    have H8 := hid (H7.out.kp0 k8)
    have O8 := hid (show Rw 4 mc mb0 w8 Anyb u8 (toldQ s2) from o8.rw)
    clear k8 o8 H7
    go_wp2_with fail
    refine H8.out.snd.all.mono ?_
    rintro e w9 ⟨u9, rfl, k9, o9⟩
    have H9 := hid (H8.out.kp0 k9)
    have P9 := hid (show Rw 4 mc mb0 w9 Anyb u9 (toldQ s2) from o9.rw)
    have O9 := hid (O8.out.kp0 k9)
    clear k9 o9 H8 O8
    go_wp2_with fail
    refine (sameq_any O9.out P9.out (by omega)).mono ?_
    rintro e w7 ⟨rfl, k7⟩
    have H7 := hid (H9.out.kp0 k7)
    clear k7 H9 O9 P9
    go_wp2_with fail
    refine H7.out.snd.all.mono ?_
    rintro e w8 ⟨u8, rfl, k8, o8⟩
    obtain ⟨A8, c8, rfl⟩ := o8.formN (m := (toldQ s2).length) rfl
    have O8 := hid (show Rw 4 mc mb0 w8 (fun i => w7.heap.size ≤ i) (.slice A8 (toldQ s2).length c8) (toldQ s2) from o8.rwP fun i hi => hi)
    have K8 := hid k8
    have W8 := hid (weigh_ok HZ.out (n := 1 + q) (by omega) (by omega))
    clear k8 o8
    go_wp2_with fail
    refine H7.out.snd.stepk K8.out (fun _ h => weigh_all h HYI.out (1 + q)) ?_
    intro w9 S9 h9 k9 hS9
    rw [W8.out.1]
    rw [W8.out.2] at h9
    have O9 := hid (O8.out.kp k9 fun i _ hp hs => by have := hS9 i hs; omega)
    have H9 := hid h9
    clear h9 k9 hS9 O8
    have UT := hid fun (i : Nat) => upd_told (s := s2) yi (1 + q) (i := i)
    have HL := hid (show (toldQ ⟨s2.base, updM s2.l yi (1 + q)⟩).length = (toldQ s2).length by simp [toldQ, updM])
    generalize (⟨s2.base, updM s2.l yi (1 + q)⟩ : Qs) = t2 at H9 UT HL
    go_wp2_with fail
    refine H9.out.all.mono ?_
    rintro e w10 ⟨u10, rfl, k10, o10⟩
    obtain ⟨A10, c10, rfl⟩ := o10.formN (m := (toldQ s2).length) HL.out
    have P10 := hid (show Rw 4 mc mb0 w10 Anyb (.slice A10 (toldQ s2).length c10) (toldQ t2) from o10.rw)
    have O10 := hid (O9.out.any.kp0 k10)
    have K10 := hid (H9.out.kept.trans k10)
    clear k10 o10
    generalize toldQ s2 = B at O10 P10 T60 UT HL ⊢
    generalize toldQ t2 = N at P10 UT HL
    go_wp2_with fail
    go_loopw [24] (fun i wr => ∃ k : Nat, k ≤ B.length ∧ i = .int .i64 (k : Int) ∧ Hid (Kp No w10 wr)) (fun i _ => B.length - (intOf i).toNat)
    case atStart => exact ⟨0, by omega, rfl, hid (Kp.refl No _)⟩
    case round =>
      obtain ⟨k, hk, rfl, K⟩ := hrel
      by_cases hlt : k < B.length
      · have hki : (k : Int) < (B.length : Int) := by omega
        have hltN : k < N.length := by rw [HL.out]; exact hlt
        obtain ⟨nb, no, hA⟩ := P10.out.there (by omega)
        subst hA
        obtain ⟨bb, bo, hB⟩ := O10.out.there (by omega)
        subst hB
        have c0 := P10.out.cell K.out hltN (i := 0) (by omega) rfl
        have c1 := P10.out.cell K.out hltN (i := 1) (by omega) rfl
        have c2 := P10.out.cell K.out hltN (i := 2) (by omega) rfl
        have c3 := P10.out.cell K.out hltN (i := 3) (by omega) rfl
        have d0 := O10.out.cell K.out hlt (i := 0) (by omega) rfl
        have d1 := O10.out.cell K.out hlt (i := 1) (by omega) rfl
        have d2 := O10.out.cell K.out hlt (i := 2) (by omega) rfl
        have d3 := O10.out.cell K.out hlt (i := 3) (by omega) rfl
        rw [UT.out k hlt] at c0 c1 c2 c3
        clear hltN
        generalize B.getD k mb0 = x at c0 c1 c2 c3 d0 d1 d2 d3
        by_cases hz : x.id = yi
        · rw [if_pos hz] at c0 c1 c2 c3
          simp only [mc, weiM, Nat.add_zero] at c0 c1 c2 c3 d0 d1 d2 d3
          rw [← Nat.add_assoc] at c1 c2 c3 d1 d2 d3
          generalize x.r * (1 + q) / x.w = xr at c3
          go_wp2_with fail
          go_quiet (fail)
          go_wp2_with fail
          go_roundw
          case rel => exact ⟨k + 1, by omega, by go_num, hid (K.out.drewN _)⟩
          case measure => simp [intOf]; omega
        · rw [if_neg hz] at c0 c1 c2 c3
          simp only [mc, Nat.add_zero] at c0 c1 c2 c3 d0 d1 d2 d3
          rw [← Nat.add_assoc] at c1 c2 c3 d1 d2 d3
          go_wp2_with fail
          go_quiet (fail)
          go_wp2_with fail
          go_roundw
          case rel => exact ⟨k + 1, by omega, by go_num, hid (K.out.drewN _)⟩
          case measure => simp [intOf]; omega
      · have hk2 : k = B.length := by omega
        subst hk2
        go_wp2_with fail
        go_ret
        exact ⟨rfl, (K1.out.trans K10.out).trans K.out⟩
  · have hne : e1 = 0 → ¬ e2 = 0 := fun h1 h2 => he ⟨h1, h2⟩
    clear TWO
    by_cases h1 : e1 = 0
    · have h2 := hne h1
      clear hne he
      go_wp2_with fail
      refine H7.out.snd.all.mono ?_
      rintro e w8 ⟨u8, rfl, k8, o8⟩
      obtain ⟨A8, c8, rfl⟩ := o8.formN (m := (toldQ t).length) rfl
      have O8 := hid (show Rw 4 mc mb0 w8 (fun i => w7.heap.size ≤ i) (.slice A8 (toldQ t).length c8) (toldQ t) from o8.rwP fun i hi => hi)
      have K8 := hid k8
      have W8 := hid (weigh_ok HZ.out (n := 1 + q) (by omega) (by omega))
      clear k8 o8
      go_wp2_with fail
      refine H7.out.snd.stepk K8.out (fun _ h => weigh_all h HYI.out (1 + q)) ?_
      intro w9 S9 h9 k9 hS9
      rw [W8.out.1]
      rw [W8.out.2] at h9
      have O9 := hid (O8.out.kp k9 fun i _ hp hs => by have := hS9 i hs; omega)
      have H9 := hid h9
      clear h9 k9 hS9 O8
      have UT := hid fun (i : Nat) => upd_told (s := t) yi (1 + q) (i := i)
      have HL := hid (show (toldQ ⟨t.base, updM t.l yi (1 + q)⟩).length = (toldQ t).length by simp [toldQ, updM])
      generalize (⟨t.base, updM t.l yi (1 + q)⟩ : Qs) = t2 at H9 UT HL
      go_wp2_with fail
      refine H9.out.all.mono ?_
      rintro e w10 ⟨u10, rfl, k10, o10⟩
      obtain ⟨A10, c10, rfl⟩ := o10.formN (m := (toldQ t).length) HL.out
      have P10 := hid (show Rw 4 mc mb0 w10 Anyb (.slice A10 (toldQ t).length c10) (toldQ t2) from o10.rw)
      have O10 := hid (O9.out.any.kp0 k10)
      have K10 := hid (H9.out.kept.trans k10)
      clear k10 o10
      generalize toldQ t = B at O10 P10 T60 UT HL ⊢
      generalize toldQ t2 = N at P10 UT HL
      go_wp2_with fail
      go_loopw [24] (fun i wr => ∃ k : Nat, k ≤ B.length ∧ i = .int .i64 (k : Int) ∧ Hid (Kp No w10 wr)) (fun i _ => B.length - (intOf i).toNat)
      case atStart => exact ⟨0, by omega, rfl, hid (Kp.refl No _)⟩
      case round =>
        obtain ⟨k, hk, rfl, K⟩ := hrel
        by_cases hlt : k < B.length
        · have hki : (k : Int) < (B.length : Int) := by omega
          have hltN : k < N.length := by rw [HL.out]; exact hlt
          obtain ⟨nb, no, hA⟩ := P10.out.there (by omega)
          subst hA
          obtain ⟨bb, bo, hB⟩ := O10.out.there (by omega)
          subst hB
          have c0 := P10.out.cell K.out hltN (i := 0) (by omega) rfl
          have c1 := P10.out.cell K.out hltN (i := 1) (by omega) rfl
          have c2 := P10.out.cell K.out hltN (i := 2) (by omega) rfl
          have c3 := P10.out.cell K.out hltN (i := 3) (by omega) rfl
          have d0 := O10.out.cell K.out hlt (i := 0) (by omega) rfl
          have d1 := O10.out.cell K.out hlt (i := 1) (by omega) rfl
          have d2 := O10.out.cell K.out hlt (i := 2) (by omega) rfl
          have d3 := O10.out.cell K.out hlt (i := 3) (by omega) rfl
          rw [UT.out k hlt] at c0 c1 c2 c3
          clear hltN
          generalize B.getD k mb0 = x at c0 c1 c2 c3 d0 d1 d2 d3
          by_cases hz : x.id = yi
          · rw [if_pos hz] at c0 c1 c2 c3
            simp only [mc, weiM, Nat.add_zero] at c0 c1 c2 c3 d0 d1 d2 d3
            rw [← Nat.add_assoc] at c1 c2 c3 d1 d2 d3
            generalize x.r * (1 + q) / x.w = xr at c3
            go_wp2_with fail
            go_quiet (fail)
            go_wp2_with fail
            go_roundw
            case rel => exact ⟨k + 1, by omega, by go_num, hid (K.out.drewN _)⟩
            case measure => simp [intOf]; omega
          · rw [if_neg hz] at c0 c1 c2 c3
            simp only [mc, Nat.add_zero] at c0 c1 c2 c3 d0 d1 d2 d3
            rw [← Nat.add_assoc] at c1 c2 c3 d1 d2 d3
            go_wp2_with fail
            go_quiet (fail)
            go_wp2_with fail
            go_roundw
            case rel => exact ⟨k + 1, by omega, by go_num, hid (K.out.drewN _)⟩
            case measure => simp [intOf]; omega
        · have hk2 : k = B.length := by omega
          subst hk2
          go_wp2_with fail
          go_ret
          exact ⟨rfl, (K1.out.trans K10.out).trans K.out⟩
    · clear hne he
      go_wp2_with fail
      refine H7.out.snd.all.mono ?_
      rintro e w8 ⟨u8, rfl, k8, o8⟩
      obtain ⟨A8, c8, rfl⟩ := o8.formN (m := (toldQ t).length) rfl
      have O8 := hid (show Rw 4 mc mb0 w8 (fun i => w7.heap.size ≤ i) (.slice A8 (toldQ t).length c8) (toldQ t) from o8.rwP fun i hi => hi)
      have K8 := hid k8
      have W8 := hid (weigh_ok HZ.out (n := 1 + q) (by omega) (by omega))
      clear k8 o8
      go_wp2_with fail
      refine H7.out.snd.stepk K8.out (fun _ h => weigh_all h HYI.out (1 + q)) ?_
      intro w9 S9 h9 k9 hS9
      rw [W8.out.1]
      rw [W8.out.2] at h9
      have O9 := hid (O8.out.kp k9 fun i _ hp hs => by have := hS9 i hs; omega)
      have H9 := hid h9
      clear h9 k9 hS9 O8
      have UT := hid fun (i : Nat) => upd_told (s := t) yi (1 + q) (i := i)
      have HL := hid (show (toldQ ⟨t.base, updM t.l yi (1 + q)⟩).length = (toldQ t).length by simp [toldQ, updM])
      generalize (⟨t.base, updM t.l yi (1 + q)⟩ : Qs) = t2 at H9 UT HL
      go_wp2_with fail
      refine H9.out.all.mono ?_
      rintro e w10 ⟨u10, rfl, k10, o10⟩
      obtain ⟨A10, c10, rfl⟩ := o10.formN (m := (toldQ t).length) HL.out
      have P10 := hid (show Rw 4 mc mb0 w10 Anyb (.slice A10 (toldQ t).length c10) (toldQ t2) from o10.rw)
      have O10 := hid (O9.out.any.kp0 k10)
      have K10 := hid (H9.out.kept.trans k10)
      clear k10 o10
      generalize toldQ t = B at O10 P10 T60 UT HL ⊢
      generalize toldQ t2 = N at P10 UT HL
      go_wp2_with fail
      go_loopw [24] (fun i wr => ∃ k : Nat, k ≤ B.length ∧ i = .int .i64 (k : Int) ∧ Hid (Kp No w10 wr)) (fun i _ => B.length - (intOf i).toNat)
      case atStart => exact ⟨0, by omega, rfl, hid (Kp.refl No _)⟩
      case round =>
        obtain ⟨k, hk, rfl, K⟩ := hrel
        by_cases hlt : k < B.length
        · have hki : (k : Int) < (B.length : Int) := by omega
          have hltN : k < N.length := by rw [HL.out]; exact hlt
          obtain ⟨nb, no, hA⟩ := P10.out.there (by omega)
          subst hA
          obtain ⟨bb, bo, hB⟩ := O10.out.there (by omega)
          subst hB
          have c0 := P10.out.cell K.out hltN (i := 0) (by omega) rfl
          have c1 := P10.out.cell K.out hltN (i := 1) (by omega) rfl
          have c2 := P10.out.cell K.out hltN (i := 2) (by omega) rfl
          have c3 := P10.out.cell K.out hltN (i := 3) (by omega) rfl
          have d0 := O10.out.cell K.out hlt (i := 0) (by omega) rfl
          have d1 := O10.out.cell K.out hlt (i := 1) (by omega) rfl
          have d2 := O10.out.cell K.out hlt (i := 2) (by omega) rfl
          have d3 := O10.out.cell K.out hlt (i := 3) (by omega) rfl
          rw [UT.out k hlt] at c0 c1 c2 c3
          clear hltN
          generalize B.getD k mb0 = x at c0 c1 c2 c3 d0 d1 d2 d3
          by_cases hz : x.id = yi
          · rw [if_pos hz] at c0 c1 c2 c3
            simp only [mc, weiM, Nat.add_zero] at c0 c1 c2 c3 d0 d1 d2 d3
            rw [← Nat.add_assoc] at c1 c2 c3 d1 d2 d3
            generalize x.r * (1 + q) / x.w = xr at c3
            go_wp2_with fail
            go_quiet (fail)
            go_wp2_with fail
            go_roundw
            case rel => exact ⟨k + 1, by omega, by go_num, hid (K.out.drewN _)⟩
            case measure => simp [intOf]; omega
          · rw [if_neg hz] at c0 c1 c2 c3
            simp only [mc, Nat.add_zero] at c0 c1 c2 c3 d0 d1 d2 d3
            rw [← Nat.add_assoc] at c1 c2 c3 d1 d2 d3
            go_wp2_with fail
            go_quiet (fail)
            go_wp2_with fail
            go_roundw
            case rel => exact ⟨k + 1, by omega, by go_num, hid (K.out.drewN _)⟩
            case measure => simp [intOf]; omega
        · have hk2 : k = B.length := by omega
          subst hk2
          go_wp2_with fail
          go_ret
          exact ⟨rfl, (K1.out.trans K10.out).trans K.out⟩
end Go.Proofs.Ytlkbjfjjfifbmaa
