/-
  The walk of QueueLags.
-/
import Derived.Test.YtlkbjfjjfifbmaaQMath2
import Derived.Test.YtlkbjfjjfifbmaaSU
namespace Go.Proofs.Ytlkbjfjjfifbmaa
open Go.RowKit

set_option maxRecDepth 100000 in
set_option maxHeartbeats 2000000 in
theorem queueLags_walk (w : World) (v : Value) (o : Qo) {ops : List Qo} (hv : Rw 6 qc qo0 w Anyb v ops) (hi : ∀ o ∈ ops, I6 o) (ho : I6 o) :
    Calls Try.prog 11 #[v, .agg #[.int .i64 o.d, .int .i64 o.m.id, .int .i64 o.m.w, .int .i64 o.m.v, .int .i64 o.m.r, .int .i64 o.n]] w fun e w' => e = .returned (.bool true) ∧ Kp No w w' := by
  have HV := hid hv
  obtain ⟨A, vc, rfl, hc, hm, hr⟩ := hv
  clear hr
  simp only [maxLen] at hm
  have HI := hid hi
  have HO := hid ho
  clear hi ho
  go_enter Try.func11, Try.ntmps11
  go_wp2_with fail
  have b0 := Blk.new w 72 #[.int .i64 o.d, .int .i64 o.m.id, .int .i64 o.m.w, .int .i64 o.m.v, .int .i64 o.m.r, .int .i64 o.n]
  have k0 := (Kp.refl No w).alloc (.cells #[.int .i64 o.d, .int .i64 o.m.id, .int .i64 o.m.w, .int .i64 o.m.v, .int .i64 o.m.r, .int .i64 o.n] 72)
  generalize w.alloc (.cells #[.int .i64 o.d, .int .i64 o.m.id, .int .i64 o.m.w, .int .i64 o.m.v, .int .i64 o.m.r, .int .i64 o.n] 72) = w0 at b0 k0 ⊢
  refine (awakeq_any w0).mono ?_
  rintro e w1 ⟨rfl, k1⟩
  have K1 := hid (k0.trans k1)
  have B1 := hid (b0.kp0 k1)
  have V1 := hid (HV.out.kp0 K1.out)
  clear k0 k1 b0 HV
  by_cases hbig : 60 < ops.length
  · go_wp2_with fail
    go_ret
    exact ⟨rfl, K1.out⟩
  · have hl : ops.length ≤ 60 := by omega
    go_wp2_with fail
    refine (walkedq_any V1.out HI.out hl).mono ?_
    rintro e w2 ⟨g, mb, sg, rfl, h2⟩
    have H2 := hid h2
    clear h2
    generalize playQ ops = s at H2
    go_wp2_with fail
    refine H2.out.all.mono ?_
    rintro e w3 ⟨u3, rfl, k3, o3⟩
    obtain ⟨A3, c3, rfl⟩ := o3.formN (m := (toldQ s).length) rfl
    have O3 := hid (show Rw 4 mc mb0 w3 (fun i => w2.heap.size ≤ i) (.slice A3 (toldQ s).length c3) (toldQ s) from o3.rwP fun i hi => hi)
    have K3 := hid k3
    have H3 := hid (H2.out.kp0 k3)
    clear k3 o3
    go_wp2_with fail
    refine H3.out.base.mono ?_
    rintro e w4 ⟨rfl, rfl⟩
    have b4 := B1.out.kp0 H3.out.kept
    have x0 := b4.cell 0
    have x1 := b4.cell 1
    have x2 := b4.cell 2
    have x3 := b4.cell 3
    have x4 := b4.cell 4
    have x5 := b4.cell 5
    simp at x0 x1 x2 x3 x4 x5
    go_wp2_with fail
    clear x0 x1 x2 x3 x4 x5 b4
    refine H2.out.stepk K3.out (fun _ q => do_any q o HO.out.i) ?_
    intro w5 S5 h5 k5 hS5
    have O5 := hid (O3.out.kp k5 fun i _ hp hs => by have := hS5 i hs; omega)
    have H5 := hid h5
    clear h5 k5 hS5 O3 H3 K3
    have HB := hid (doS_base s o)
    have HE := hid (doS_err (s := s) (o := o))
    generalize doS s o = s' at H5 HB HE ⊢
    generalize doE s o = e at HE ⊢
    generalize doM s o = m0 at ⊢
    have h6 := hid (H5.out.kp0 ((Kp.refl No w5).alloc (.cells #[.int .i64 m0.id, .int .i64 m0.w, .int .i64 m0.v, .int .i64 m0.r] 67)))
    have O6 := hid (O5.out.kp0 ((Kp.refl No w5).alloc (.cells #[.int .i64 m0.id, .int .i64 m0.w, .int .i64 m0.v, .int .i64 m0.r] 67)))
    clear H5 O5
    go_wp2_with fail
    generalize w5.alloc (.cells #[.int .i64 m0.id, .int .i64 m0.w, .int .i64 m0.v, .int .i64 m0.r] 67) = w6 at h6 O6 ⊢
    refine h6.out.all.mono ?_
    rintro ed w7 ⟨u7, rfl, k7, o7⟩
    obtain ⟨A7, c7, rfl⟩ := o7.formN (m := (toldQ s').length) rfl
    have H7 := hid (h6.out.kp0 k7)
    have O7 := hid (show Rw 4 mc mb0 w7 Anyb (.slice A7 (toldQ s').length c7) (toldQ s') from o7.rw)
    have P7 := hid (O6.out.any.kp0 k7)
    have hlen := h6.out.ok.len
    rw [← toldQ_len] at hlen
    clear h6 k7 o7 O6
    have hb0 := H7.out.ok.b1
    have hbs := H2.out.ok.b1
    have hbb := HB.out
    have hn0 : ¬ s.base < 0 := by omega
    have hn1 : ¬ s'.base < s.base := by omega
    have TO := hid (toldQ_ok H7.out.ok)
    have TA := hid fun (i j : Nat) => toldQ_at H7.out.ok (i := i) (j := j)
    clear HB hbb
    have KQ := hid H7.out.kept
    by_cases he : e = 0
    · subst he
      clear P7
      generalize toldQ s' = L at O7 TO TA hlen ⊢
      go_wp2_with fail
      refine H7.out.base.mono ?_
      rintro ed w7 ⟨rfl, rfl⟩
      go_wp2_with fail
      go_loopw [12] (fun i wr => ∃ k : Nat, k ≤ L.length ∧ i = .int .i64 (k : Int) ∧ Hid (Kp No w7 wr)) (fun i _ => L.length - (intOf i).toNat)
      case atStart => exact ⟨0, by omega, rfl, hid (Kp.refl No _)⟩
      case round =>
        obtain ⟨k, hk, rfl, K⟩ := hrel
        by_cases hlt : k < L.length
        · have hki : (k : Int) < (L.length : Int) := by omega
          obtain ⟨ab, ao, hA⟩ := O7.out.there (by omega)
          subst hA
          have c0 := O7.out.cell K.out hlt (i := 0) (by omega) rfl
          have c1 := O7.out.cell K.out hlt (i := 1) (by omega) rfl
          have c2 := O7.out.cell K.out hlt (i := 2) (by omega) rfl
          have c3 := O7.out.cell K.out hlt (i := 3) (by omega) rfl
          obtain ⟨m, hm1⟩ : ∃ m, L.getD k mb0 = m := ⟨_, rfl⟩
          have HM := hid hm1
          have hok := TO.out m (by rw [← hm1]; exact getD_mem hlt)
          rw [hm1] at c0 c1 c2 c3
          clear hm1
          simp only [mc, Nat.add_zero] at c0 c1 c2 c3
          rw [← Nat.add_assoc] at c1 c2 c3
          have h1 : ¬ m.v < 0 := by omega
          have h2 : ¬ m.r < 0 := by omega
          have h3 : ¬ m.w ≤ m.r := by omega
          clear hok
          go_wp2_with fail
          go_quiet (fail)
          go_wp2_with fail
          clear h1 h2 h3
          by_cases hk0 : k = 0
          · subst hk0
            go_quiet (fail)
            go_wp2_with fail
            go_roundw
            case rel => exact ⟨1, by omega, by go_num, hid (K.out.drewN _)⟩
            case measure => simp [intOf]; omega
          · obtain ⟨j, hj1⟩ : ∃ j, k = j + 1 := ⟨k - 1, by omega⟩
            have hwr : IntKind.i64.wrap ((k : Int) - 1) = (j : Int) := by rw [wrapI (by unfold I64; omega)]; omega
            have hwm : IntKind.i64.wrap (j : Int) = (j : Int) := wrapI (by unfold I64; omega)
            have hkp : 0 < (k : Int) := by omega
            have hkn : 0 < k := by omega
            have hji : (j : Int) < (L.length : Int) := by omega
            have d0 := O7.out.cell K.out (show j < L.length by omega) (i := 0) (by omega) rfl
            have d2 := O7.out.cell K.out (show j < L.length by omega) (i := 2) (by omega) rfl
            have hat := TA.out j k (by omega) hlt
            rw [HM.out] at hat
            generalize L.getD j mb0 = z at d0 d2 hat
            simp only [mc, Nat.add_zero] at d0 d2
            rw [← Nat.add_assoc] at d2
            clear hj1 hk0
            rcases hat with hat | ⟨hat, hat2⟩
            · have h1 : ¬ m.v < z.v := by omega
              have h2 : ¬ m.v = z.v := by omega
              have h3 : (m.v == z.v) = false := by simp [h2]
              clear hat
              go_quiet (fail)
              go_wp2_with fail
              clear h1 h2 h3
              go_roundw
              case rel => exact ⟨k + 1, by omega, by go_num, hid (K.out.drewN _)⟩
              case measure => simp [intOf]; omega
            · have h1 : ¬ m.v < z.v := by omega
              have h2 : m.v = z.v := by omega
              have h3 : (m.v == z.v) = true := by simp [h2]
              have h4 : ¬ m.id ≤ z.id := by omega
              clear hat hat2 h2
              go_quiet (fail)
              go_wp2_with fail
              clear h1 h3 h4
              go_roundw
              case rel => exact ⟨k + 1, by omega, by go_num, hid (K.out.drewN _)⟩
              case measure => simp [intOf]; omega
        · have hk2 : k = L.length := by omega
          subst hk2
          go_wp2_with fail
          go_ret
          exact ⟨rfl, (K1.out.trans KQ.out).trans K.out⟩
    · have E := HE.out he
      subst E
      generalize toldQ s' = L at O7 P7 TO TA hlen ⊢
      go_wp2_with fail
      refine H7.out.base.mono ?_
      rintro ed w7 ⟨rfl, rfl⟩
      go_wp2_with fail
      refine H7.out.base.mono ?_
      rintro ed w7 ⟨rfl, rfl⟩
      go_wp2_with fail
      refine (sameq_any P7.out O7.out (by omega)).mono ?_
      rintro ed w8 ⟨rfl, k8⟩
      go_wp2_with fail
      go_loopw [12] (fun i wr => ∃ k : Nat, k ≤ L.length ∧ i = .int .i64 (k : Int) ∧ Hid (Kp No w7 wr)) (fun i _ => L.length - (intOf i).toNat)
      case atStart => exact ⟨0, by omega, rfl, hid k8⟩
      case round =>
        obtain ⟨k, hk, rfl, K⟩ := hrel
        by_cases hlt : k < L.length
        · have hki : (k : Int) < (L.length : Int) := by omega
          obtain ⟨ab, ao, hA⟩ := O7.out.there (by omega)
          subst hA
          have c0 := O7.out.cell K.out hlt (i := 0) (by omega) rfl
          have c1 := O7.out.cell K.out hlt (i := 1) (by omega) rfl
          have c2 := O7.out.cell K.out hlt (i := 2) (by omega) rfl
          have c3 := O7.out.cell K.out hlt (i := 3) (by omega) rfl
          obtain ⟨m, hm1⟩ : ∃ m, L.getD k mb0 = m := ⟨_, rfl⟩
          have HM := hid hm1
          have hok := TO.out m (by rw [← hm1]; exact getD_mem hlt)
          rw [hm1] at c0 c1 c2 c3
          clear hm1
          simp only [mc, Nat.add_zero] at c0 c1 c2 c3
          rw [← Nat.add_assoc] at c1 c2 c3
          have h1 : ¬ m.v < 0 := by omega
          have h2 : ¬ m.r < 0 := by omega
          have h3 : ¬ m.w ≤ m.r := by omega
          clear hok
          go_wp2_with fail
          go_quiet (fail)
          go_wp2_with fail
          clear h1 h2 h3
          by_cases hk0 : k = 0
          · subst hk0
            go_quiet (fail)
            go_wp2_with fail
            go_roundw
            case rel => exact ⟨1, by omega, by go_num, hid (K.out.drewN _)⟩
            case measure => simp [intOf]; omega
          · obtain ⟨j, hj1⟩ : ∃ j, k = j + 1 := ⟨k - 1, by omega⟩
            have hwr : IntKind.i64.wrap ((k : Int) - 1) = (j : Int) := by rw [wrapI (by unfold I64; omega)]; omega
            have hwm : IntKind.i64.wrap (j : Int) = (j : Int) := wrapI (by unfold I64; omega)
            have hkp : 0 < (k : Int) := by omega
            have hkn : 0 < k := by omega
            have hji : (j : Int) < (L.length : Int) := by omega
            have d0 := O7.out.cell K.out (show j < L.length by omega) (i := 0) (by omega) rfl
            have d2 := O7.out.cell K.out (show j < L.length by omega) (i := 2) (by omega) rfl
            have hat := TA.out j k (by omega) hlt
            rw [HM.out] at hat
            generalize L.getD j mb0 = z at d0 d2 hat
            simp only [mc, Nat.add_zero] at d0 d2
            rw [← Nat.add_assoc] at d2
            clear hj1 hk0
            rcases hat with hat | ⟨hat, hat2⟩
            · have h1 : ¬ m.v < z.v := by omega
              have h2 : ¬ m.v = z.v := by omega
              have h3 : (m.v == z.v) = false := by simp [h2]
              clear hat
              go_quiet (fail)
              go_wp2_with fail
              clear h1 h2 h3
              go_roundw
              case rel => exact ⟨k + 1, by omega, by go_num, hid (K.out.drewN _)⟩
              case measure => simp [intOf]; omega
            · have h1 : ¬ m.v < z.v := by omega
              have h2 : m.v = z.v := by omega
              have h3 : (m.v == z.v) = true := by simp [h2]
              have h4 : ¬ m.id ≤ z.id := by omega
              clear hat hat2 h2
              go_quiet (fail)
              go_wp2_with fail
              clear h1 h3 h4
              go_roundw
              case rel => exact ⟨k + 1, by omega, by go_num, hid (K.out.drewN _)⟩
              case measure => simp [intOf]; omega
        · have hk2 : k = L.length := by omega
          subst hk2
          go_wp2_with fail
          go_ret
          exact ⟨rfl, (K1.out.trans KQ.out).trans K.out⟩
end Go.Proofs.Ytlkbjfjjfifbmaa
