/-
  The walk of QueueJoins.
-/
import Derived.Test.YtlkbjfjjfifbmaaQTwo
namespace Go.Proofs.Ytlkbjfjjfifbmaa
open Go.RowKit

set_option maxRecDepth 100000 in
set_option maxHeartbeats 2000000 in
theorem queueJoins_walk (w : World) (v : Value) (m n : Mb) {ops : List Qo} (hv : Rw 6 qc qo0 w Anyb v ops) (hi : ∀ o ∈ ops, I6 o) (hm4 : I4 m) (hn4 : I4 n) :
    Calls Try.prog 16 #[v, .agg #[.int .i64 m.id, .int .i64 m.w, .int .i64 m.v, .int .i64 m.r], .agg #[.int .i64 n.id, .int .i64 n.w, .int .i64 n.v, .int .i64 n.r]] w fun e w' => e = .returned (.bool true) ∧ Kp No w w' := by
  have HV := hid hv
  obtain ⟨A, vc, rfl, hc, hm, hr⟩ := hv
  clear hr
  simp only [maxLen] at hm
  have HI := hid hi
  have HM := hid hm4
  have HN := hid hn4
  clear hi hm4 hn4
  go_enter Try.func16, Try.ntmps16
  go_wp2_with fail
  have b0 := (Blk.new w 67 #[.int .i64 m.id, .int .i64 m.w, .int .i64 m.v, .int .i64 m.r]).kp0 ((Kp.refl No _).alloc (.cells #[.int .i64 n.id, .int .i64 n.w, .int .i64 n.v, .int .i64 n.r] 67))
  have b1 := (Blk.new (w.alloc (.cells #[.int .i64 m.id, .int .i64 m.w, .int .i64 m.v, .int .i64 m.r] 67)) 67 #[.int .i64 n.id, .int .i64 n.w, .int .i64 n.v, .int .i64 n.r]).next (h := w.heap.size + 1) (by simp)
  have k0 := ((Kp.refl No w).alloc (.cells #[.int .i64 m.id, .int .i64 m.w, .int .i64 m.v, .int .i64 m.r] 67)).alloc (.cells #[.int .i64 n.id, .int .i64 n.w, .int .i64 n.v, .int .i64 n.r] 67)
  generalize (w.alloc (.cells #[.int .i64 m.id, .int .i64 m.w, .int .i64 m.v, .int .i64 m.r] 67)).alloc (.cells #[.int .i64 n.id, .int .i64 n.w, .int .i64 n.v, .int .i64 n.r] 67) = w0 at b0 b1 k0 ⊢
  refine (awakeq_any w0).mono ?_
  rintro e w1 ⟨rfl, k1⟩
  have K1 := hid (k0.trans k1)
  have B0 := hid (b0.kp0 k1)
  have B1 := hid (b1.kp0 k1)
  have V1 := hid (HV.out.kp0 K1.out)
  clear k0 k1 b0 b1 HV
  by_cases hbig : 60 < ops.length
  · go_wp2_with fail
    go_ret
    exact ⟨rfl, K1.out⟩
  · have hl : ops.length ≤ 60 := by omega
    go_wp2_with fail
    refine (walkedq_any V1.out HI.out hl).mono ?_
    rintro e w2 ⟨g, mb, sg, rfl, h2⟩
    have H2 := hid h2
    clear h2
    go_wp2_with fail
    refine (walkedq_any (V1.out.kp0 H2.out.kept) HI.out hl).mono ?_
    rintro e w3 ⟨g', mb', sg', rfl, h3⟩
    have H3 := hid (H2.out.pair h3)
    have hsl := playQ_len ops
    clear h3 H2
    generalize playQ ops = s at H3 hsl
    have X := hid fun (w' : World) (k : Kp No w1 w') => And.intro (B0.out.kp0 k) (B1.out.kp0 k)
    have F := hid (show ∀ w', Kp No w1 w' → w'.cell? ⟨w.heap.size, 0, none⟩ = some (.int .i64 m.id) ∧ w'.cell? ⟨w.heap.size, 1, none⟩ = some (.int .i64 m.w) ∧ w'.cell? ⟨w.heap.size, 2, none⟩ = some (.int .i64 m.v) ∧ w'.cell? ⟨w.heap.size, 3, none⟩ = some (.int .i64 m.r) ∧ w'.cell? ⟨w.heap.size + 1, 0, none⟩ = some (.int .i64 n.id) ∧ w'.cell? ⟨w.heap.size + 1, 1, none⟩ = some (.int .i64 n.w) ∧ w'.cell? ⟨w.heap.size + 1, 2, none⟩ = some (.int .i64 n.v) ∧ w'.cell? ⟨w.heap.size + 1, 3, none⟩ = some (.int .i64 n.r) from fun w' k => by
      have a0 := (B0.out.kp0 k).cell 0
      have a1 := (B0.out.kp0 k).cell 1
      have a2 := (B0.out.kp0 k).cell 2
      have a3 := (B0.out.kp0 k).cell 3
      have c0 := (B1.out.kp0 k).cell 0
      have c1 := (B1.out.kp0 k).cell 1
      have c2 := (B1.out.kp0 k).cell 2
      have c3 := (B1.out.kp0 k).cell 3
      exact ⟨by simpa using a0, by simpa using a1, by simpa using a2, by simpa using a3, by simpa using c0, by simpa using c1, by simpa using c2, by simpa using c3⟩)
    clear X
    obtain ⟨a0, a1, a2, a3, c0, c1, c2, c3⟩ := F.out _ H3.out.kept
    go_wp2_with fail
    refine H3.out.step (fun _ q => join_any q m HM.out.i) ?_
    intro w4 h4 _
    have H4 := hid h4
    clear h4 a0 a1 a2 a3 c0 c1 c2 c3
    obtain ⟨a0, a1, a2, a3, c0, c1, c2, c3⟩ := F.out _ H4.out.kept
    go_wp2_with fail
    refine H4.out.step (fun _ q => join_any q n HN.out.i) ?_
    intro w5 h5 _
    have H5 := hid h5
    clear h5 a0 a1 a2 a3 c0 c1 c2 c3
    obtain ⟨a0, a1, a2, a3, c0, c1, c2, c3⟩ := F.out _ H5.out.kept
    go_wp2_with fail
    refine H5.out.swap.step (fun _ q => join_any q n HN.out.i) ?_
    intro w6 h6 _
    have H6 := hid h6
    clear h6 a0 a1 a2 a3 c0 c1 c2 c3
    obtain ⟨a0, a1, a2, a3, c0, c1, c2, c3⟩ := F.out _ H6.out.kept
    go_wp2_with fail
    refine H6.out.step (fun _ q => join_any q m HM.out.i) ?_
    intro w7 h7 _
    have H7 := hid h7.swap
    clear h7 a0 a1 a2 a3 c0 c1 c2 c3
    obtain ⟨a0, a1, a2, a3, c0, c1, c2, c3⟩ := F.out _ H7.out.kept
    have KF := hid (K1.out.trans H7.out.kept)
    by_cases hid1 : m.id = n.id
    · go_wp2_with fail
      go_ret
      exact ⟨rfl, KF.out⟩
    · have q3 := H3.out.fst.ok
      have E1 := hid (joinE_after (s := s) (m := m) (n := n) q3.ids (by omega) hid1)
      have E2 := hid (joinE_after (s := s) (m := n) (n := m) q3.ids (by omega) fun e => hid1 e.symm)
      have E3 := hid (joinS_comm (s := s) (m := m) (n := n) q3.ids q3.srt (by omega) hid1)
      rw [E1.out, E2.out]
      have H7 := hid (show QP w1 w7 No g mb sg (joinS (joinS s n) m) g' mb' sg' (joinS (joinS s n) m) by rw [← E3.out]; rw [E3.out]; have := H7.out; rw [E3.out] at this; exact this)
      clear q3 E1 E2 E3 H3 H4 H5 H6
      generalize joinS (joinS s n) m = t at H7
      generalize joinE s n = x
      generalize joinE s m = y
      go_wp2_with fail
      refine H7.out.fst.base.mono ?_
      rintro e w7 ⟨rfl, rfl⟩
      go_wp2_with fail
      refine H7.out.snd.base.mono ?_
      rintro e w7 ⟨rfl, rfl⟩
      go_wp2_with fail
      refine H7.out.fst.all.mono ?_
      rintro e w8 ⟨u8, rfl, k8, o8⟩
      have H8 := hid (H7.out.kp0 k8)
      have O8 := hid (o8.rw (d := mb0))
      have K8 := hid k8
      clear k8 o8
      go_wp2_with fail
      refine H8.out.snd.all.mono ?_
      rintro e w9 ⟨u9, rfl, k9, o9⟩
      have K9 := hid (K8.out.trans k9)
      have O9 := hid (o9.rw (d := mb0))
      have P9 := hid (O8.out.kp0 k9)
      have hlen := H7.out.fst.ok.len
      clear k9 o9
      go_wp2_with fail
      refine (sameq_any P9.out O9.out (by simp; omega)).mono ?_
      rintro e w10 ⟨rfl, k10⟩
      go_wp2_with fail
      go_ret
      exact ⟨by first | rfl | simp, (KF.out.trans K9.out).trans k10⟩
end Go.Proofs.Ytlkbjfjjfifbmaa
