/-
  The walk of QueueMoves.
-/
import Derived.Test.YtlkbjfjjfifbmaaQKeep
namespace Go.Proofs.Ytlkbjfjjfifbmaa
open Go.RowKit

set_option maxRecDepth 100000 in
set_option maxHeartbeats 10000000 in
theorem queueMoves_walk (w : World) (u v : Value) (which : Int) {ops ops' : List Qo} (hu : Rw 6 qc qo0 w Anyb u ops) (hi : ∀ o ∈ ops, I6 o) (hv : Rw 6 qc qo0 w Anyb v ops') (hi' : ∀ o ∈ ops', I6 o) (hw8 : 0 ≤ which ∧ which ≤ 255) :
    Calls Try.prog 12 #[u, v, .int .u8 which] w fun e w' => e = .returned (.bool true) ∧ Kp No w w' := by
  have HU := hid hu
  have HV := hid hv
  obtain ⟨A, ac, rfl, hac, ham, har⟩ := hu
  obtain ⟨B, bc, rfl, hbc, hbm, hbr⟩ := hv
  clear har hbr
  simp only [maxLen] at ham hbm
  have HI := hid hi
  have HI' := hid hi'
  clear hi hi'
  go_enter Try.func12, Try.ntmps12
  go_wp2_with fail
  refine (awakeq_any w).mono ?_
  rintro e w1 ⟨rfl, k1⟩
  have K1 := hid k1
  have U1 := hid (HU.out.kp0 k1)
  have V1 := hid (HV.out.kp0 k1)
  clear k1 HU HV
  by_cases hbig : 60 < ops.length
  · go_wp2_with fail
    go_ret
    exact ⟨rfl, K1.out⟩
  by_cases hbig' : 60 < ops'.length
  · go_wp2_with fail
    go_ret
    exact ⟨rfl, K1.out⟩
  have hl : ops.length ≤ 60 := by omega
  have hl' : ops'.length ≤ 60 := by omega
  have hli : ¬ (60 : Int) < (ops.length : Int) := by omega
  have hli' : ¬ (60 : Int) < (ops'.length : Int) := by omega
  go_wp2_with fail
  refine (walkedq_any U1.out HI.out hl).mono ?_
  rintro e w2 ⟨g, mb, sg, rfl, h2⟩
  have H2 := hid h2
  clear h2
  go_wp2_with fail
  refine (walkedq_any (V1.out.kp0 H2.out.kept) HI'.out hl').mono ?_
  rintro e w3 ⟨g', mb', sg', rfl, h3⟩
  have H3 := hid (H2.out.pair h3)
  have hsl := playQ_len ops
  have htl := playQ_len ops'
  clear h3 H2
  generalize playQ ops = s at H3 hsl
  generalize playQ ops' = t at H3 htl
  go_wp2_with fail
  refine H3.out.fst.all.mono ?_
  rintro e w4 ⟨u4, rfl, k4, o4⟩
  obtain ⟨A4, c4, rfl⟩ := o4.formN (m := (toldQ s).length) rfl
  have H4 := hid (H3.out.more k4)
  have L4 := hid (KeepQ.mk (N := fun i => No i ∨ (w3.heap.size ≤ i ∧ i < w4.heap.size)) (L := toldQ s) (bs := []) ((o4.rwP (d := mb0) (P := fun i => w3.heap.size ≤ i) fun i hi => hi).mono fun i h1 h2 => .inr ⟨h2, h1⟩) (fun p hp => by cases hp))
  have QS := hid H3.out.fst.ok
  have QT := hid H3.out.snd.ok
  have hlen := toldQ_len s
  clear k4 o4 H3
  by_cases h0 : (toldQ s).length = 0
  · rw [h0] at L4
    simp only [h0]
    go_wp2_with fail
    go_ret
    exact ⟨rfl, K1.out.trans H4.out.kept⟩
  have hpos : (0 : Int) < ((toldQ s).length : Int) := by omega
  obtain ⟨idx, hidx⟩ : ∃ idx : Nat, which % ((toldQ s).length : Int) = (idx : Int) := ⟨(which % ((toldQ s).length : Int)).toNat, by
    have := Int.emod_nonneg which (show ((toldQ s).length : Int) ≠ 0 by omega)
    omega⟩
  have hidx' : which.tmod ((toldQ s).length : Int) = (idx : Int) := by rw [Int.tmod_eq_emod_of_nonneg hw8.1, hidx]
  have hlt : idx < (toldQ s).length := by
    have := Int.emod_lt_of_pos which hpos
    omega
  obtain ⟨y, hy⟩ : ∃ y, s.l.getD idx mb0 = y := ⟨_, rfl⟩
  have hym : y ∈ s.l := by rw [← hy]; exact getD_mem (by omega)
  have hxy : (toldQ s).getD idx mb0 = tl s.base y := by
    rw [← hy]
    simp [toldQ, List.getD, show idx < s.l.length by omega]
  have HYI := hid (QS.out.ok y hym).id64
  have LV := hid (leave_is QS.out hym)
  have LG := hid (leave_get QS.out y.id)
  have XM := hid (tl_isM QS.out hym)
  have JB := hid (join_back QS.out (by omega) hym)
  have XI : Hid ((tl s.base y).id = y.id) := hid rfl
  generalize tl s.base y = x at hxy LV XM JB XI
  have hL60 : (toldQ s).length ≤ 60 := by omega
  have TQ := hid (show toldQ s = s.l.map (tl s.base) from rfl)
  clear hy hym hlen
  generalize toldQ s = L at L4 h0 hpos hidx hidx' hlt hxy hL60 TQ ⊢
  obtain ⟨ab, ao, hA⟩ := L4.out.row.there (by omega)
  subst hA
  have a0 := L4.out.row.cell (Kp.refl No w4) hlt (i := 0) (by omega) rfl
  have a1 := L4.out.row.cell (Kp.refl No w4) hlt (i := 1) (by omega) rfl
  have a2 := L4.out.row.cell (Kp.refl No w4) hlt (i := 2) (by omega) rfl
  have a3 := L4.out.row.cell (Kp.refl No w4) hlt (i := 3) (by omega) rfl
  rw [hxy] at a0 a1 a2 a3
  simp only [mc, Nat.add_zero] at a0 a1 a2 a3
  rw [← Nat.add_assoc] at a1 a2 a3
  have hli0 : ¬ (L.length : Int) = 0 := by omega
  have hlt' : (idx : Int) < (L.length : Int) := by omega
  have hi0 : ¬ (idx : Int) < 0 := by omega
  have hwx : IntKind.i64.wrap which = which := wrapI (by unfold I64; omega)
  have hwi : IntKind.i64.wrap (idx : Int) = (idx : Int) := wrapI (by unfold I64; omega)
  clear hxy
  have hid2 := XI.out
  rw [← hid2] at LV LG JB HYI
  clear XI hid2
  go_wp2_with fail
  clear a0 a1 a2 a3 hidx hidx' hwx hwi hli0 hlt' hi0
  have b5 := Blk.new w4 67 #[.int .i64 x.id, .int .i64 x.w, .int .i64 x.v, .int .i64 x.r]
  have k5 := (Kp.refl No w4).alloc (.cells #[.int .i64 x.id, .int .i64 x.w, .int .i64 x.v, .int .i64 x.r] 67)
  generalize w4.alloc (.cells #[.int .i64 x.id, .int .i64 x.w, .int .i64 x.v, .int .i64 x.r] 67) = w5 at b5 k5 ⊢
  have H5 := hid (H4.out.more k5)
  have L5 := hid (((L4.out.kp0 k5).wide (N' := fun i => (No i ∨ (w3.heap.size ≤ i ∧ i < w4.heap.size)) ∨ (w4.heap.size ≤ i ∧ i < w5.heap.size)) fun i hi => .inl hi).add b5 (.inr ⟨Nat.le_refl _, b5.lt⟩))
  clear b5 k5 L4 H4
  refine H5.out.step (fun _ q => leave_all q HYI.out) ?_
  intro w6 h6 k6
  rw [LV.out.1, LV.out.2]
  have L6 := hid (L5.out.step k6)
  have H6 := hid h6
  clear h6 k6 L5 H5
  generalize leaveS s x.id = s1 at H6 LG JB
  obtain ⟨d0, d1, d2, d3⟩ := L6.out.cells (q := w4.heap.size) (m := x) (by simp)
  have dl := (L6.out.blk (w4.heap.size, x) (by simp)).1.lt
  go_wp2_with fail
  have b7 := Blk.new w6 67 #[.int .i64 x.id, .int .i64 x.w, .int .i64 x.v, .int .i64 x.r]
  have k7 := (Kp.refl No w6).alloc (.cells #[.int .i64 x.id, .int .i64 x.w, .int .i64 x.v, .int .i64 x.r] 67)
  generalize w6.alloc (.cells #[.int .i64 x.id, .int .i64 x.w, .int .i64 x.v, .int .i64 x.r] 67) = w7 at b7 k7 ⊢
  have H7 := hid (H6.out.more k7)
  have L7 := hid (((L6.out.kp0 k7).wide (N' := fun i => ((No i ∨ (w3.heap.size ≤ i ∧ i < w4.heap.size)) ∨ (w4.heap.size ≤ i ∧ i < w5.heap.size)) ∨ (w6.heap.size ≤ i ∧ i < w7.heap.size)) fun i hi => .inl hi).add b7 (.inr ⟨Nat.le_refl _, b7.lt⟩))
  clear b7 k7 L6 H6 d0 d1 d2 d3 dl
  refine (H7.out.fst.get HYI.out).mono ?_
  rintro e w8 ⟨rfl, k8⟩
  rw [LG.out.1, LG.out.2]
  have H8 := hid (H7.out.kp0 k8)
  have L8 := hid (L7.out.kp0 k8)
  clear k8 H7 L7
  obtain ⟨d0, d1, d2, d3⟩ := L8.out.cells (q := w4.heap.size) (m := x) (by simp)
  have dl := (L8.out.blk (w4.heap.size, x) (by simp)).1.lt
  go_wp2_with fail
  have k9 := (Kp.refl No w8).alloc (.cells #[.int .i64 mb0.id, .int .i64 mb0.w, .int .i64 mb0.v, .int .i64 mb0.r] 67)
  generalize w8.alloc (.cells #[.int .i64 mb0.id, .int .i64 mb0.w, .int .i64 mb0.v, .int .i64 mb0.r] 67) = w9 at k9 ⊢
  have H9 := hid (H8.out.kp0 k9)
  have L9 := hid (L8.out.kp0 k9)
  clear k9 H8 L8 d0 d1 d2 d3 dl
  refine (H9.out.snd.get HYI.out).mono ?_
  rintro e w10 ⟨rfl, k10⟩
  have H10 := hid (H9.out.kp0 k10)
  have L10 := hid (L9.out.kp0 k10)
  clear k10 H9 L9
  have CASES : Hid ((getB t x.id = true ∧ joinE t x = 9) ∨ (getB t x.id = false ∧ joinE t x = 6) ∨ (getB t x.id = false ∧ joinE t x = 0 ∧ getB (joinS t x) x.id = true ∧ x = getM (joinS t x) x.id)) := hid (by
    cases hb : getB t x.id with
    | true => exact .inl ⟨rfl, join_there XM.out hb⟩
    | false =>
      rcases join_not XM.out (by omega) hb with h | h
      · exact .inr (.inr ⟨rfl, h, (join_get QT.out h).1, (join_get QT.out h).2.symm⟩)
      · exact .inr (.inl ⟨rfl, h⟩))
  generalize getM t x.id = gm
  generalize getB t x.id = d at CASES ⊢
  obtain ⟨d0, d1, d2, d3⟩ := L10.out.cells (q := w6.heap.size) (m := x) (by simp)
  have dl := (L10.out.blk (w6.heap.size, x) (by simp)).1.lt
  go_wp2_with fail
  have k11 := (Kp.refl No w10).alloc (.cells #[.int .i64 gm.id, .int .i64 gm.w, .int .i64 gm.v, .int .i64 gm.r] 67)
  generalize w10.alloc (.cells #[.int .i64 gm.id, .int .i64 gm.w, .int .i64 gm.v, .int .i64 gm.r] 67) = w11 at k11 ⊢
  have H11 := hid (H10.out.kp0 k11)
  have L11 := hid (L10.out.kp0 k11)
  clear k11 H10 L10 d0 d1 d2 d3 dl
  refine H11.out.swap.step (fun _ q => join_any q x HYI.out) ?_
  intro w12 h12 k12
  have H12 := hid h12.swap
  have L12 := hid (L11.out.step k12)
  clear h12 k12 H11 L11
  generalize joinE t x = f at CASES ⊢
  generalize joinS t x = t1 at CASES H12
  obtain ⟨d0, d1, d2, d3⟩ := L12.out.cells (q := w4.heap.size) (m := x) (by simp)
  have dl := (L12.out.blk (w4.heap.size, x) (by simp)).1.lt
  go_wp2_with fail
  clear d0 d1 d2 d3 dl
  refine (H12.out.snd.get HYI.out).mono ?_
  rintro e w13 ⟨rfl, k13⟩
  have H13 := hid (H12.out.kp0 k13)
  have L13 := hid (L12.out.kp0 k13)
  clear k13 H12 L12
  generalize getM t1 x.id = gn at CASES ⊢
  generalize getB t1 x.id = is1 at CASES ⊢
  obtain ⟨d0, d1, d2, d3⟩ := L13.out.cells (q := w4.heap.size) (m := x) (by simp)
  have dl := (L13.out.blk (w4.heap.size, x) (by simp)).1.lt
  obtain ⟨e0, e1, e2, e3⟩ := L13.out.cells (q := w6.heap.size) (m := x) (by simp)
  have el := (L13.out.blk (w6.heap.size, x) (by simp)).1.lt
  have k14 := (Kp.refl No w13).alloc (.cells #[.int .i64 gn.id, .int .i64 gn.w, .int .i64 gn.v, .int .i64 gn.r] 67)
  have H14 := hid (H13.out.kp0 k14)
  have L14 := hid (L13.out.kp0 k14)
  clear k14 H13 L13
  rcases CASES.out with ⟨rfl, rfl⟩ | ⟨rfl, rfl⟩ | ⟨rfl, rfl, rfl, rfl⟩
  all_goals
    clear CASES
    go_wp2_with fail
    refine H14.out.step (fun _ q => join_any q x HYI.out) ?_
    intro w15 h15 k15
    rw [JB.out.1]
    rw [JB.out.2] at h15
    have H15 := hid h15
    have L15 := hid (L14.out.step k15)
    clear h15 k15 H14 L14 d0 d1 d2 d3 dl e0 e1 e2 e3 el
    go_wp2_with fail
    refine H15.out.fst.all.mono ?_
    rintro e w16 ⟨u16, rfl, k16, o16⟩
    have L16 := hid (L15.out.kp0 k16)
    have O16 := hid (show Rw 4 mc mb0 w16 Anyb u16 L by rw [TQ.out]; exact o16.rw)
    have K16 := hid ((K1.out.trans H15.out.kept).trans k16)
    clear k16 o16
    go_wp2_with fail
    refine (sameq_any O16.out L16.out.row.any (by omega)).mono ?_
    rintro e w17 ⟨rfl, k17⟩
    go_wp2_with fail
    go_ret
    exact ⟨by first | rfl | simp, K16.out.trans k17⟩
end Go.Proofs.Ytlkbjfjjfifbmaa
