/-
  The walk of QueueMean.
-/
import Derived.Test.YtlkbjfjjfifbmaaQMeanB
namespace Go.Proofs.Ytlkbjfjjfifbmaa
open Go.RowKit

theorem wq_between {b lo hi : Int} {l : List Mb} (h : ∀ x ∈ l, lo ≤ x.v - b ∧ x.v - b ≤ hi ∧ 1 ≤ x.w) : lo * Wq l ≤ Pq b l ∧ Pq b l ≤ hi * Wq l := by
  induction l with
  | nil => simp [Wq, Pq]
  | cons m l ih =>
    have h1 := ih fun x hx => h x (List.mem_cons_of_mem _ hx)
    obtain ⟨h2, h3, h4⟩ := h m (by simp)
    have h5 := Int.mul_le_mul_of_nonneg_left h2 (show 0 ≤ m.w by omega)
    have h6 := Int.mul_le_mul_of_nonneg_left h3 (show 0 ≤ m.w by omega)
    simp only [Wq, Pq, Int.mul_add]
    rw [Int.mul_comm lo m.w, Int.mul_comm hi m.w]
    omega
theorem mean_between {s : Qs} (h : QOk s) {p : Nat} (hp : s.l.length = p + 1) (hn : (s.l.getD p mb0).v - s.base ≤ 1048576) {m : Int} (hm : mean s.base (Wq s.l) (Pq s.base s.l) = m) :
    (s.l.getD 0 mb0).v ≤ m ∧ m ≤ (s.l.getD p mb0).v := by
  have hb : ∀ x ∈ s.l, (s.l.getD 0 mb0).v - s.base ≤ x.v - s.base ∧ x.v - s.base ≤ (s.l.getD p mb0).v - s.base ∧ 1 ≤ x.w := fun x hx => by
    have o := h.ok x hx
    have h1 := last_le h.srt hp hx
    have h2 := head_le h.srt s.base hx
    have e : head s.base s.l = (s.l.getD 0 mb0).v := by
      cases hs : s.l with
      | nil => rw [hs] at hp; simp at hp
      | cons a l => simp [head]
    rw [e] at h2
    exact ⟨by omega, by omega, o.w1⟩
  have h1 := wq_between hb
  have hw := near_bd (b := s.base) (l := s.l) fun x hx => by
    have o := h.ok x hx
    have h1 := last_le h.srt hp hx
    have := o.v1
    exact ⟨o.w1, o.w2, by omega, by omega⟩
  have hw0 : 0 < Wq s.l := by omega
  rw [← hm]
  unfold mean
  rw [if_neg (by omega)]
  have h2 := Int.le_ediv_of_mul_le hw0 h1.1
  have h3 : Pq s.base s.l / Wq s.l < (s.l.getD p mb0).v - s.base + 1 := Int.ediv_lt_of_lt_mul hw0 (by rw [Int.add_mul]; omega)
  omega

set_option maxRecDepth 100000 in
set_option maxHeartbeats 4000000 in
theorem queueMean_walk (w : World) (v : Value) {ops : List Qo} (hv : Rw 6 qc qo0 w Anyb v ops) (hi : ∀ o ∈ ops, I6 o) :
    Calls Try.prog 14 #[v] w fun e w' => e = .returned (.bool true) ∧ Kp No w w' := by
  have HV := hid hv
  obtain ⟨A, ac, rfl, hac, ham, har⟩ := hv
  clear har
  simp only [maxLen] at ham
  have HI := hid hi
  clear hi
  go_enter Try.func14, Try.ntmps14
  go_wp2_with fail
  refine (awakeq_any w).mono ?_
  rintro e w1 ⟨rfl, k1⟩
  have K1 := hid k1
  have V1 := hid (HV.out.kp0 k1)
  clear k1 HV
  by_cases hbig : 60 < ops.length
  · go_wp2_with fail
    go_ret
    exact ⟨rfl, K1.out⟩
  have hl : ops.length ≤ 60 := by omega
  go_wp2_with fail
  refine (walkedq_any V1.out HI.out hl).mono ?_
  rintro e w2 ⟨g, mb, sg, rfl, h2⟩
  have H2 := hid h2
  clear h2
  generalize playQ ops = s at H2
  go_wp2_with fail
  refine H2.out.all.mono ?_
  rintro e w4 ⟨u4, rfl, k4, o4⟩
  have H4 := hid (H2.out.kp0 k4)
  by_cases hnil : s.l = []
  · have HLEN := H4.out.ok.len
    obtain ⟨A4, c4, rfl⟩ := o4.formN (m := 0) (by simp [hnil])
    go_wp2_with fail
    obtain ⟨T, q4, _⟩ := H4.out.ex
    refine (mean_none q4 hnil).mono ?_
    rintro e w5 ⟨rfl, k5⟩
    have K5 := hid (H4.out.kept.trans k5)
    clear k4 o4 k5 q4
    go_wp2_with fail
    go_ret
    exact ⟨rfl, K1.out.trans K5.out⟩
  obtain ⟨p, hp⟩ : ∃ p, s.l.length = p + 1 := ⟨s.l.length - 1, by
    have : s.l.length ≠ 0 := fun e => hnil (List.eq_nil_of_length_eq_zero e)
    omega⟩
  obtain ⟨A4, c4, rfl⟩ := o4.formN (m := p + 1) (by simp [hp])
  have L4 := hid (show Rw 4 mc mb0 w4 Anyb (.slice A4 (p + 1) c4) (toldQ s) from o4.rw)
  have hple := H4.out.ok.len
  have HL : (toldQ s).length = p + 1 := by rw [toldQ_len, hp]
  clear k4 o4
  go_wp2_with fail
  have hz0 : ¬ (p : Int) + 1 = 0 := by omega
  have hz1 : (((p : Int) + 1) == 0) = false := by rw [beq_eq_false_iff_ne]; omega
  by_cases hfar : 1048576 < (s.l.getD p mb0).v - s.base
  · obtain ⟨T, q4, _⟩ := H4.out.ex
    refine (mean_far q4 hp rfl hfar).mono ?_
    rintro e w5 ⟨rfl, k5⟩
    have K5 := hid (H4.out.kept.trans k5)
    clear k5 q4
    go_wp2_with fail
    go_ret
    exact ⟨rfl, K1.out.trans K5.out⟩
  obtain ⟨m, hm⟩ : ∃ m, mean s.base (Wq s.l) (Pq s.base s.l) = m := ⟨_, rfl⟩
  obtain ⟨m1, m2⟩ := mean_between H4.out.ok hp (by omega) hm
  have HM : Hid (∃ T, Qu w4 g mb sg T s) := hid (by obtain ⟨T, q4, _⟩ := H4.out.ex; exact ⟨T, q4⟩)
  obtain ⟨T, q4⟩ := HM.out
  refine (mean_ok q4 hp rfl (by omega) hm).mono ?_
  rintro e w5 ⟨rfl, k5⟩
  have H5 := hid (H4.out.kp0 k5)
  obtain ⟨lb, lo, hA⟩ := L4.out.there (by omega)
  subst hA
  have a0 := L4.out.cell k5 (j := 0) (by omega) (i := 2) (by omega) rfl
  have a1 := L4.out.cell k5 (j := p) (by omega) (i := 2) (by omega) rfl
  have e0 : (toldQ s).getD 0 mb0 = tl s.base (s.l.getD 0 mb0) := by simp [toldQ, List.getD, show 0 < s.l.length by omega]
  have e1 : (toldQ s).getD p mb0 = tl s.base (s.l.getD p mb0) := by simp [toldQ, List.getD, show p < s.l.length by omega]
  rw [e0] at a0
  rw [e1] at a1
  have o0 := H5.out.ok.ok _ (getD_mem (l := s.l) (k := 0) (by omega))
  have o1 := H5.out.ok.ok _ (getD_mem (l := s.l) (k := p) (by omega))
  have b1 := H5.out.ok.b1
  have v01 := o0.v1
  have v02 := o0.v2
  have v11 := o1.v1
  have v12 := o1.v2
  generalize s.l.getD 0 mb0 = y at a0 m1 v01 v02 e0 o0
  generalize s.l.getD p mb0 = z at a1 m2 v11 v12 e1 o1 hfar
  simp only [mc, tl, Nat.zero_mul, Nat.zero_add] at a0 a1
  rw [← Nat.add_assoc] at a1
  obtain ⟨Y, hY⟩ : ∃ Y, y.v - s.base = Y := ⟨_, rfl⟩
  obtain ⟨Z, hZ⟩ : ∃ Z, z.v - s.base = Z := ⟨_, rfl⟩
  rw [hY] at a0
  rw [hZ] at a1
  have f1 : IntKind.i64.wrap (s.base + Y) = y.v := by rw [show s.base + Y = y.v by omega]; exact wrapI (by unfold I64; omega)
  have f2 : IntKind.i64.wrap (s.base + Z) = z.v := by rw [show s.base + Z = z.v by omega]; exact wrapI (by unfold I64; omega)
  have f3 : IntKind.i64.wrap ((p : Int) + 1 - 1) = (p : Int) := by rw [Int.add_sub_cancel]; exact wrapI (by unfold I64; omega)
  have hpl : (p : Int) < (p : Int) + 1 := by omega
  have hp0 : ¬ (p : Int) < 0 := by omega
  have hp1 : (0 : Int) < (p : Int) + 1 := by omega
  have g1 : decide (y.v ≤ m) = true := by simp; omega
  have g2 : decide (m ≤ z.v) = true := by simp; omega
  have g3 : decide (s.base ≤ y.v) = true := by simp; omega
  clear hY hZ hm q4 k5 H4 e0 e1 o0 o1
  go_wp2_with fail
  go_quiet ((go_at_call 43; exact Calls.quiet_of_same (H5.out.kp0 ((Kp.refl No _).drewN _)).base))
  go_wp2_with fail
  have H6 := hid (H5.out.kp0 ((Kp.refl No w5).drewN nq))
  have a2 := ((Kp.refl No w5).drewN nq).cell (p := ⟨lb, lo + p * 4 + 2, none⟩) (World.block_lt_of_cell? w5 _ a1) (fun h => h)
  rw [a1] at a2
  clear H5 a0 a1
  generalize w5.drewN nq = w6 at H6 a2 ⊢
  go_quiet ((go_at_call 43; exact Calls.quiet_of_same (H6.out.kp0 ((Kp.refl No _).drewN _)).base))
  go_wp2_with fail
  refine (H6.out.kp0 ((Kp.refl No _).drewN _)).base.mono ?_
  rintro e w7 ⟨rfl, rfl⟩
  go_wp2_with fail
  go_ret
  exact ⟨rfl, (K1.out.trans H6.out.kept).drewN _⟩
end Go.Proofs.Ytlkbjfjjfifbmaa
