/-
  The walk of ShelfSplits.
-/
import Derived.Test.YtllamoiehmdgfaaSOpen
namespace Go.Proofs.Ytllamoiehmdgfaa
open Go.RowKit

/-- Of a sorted list those with a lesser rank are less, all others are not. -/
theorem rnk_le (l : List It) (x : It) : rnk l x ≤ l.length := List.countP_le_length
theorem rnk_split {l : List It} (h : Sorted l) (x : It) {k : Nat} (hk : k < l.length) : ltB (l.getD k it0) x = decide (k < rnk l x) := by
  induction l generalizing k with
  | nil => simp at hk
  | cons a l ih =>
    unfold Sorted at h
    rw [List.pairwise_cons] at h
    cases ha : ltB a x with
    | true =>
      have hr : rnk (a :: l) x = rnk l x + 1 := by simp [rnk, ha]
      rw [hr]
      cases k with
      | zero => simp [List.getD, ha]
      | succ k =>
        have := ih h.2 (k := k) (by simpa using hk)
        simp only [List.getD, List.getElem?_cons_succ] at this ⊢
        rw [this]
        simp
    | false =>
      have h0 : ∀ y ∈ l, ltB y x = false := fun y hy => by
        cases hy2 : ltB y x with
        | false => rfl
        | true => rw [ltB_trans (h.1 y hy) hy2] at ha; cases ha
      have hr : rnk (a :: l) x = 0 := by
        unfold rnk
        rw [List.countP_eq_zero]
        intro y hy
        rcases List.mem_cons.1 hy with rfl | hy
        · simp [ha]
        · simp [h0 y hy]
      rw [hr]
      simp only [Nat.not_lt_zero, decide_false]
      cases k with
      | zero => simpa [List.getD] using ha
      | succ k =>
        have hk' : k < l.length := by simpa using hk
        have : (a :: l).getD (k + 1) it0 = l[k] := by simp [List.getD, hk']
        rw [this]
        exact h0 _ (List.getElem_mem hk')

set_option maxRecDepth 100000 in
set_option maxHeartbeats 1000000 in
theorem shelfSplits_walk (w : World) (v : Value) (kx ix : Int) {ops : List Op} (hv : Rw 3 oc op0 w Anyb v ops) (_ : I64 kx) (_ : I64 ix) :
    Calls Try.prog 9 #[v, .agg #[.int .i64 kx, .int .i64 ix]] w fun e w' => e = .returned (.bool true) ∧ Kp No w w' := by
  have HV := hid hv
  obtain ⟨A, vc, rfl, hc, hm, hr⟩ := hv
  clear hr
  simp only [maxLen] at hm
  obtain ⟨x, hx⟩ : ∃ x : It, x = ⟨kx, ix⟩ := ⟨_, rfl⟩
  obtain rfl : x.key = kx := by rw [hx]
  obtain rfl : x.id = ix := by rw [hx]
  clear hx
  go_enter Try.func9, Try.ntmps9
  go_wp2_with fail
  have bx := Blk.new w 24 #[.int .i64 x.key, .int .i64 x.id]
  have k0 := (Kp.refl No w).alloc (.cells #[.int .i64 x.key, .int .i64 x.id] 24)
  generalize w.alloc (.cells #[.int .i64 x.key, .int .i64 x.id] 24) = w0 at bx k0 ⊢
  refine (awake_any w0).mono ?_
  rintro e w1 ⟨rfl, k1⟩
  have B1 := hid (bx.kp0 k1)
  have K1 := hid (k0.trans k1)
  have V1 := hid (HV.out.kp0 K1.out)
  clear bx k0 k1 HV
  by_cases hbig : 100 < ops.length
  · go_wp2_with fail
    go_ret
    exact ⟨rfl, K1.out⟩
  · have hl : ops.length ≤ 100 := by omega
    go_wp2_with fail
    refine (walked_any V1.out hl).mono ?_
    rintro e w2 ⟨rfl, k2, h2⟩
    have hpl := play_len ops
    have HS := hid h2.sorted
    generalize play ops = l at h2 hpl HS
    have H2 := hid h2
    have B2 := hid (B1.out.kp0 k2)
    have K2 := hid (K1.out.trans k2)
    clear h2 k2
    have cx0 := B2.out.cell 0
    have cx1 := B2.out.cell 1
    simp at cx0 cx1
    go_wp2_with fail
    refine (Rank_any H2.out x).mono ?_
    rintro e w3 ⟨rfl, k3⟩
    have hrl := rnk_le l x
    have HR := hid (fun k (hk : k < l.length) => rnk_split HS.out x hk)
    generalize rnk l x = r at hrl HR
    have H3 := hid (H2.out.kp0 k3)
    have B3 := hid (B2.out.kp0 k3)
    have K3 := hid (K2.out.trans k3)
    clear k3 cx0 cx1
    have hr0 : decide ((r : Int) < 0) = false := by simp
    have hr1 : decide (l.length < r) = false := by simp; omega
    go_wp2_with fail
    refine (Len_any H3.out).mono ?_
    rintro e w4 ⟨rfl, rfl⟩
    go_wp2_with fail
    go_loopw [8, 9] (fun i _ wr => ∃ k : Nat, k ≤ l.length ∧ i = .int .i64 (k : Int) ∧ Hid (Kp No w3 wr)) (fun i _ _ => l.length - (intOf i).toNat)
    case atStart => exact ⟨0, by omega, rfl, hid (Kp.refl No w3)⟩
    case round =>
      obtain ⟨k, hk, rfl, K⟩ := hrel
      have H5 := hid (H3.out.kp0 K.out)
      have B5 := hid (B3.out.kp0 K.out)
      by_cases hlt : k < l.length
      · have HY := hid (HR.out k hlt)
        go_wp2_with fail
        refine (Len_any H5.out).mono ?_
        rintro e w4 ⟨rfl, rfl⟩
        go_wp2_with fail
        refine (at_in H5.out k hlt).mono ?_
        rintro e w6 ⟨rfl, k6⟩
        generalize l.getD k it0 = y at HY
        have B6 := hid (B5.out.kp0 k6)
        have K6 := hid (K.out.trans k6)
        clear k6
        have cx0 := B6.out.cell 0
        have cx1 := B6.out.cell 1
        have hxl := B6.out.lt
        simp at cx0 cx1
        by_cases hkr : k < r
        all_goals
          go_wp2_with fail
          refine (refless_any y x _).mono ?_
          rintro e w7 ⟨rfl, k7⟩
          have K7 := hid ((K6.out.alloc (.cells #[.int .i64 y.key, .int .i64 y.id] 24)).trans k7)
          rw [HY.out]
          clear k7
          go_wp2_with fail
          go_roundw
          case rel => first | exact ⟨k + 1, by omega, by go_num, K7⟩ | ((repeat apply Exists.intro); exact ⟨⟨k + 1, by omega, by go_num, K7⟩, rfl⟩)
          case measure => simp [intOf]; omega
      · go_wp2_with fail
        refine (Len_any H5.out).mono ?_
        rintro e w4 ⟨rfl, rfl⟩
        go_wp2_with fail
        go_ret
        exact ⟨rfl, K3.out.trans K.out⟩
end Go.Proofs.Ytllamoiehmdgfaa
