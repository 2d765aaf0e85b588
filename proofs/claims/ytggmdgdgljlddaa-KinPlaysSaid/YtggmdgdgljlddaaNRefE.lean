/-
  Contract of the document's Tall.
-/
import Derived.Test.YtggmdgdgljlddaaNRefD
namespace Go.Proofs.Ytggmdgdgljlddaa
open Go.RowKit

section
variable {T : Tre} {D : Int → Nat} {x : Int}
theorem tall_kid (W : WT T D) {q : Int × List Int} (h : T x = some q) {y : Int} (hy : y ∈ kidsT T x) : 0 ≤ tall T y ∧ 1 + tall T y ≤ tall T x := by
  have hu := under_cons W h
  have hy2 := hy
  rw [kids_some h] at hy2
  obtain ⟨ks, hk, _, hd⟩ := W.kid_up h hy2
  obtain ⟨h1, _, _, z, hz, ht⟩ := tall_is W hk
  obtain ⟨_, _, h3, _⟩ := tall_is W h
  have hm : z ∈ under T x := by
    rw [hu]
    exact List.mem_cons_of_mem _ (List.mem_flatMap.2 ⟨y, hy, hz⟩)
  have := h3 z hm
  exact ⟨h1, by omega⟩
theorem tall_all (W : WT T D) {q : Int × List Int} (h : T x = some q) {t : Int} (h0 : 0 ≤ t) (hle : t ≤ tall T x) (ha : ∀ y ∈ kidsT T x, 1 + tall T y ≤ t) : tall T x = t := by
  have hu := under_cons W h
  obtain ⟨_, _, _, z, hz, ht⟩ := tall_is W h
  rw [hu] at hz
  rcases List.mem_cons.1 hz with rfl | hz
  · omega
  · obtain ⟨y, hy, hz⟩ := List.mem_flatMap.1 hz
    have h1 := ha y hy
    rw [kids_some h] at hy
    obtain ⟨ks, hk, _, hd⟩ := W.kid_up h hy
    obtain ⟨_, _, h3, _⟩ := tall_is W hk
    have := h3 z hz
    omega
end
section
variable {T : Tre} {D : Int → Nat} {w w' : World} {S P : Nat → Prop} {r : Nat} {v : Value} {L : List (Int × Int)} {x : Int}
set_option maxHeartbeats 2000000 in
set_option maxRecDepth 100000 in
theorem rtall_rec (hl : LT L T) (W : WT T D) : ∀ (n : Nat) (x : Int) (w : World), I64 x → 17 ≤ D x + n ∨ T x = none → RT w P r v L → Calls Try.prog 18 #[.pointer (some ⟨r, 0, none⟩), .int .i64 x] w fun e w' => e = .returned (.int .i64 (tall T x)) ∧ Kp No w w' := by
  have none_case : ∀ (x : Int) (w : World), T x = none → RT w P r v L → Calls Try.prog 18 #[.pointer (some ⟨r, 0, none⟩), .int .i64 x] w fun e w' => e = .returned (.int .i64 (tall T x)) ∧ Kp No w w' := by
    intro x w hT h
    have HW := hid W
    have HL := hid hl
    have HR := hid h
    rw [tall_none hT]
    clear W hl h
    go_enter Try.func18, Try.ntmps18
    go_wp2_with (first
      | (go_at_call 14
         refine (rhas_any HR.out HL.out HW.out x).mono ?_
         rintro e w2 ⟨rfl, rfl⟩
         rw [hT]
         simp only [Option.isSome_none]))
    go_ret
    exact ⟨rfl, Kp.refl _ _⟩
  intro n
  induction n with
  | zero =>
    intro x w hx hd h
    cases hT : T x with
    | some q =>
      have := W.d16 hT
      rcases hd with hd | hd
      · omega
      · rw [hT] at hd
        cases hd
    | none => exact none_case x w hT h
  | succ n ih =>
    intro x w hx hd h
    cases hT : T x with
    | none => exact none_case x w hT h
    | some q =>
      have HW := hid W
      have HL := hid hl
      have HR := hid h
      have HIH := hid ih
      have hd2 : 17 ≤ D x + (n + 1) := hd.resolve_right fun e => by rw [hT] at e; cases e
      have HK := hid (fun y (hy : y ∈ kidsT T x) => show I64 y ∧ (17 ≤ D y + n ∨ T y = none) by
        have h1 := kid_pos W hy
        rw [kids_some hT] at hy
        obtain ⟨ks, hk, _, hdy⟩ := W.kid_up hT hy
        exact ⟨by unfold I64; omega, .inl (by omega)⟩)
      have HTK := hid (fun y (hy : y ∈ kidsT T x) => tall_kid W hT hy)
      have HTA := hid (fun t h0 h1 h2 => tall_all (t := t) W hT h0 h1 h2)
      obtain ⟨ht0, ht1, _, _⟩ := tall_is W hT
      have hkl := kids_len W x
      obtain ⟨tt, htt⟩ : ∃ tt, tall T x = tt := ⟨_, rfl⟩
      rw [htt] at HTK HTA ht0 ht1 ⊢
      obtain ⟨ks, hks⟩ : ∃ ks, kidsT T x = ks := ⟨_, rfl⟩
      rw [hks] at hkl HK HTK HTA
      have HKS := hid hks
      obtain ⟨nk, hnk⟩ : ∃ nk, ks.length = nk := ⟨_, rfl⟩
      have HNK := hid hnk
      rw [hnk] at hkl
      have HTT := hid (And.intro ht0 ht1)
      clear W hl h ih hks hnk hd hd2 htt none_case
      go_enter Try.func18, Try.ntmps18
      go_wp2_with (first
        | (go_at_call 14
           refine (rhas_any HR.out HL.out HW.out x).mono ?_
           rintro e w2 ⟨rfl, rfl⟩
           rw [hT]
           simp only [Option.isSome_some])
        | (go_at_call 20
           refine (rkids_any HR.out HL.out HW.out x).mono ?_
           rintro e w3 ⟨v3, rfl, o3, k3⟩
           rw [HKS.out] at o3
           obtain ⟨A3, c3, rfl⟩ := o3.formN HNK.out
           have O3 := hid o3
           have K3 := hid k3
           clear o3 k3))
      go_loopw [5, 7] (fun u i wr => ∃ (k : Nat) (t : Int), k ≤ nk ∧ i = .int .i64 (k : Int) ∧ u = .int .i64 t ∧ Hid (0 ≤ t ∧ t ≤ tt ∧ ∀ y ∈ ks.take k, 1 + tall T y ≤ t) ∧ Hid (Kp No w3 wr)) (fun _ i _ => nk - (intOf i).toNat)
      case atStart => exact ⟨0, 0, Nat.zero_le _, rfl, rfl, hid ⟨Int.le_refl _, HTT.out.1, fun y hy => by simp at hy⟩, hid (Kp.refl _ _)⟩
      case round =>
        obtain ⟨k, t, hk, rfl, rfl, HI, KW⟩ := hrel
        by_cases hkn : k < nk
        · have hkl2 : k < ks.length := by rw [HNK.out]; exact hkn
          have g1 : (k : Int) < (nk : Int) := by omega
          have hwk := wrapI (x := (k : Int) + 1) (by unfold I64; omega)
          have HKR := hid (O3.out.kp0 KW.out)
          obtain ⟨b, c', he, hb1, hb2, hc1, _⟩ := HKR.out.form2 (by omega)
          injection he with e1 e2 e3
          subst e1 e3
          clear e2
          have cy := HKR.out.cellAt (d := (0 : Int)) (j := k) (i := 0) hkl2 (by omega)
          simp only [zf, Nat.mul_one, Nat.add_zero] at cy
          have HS := hid (take_s ks hkl2 0)
          have HYM := hid (show ks.getD k 0 ∈ ks by simp [List.getD, hkl2])
          obtain ⟨y, hy⟩ : ∃ y, ks.getD k 0 = y := ⟨_, rfl⟩
          rw [hy] at cy HS HYM
          obtain ⟨hyi, hyd⟩ := HK.out y HYM.out
          obtain ⟨y0, y1⟩ := HTK.out y HYM.out
          obtain ⟨ty, hty⟩ : ∃ ty, tall T y = ty := ⟨_, rfl⟩
          rw [hty] at y0 y1
          have HTY := hid hty
          obtain ⟨t2, ht2⟩ : ∃ t2, max t (1 + ty) = t2 := ⟨_, rfl⟩
          have hw2 := wrapI (x := 1 + ty) (by unfold I64; omega)
          have HI2 := hid (show 0 ≤ t2 ∧ t2 ≤ tt ∧ ∀ y ∈ ks.take (k + 1), 1 + tall T y ≤ t2 by
            obtain ⟨i1, i2, i3⟩ := HI.out
            refine ⟨by omega, by omega, fun z hz => ?_⟩
            rw [HS.out] at hz
            rcases List.mem_append.1 hz with hz | hz
            · have := i3 z hz
              omega
            · rw [List.mem_singleton.1 hz, HTY.out]
              omega)
          clear hy hty
          go_wp2_with (first
            | (go_at_call 18
               refine (HIH.out y wr hyi hyd (HR.out.kp0 (K3.out.trans KW.out))).mono ?_
               rintro e w4 ⟨rfl, k4⟩
               rw [HTY.out]
               have K4 := hid (KW.out.trans k4)
               clear k4))
          go_roundw
          case rel => exact ⟨k + 1, t2, by omega, by go_num, rfl, HI2, K4⟩
          case measure => simp [intOf]; omega
        · have hkk : k = nk := by omega
          subst hkk
          have hng : ¬ (k : Int) < (k : Int) := by omega
          have HFIN := hid (show tt = t by
            obtain ⟨i1, i2, i3⟩ := HI.out
            rw [List.take_of_length_le (by rw [HNK.out]; omega)] at i3
            exact HTA.out t i1 i2 i3)
          go_wp2_with fail
          go_ret
          refine ⟨?_, K3.out.trans KW.out⟩
          rw [HFIN.out]
          rfl
end
end Go.Proofs.Ytggmdgdgljlddaa
