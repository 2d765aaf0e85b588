/-
  Contract of the document's Same at whole numbers.
-/
import Derived.Test.YtomoiihckbdjdaaGreatZDg
namespace Go.Proofs.YtomoiihckbdjdaaGreat
open Go.RowKit Go.Shelf

set_option maxRecDepth 100000 in
set_option maxHeartbeats 2000000 in
theorem rsameI_any {w : World} {P Q : Nat → Prop} {v u : Value} {xs ys : List Int} (h : Rw 1 zI 0 w P v xs) (h' : Rw 1 zI 0 w Q u ys) (hl : xs.length ≤ 1000000) :
    Calls Tryz.prog 10 #[v, u] w fun e w' => e = .returned (.bool (decide (xs = ys))) ∧ Kp No w w' := by
  have HR := hid h
  have HR' := hid h'
  obtain ⟨A, c, rfl, _⟩ := h
  obtain ⟨A', c', rfl, _⟩ := h'
  obtain ⟨n, hn⟩ : ∃ n, xs.length = n := ⟨_, rfl⟩
  obtain ⟨n', hn'⟩ : ∃ n', ys.length = n' := ⟨_, rfl⟩
  rw [hn] at hl HR ⊢
  rw [hn'] at HR' ⊢
  obtain ⟨r, hr⟩ : ∃ r, decide (xs = ys) = r := ⟨_, rfl⟩
  rw [hr]
  have HRR := hid hr
  have HN := hid hn
  have HN' := hid hn'
  clear hr hn hn'
  by_cases e1 : n = n'
  rotate_left
  · have e2 : ((n : Int) != (n' : Int)) = true := by rw [bne_iff_ne]; omega
    have HF := hid (show r = false by
      rw [← HRR.out, decide_eq_false_iff_not]
      intro e
      exact e1 (by rw [← HN.out, ← HN'.out, e]))
    clear e1
    go_enter Tryz.func10, Tryz.ntmps10
    go_wp2_with fail
    go_ret
    exact ⟨by rw [HF.out]; try rfl, Kp.refl _ _⟩
  subst e1
  have e2 : ((n : Int) != (n : Int)) = false := by simp
  go_enter Tryz.func10, Tryz.ntmps10
  go_wp2_with fail
  clear e2
  go_loopw [5] (fun i wr => ∃ k : Nat, k ≤ n ∧ i = .int .i64 (k : Int) ∧ Hid (xs.take k = ys.take k) ∧ Hid (Kp No w wr)) (fun i _ => n - (vI i).toNat)
  case atStart => exact ⟨0, Nat.zero_le _, rfl, hid (by simp), hid (Kp.refl _ _)⟩
  case round =>
    obtain ⟨k, hk, rfl, HE, KW⟩ := hrel
    by_cases hkn : k < n
    · have hg1 : (k : Int) < (n : Int) := by omega
      have hkl : k < xs.length := by rw [HN.out]; exact hkn
      have hkl' : k < ys.length := by rw [HN'.out]; exact hkn
      have hwk := wrapI (x := (k : Int) + 1) (by unfold I64; omega)
      obtain ⟨b, o, rfl⟩ := HR.out.there (by omega)
      obtain ⟨b', o', rfl⟩ := HR'.out.there (by omega)
      have q0 := (HR.out.kp0 KW.out).cell (j := k) (i := 0) (Kp.refl No _) hkl (by omega) rfl
      have q1 := (HR'.out.kp0 KW.out).cell (j := k) (i := 0) (Kp.refl No _) hkl' (by omega) rfl
      simp only [zI, Nat.mul_one, Nat.add_zero] at q0 q1
      have HX := hid (take_eq (0 : Int) HE.out hkl hkl')
      obtain ⟨x, hx⟩ : ∃ x, xs.getD k 0 = x := ⟨_, rfl⟩
      obtain ⟨y, hy⟩ : ∃ y, ys.getD k 0 = y := ⟨_, rfl⟩
      have HXY := hid (fun (e : xs = ys) => show x = y by rw [← hx, ← hy, e])
      rw [hx, hy] at HX
      rw [hx] at q0
      rw [hy] at q1
      clear hx hy
      by_cases e : x = y
      · have d : (x != y) = false := by simp [e]
        have HE2 := hid (HX.out e)
        clear e
        go_upto_region 6 with fail
        go_quiet (fail)
        go_wp2_with fail
        go_roundw
        case rel => exact ⟨k + 1, by omega, by go_num, HE2, hid (KW.out.drewN _)⟩
        case measure => simp [vI]; omega
      · have d : (x != y) = true := by simp [e]
        have HF := hid (show r = false by
          rw [← HRR.out, decide_eq_false_iff_not]
          exact fun hh => e (HXY.out hh))
        clear e
        go_upto_region 6 with fail
        go_quiet (fail)
        go_wp2_with fail
        go_ret
        exact ⟨by rw [HF.out]; try rfl, KW.out.drewN _⟩
    · have hkk : k = n := by omega
      subst hkk
      have hng : ¬ (k : Int) < (k : Int) := by omega
      have he := HE.out
      rw [List.take_of_length_le (by rw [HN.out]; omega), List.take_of_length_le (by rw [HN'.out]; omega)] at he
      have HF := hid (show r = true by rw [← HRR.out, decide_eq_true_eq]; exact he)
      clear he
      go_wp2_with fail
      go_ret
      exact ⟨by rw [HF.out]; try rfl, KW.out⟩
end Go.Proofs.YtomoiihckbdjdaaGreat
