/-
  The walk of LeStays.
-/
import Derived.Test.YtbcekjnemigkkaaLeAwake
import Derived.Test.YtbcekjnemigkkaaArgs
namespace Go.Proofs.Ytbcekjnemigkkaa
open Go.RowKit

set_option maxHeartbeats 1000000 in
theorem leStays_walk (w : World) (v : Value) (m : Int) (u : Value) {xs ls : List Int} (hv : Byt w Anyb v xs) (hm : -9223372036854775808 ≤ m ∧ m ≤ 9223372036854775807)
    (hu : Sl (Value.int .i64) 0 w Anyb u ls ∧ ∀ z ∈ ls, (Lit.int .i64 z).wf = true) :
    Calls Try.prog 8 #[v, .int .i64 m, u] w fun e w' => e = .returned (.bool true) ∧ Kp No w w' := by
  have hv' := hv.below
  have HV := hid hv'
  have HU := hid hu.1
  obtain ⟨hu1, _⟩ := hu
  obtain ⟨A, c, rfl, hc, hmx, _, _⟩ := hv
  obtain ⟨A', c', rfl, hc', hmx', _⟩ := hu1
  clear hv'
  unfold maxLen at hmx hmx'
  go_enter Try.func8, Try.ntmps8
  go_wp2_with fail
  refine (awake_any _).mono ?_
  rintro e w1 ⟨rfl, k1⟩
  have K1 := hid k1
  clear k1
  by_cases hbig : 200 < xs.length
  · have hb1 : (200 : Int) < (xs.length : Int) := by omega
    go_wp2
    go_ret
    exact ⟨rfl, K1.out⟩
  · have hb1 : ¬ (200 : Int) < (xs.length : Int) := by omega
    by_cases hbig2 : 50 < ls.length
    · have hb2 : (50 : Int) < (ls.length : Int) := by omega
      go_wp2
      go_ret
      exact ⟨rfl, K1.out⟩
    · have hb2 : ¬ (50 : Int) < (ls.length : Int) := by omega
      go_wp2_with fail
      refine (new_any _ xs _ (HV.out.kp0 K1.out) (by omega)).mono ?_
      rintro e w2 ⟨g, rfl, hg, r2, k2⟩
      have R2 := hid r2
      have hg0 : w.heap.size ≤ g := Nat.le_trans K1.out.size hg
      have K2 := hid (K1.out.trans k2)
      clear r2 k2 K1 hg
      go_wp2_with fail
      refine (part_any g xs 0 m _ R2.out (by omega)).mono ?_
      rintro e w3 ⟨p, rfl, o3, r3, k3⟩
      have K3 := hid (K2.out.step k3 fun i hi h => by have : i = g := h; omega)
      have R3 := hid r3
      have O3 := hid (o3.byt (P := Anyb) fun _ _ => trivial)
      have V3 := hid (HV.out.kp0 K3.out)
      by_cases hin : 0 ≤ m ∧ m ≤ xs.length
      · have p1 : nxP xs 0 m = xs.take m.toNat := by rw [nxP, if_pos ⟨rfl, hin⟩]
        have p2 : nxR xs 0 m = xs.drop m.toNat := by rw [nxR, if_pos ⟨rfl, hin⟩]
        have p3 : nxE xs 0 m = 0 := by rw [nxE, if_pos rfl, if_neg (by omega), if_neg (by omega)]
        rw [p1] at O3 o3
        rw [p2, p3] at R3
        obtain ⟨A3, c3, rfl⟩ := o3.formN (n := m.toNat) (by simp; omega)
        obtain ⟨h1, h2⟩ := hin
        clear o3 r3 k3 K2 R2 p1 p2 p3
        go_wp2_with fail
        refine (same_any _ _ _ _ _ O3.out (V3.out.take m.toNat (by omega))).mono ?_
        rintro e w4 ⟨rfl, q, rfl⟩
        rw [decide_eq_true rfl]
        have K4 := hid (K3.out.drewN q)
        have R4 := hid (R3.out.kp ((Kp.refl No w3).drewN q) fun _ _ h => h)
        clear O3 V3 K3 R3
        go_wp2_with fail
        refine (fail_any g _ _ _ R4.out).mono ?_
        rintro e w5 ⟨rfl, rfl⟩
        go_wp2_with fail
        refine (left_any g _ _ _ R4.out).mono ?_
        rintro e w5 ⟨rfl, rfl⟩
        have hl : ((xs.drop m.toNat).length : Int) = (xs.length : Int) - m := by simp; omega
        rw [hl]
        clear hl
        go_wp2_with fail
        go_ret
        exact ⟨by first | rfl | simp, K4.out⟩
      · have p1 : nxP xs 0 m = [] := by rw [nxP, if_neg (fun h => hin h.2)]
        have p2 : nxR xs 0 m = xs := by rw [nxR, if_neg (fun h => hin h.2)]
        rw [p1] at O3 o3
        rw [p2] at R3
        obtain ⟨A3, c3, rfl⟩ := o3.formN (n := 0) rfl
        obtain ⟨ee, hee⟩ : ∃ ee, nxE xs 0 m = ee := ⟨_, rfl⟩
        rw [hee] at R3
        have he : (m < 0 ∧ ee = 1) ∨ (0 ≤ m ∧ ee = 2) := by
          rw [← hee, nxE, if_pos rfl]
          rcases (show m < 0 ∨ 0 ≤ m from by omega) with h | h
          · exact .inl ⟨h, by rw [if_pos h]⟩
          · exact .inr ⟨h, by rw [if_neg (by omega), if_pos (by omega)]⟩
        clear hee p1 p2 r3 k3 K2 R2 o3 O3 V3
        rcases he with ⟨hm0, rfl⟩ | ⟨hm0, rfl⟩
        · have hd : decide (0 ≤ m) = false := by simp; omega
          go_wp2_with (first
            | (go_at_call 22; refine (fail_any g _ _ _ R3.out).mono ?_; rintro e w5 ⟨rfl, rfl⟩))
          go_loopw [11] (fun i wr => ∃ k : Nat, k ≤ ls.length ∧ i = .int .i64 k ∧ Hid (Rd wr g xs 1 ∧ Kp No w wr)) (fun i _ => ls.length - (intOf i).toNat)
          case atStart => exact ⟨0, Nat.zero_le _, rfl, ⟨R3.out, K3.out⟩⟩
          case round =>
            obtain ⟨k, hk, rfl, HH⟩ := hrel
            by_cases hlt : k < ls.length
            · have hlt' : (k : Int) < (ls.length : Int) := by omega
              obtain ⟨A9, c9, he9, _, _, hr9⟩ := HU.out.kp HH.out.2 fun _ _ _ h => h
              injection he9 with e1 _ e3
              subst e1 e3
              obtain ⟨b9, o9, rfl, _, _, hcell⟩ := hr9 (by omega)
              have c1 := hcell k hlt
              obtain ⟨z, hz⟩ : ∃ z, ls.getD k 0 = z := ⟨_, rfl⟩
              rw [hz] at c1
              have HZ := hid hz
              clear hz hcell hr9
              go_wp2_with fail
              refine (take_any g xs 1 z _ HH.out.1).mono ?_
              rintro e w5 ⟨rfl, r5, k5⟩
              rw [show nxP xs 1 (hw z) = [] from by simp [nxP]]
              rw [show nxR xs 1 (hw z) = xs from by simp [nxR], show nxE xs 1 (hw z) = 1 from by simp [nxE]] at r5
              have K5 := hid (HH.out.2.step k5 fun i hi h => by have : i = g := h; omega)
              have R5 := hid r5
              have c2 : w5.cell? ⟨b9, o9 + k, none⟩ = some (.int .i64 z) := by
                obtain ⟨A8, c8, he8, _, _, hr8⟩ := HU.out.kp K5.out fun _ _ _ h => h
                injection he8 with e1 _ e3
                subst e1 e3
                obtain ⟨b8, o8, e8, _, _, hc8⟩ := hr8 (by omega)
                cases e8
                rw [hc8 k hlt, HZ.out]
              clear r5 k5
              rw [show num [] = 0 from rfl]
              go_wp2_with fail
              refine (part_any g xs 1 z _ R5.out (by omega)).mono ?_
              rintro e w6 ⟨p6, rfl, o6, r6, k6⟩
              rw [show nxP xs 1 z = [] from by simp [nxP]] at o6
              rw [show nxR xs 1 z = xs from by simp [nxR], show nxE xs 1 z = 1 from by simp [nxE]] at r6
              obtain ⟨A6, c6, rfl⟩ := o6.formN (n := 0) rfl
              have K6 := hid (K5.out.step k6 fun i hi h => by have : i = g := h; omega)
              have R6 := hid r6
              clear o6 r6 k6
              go_wp2_with fail
              go_roundw
              case rel => exact ⟨k + 1, by omega, by go_num, ⟨R6.out, K6.out⟩⟩
              case measure => simp [intOf]; omega
            · go_wp2_with fail
              refine (left_any g _ _ _ HH.out.1).mono ?_
              rintro e w5 ⟨rfl, rfl⟩
              go_wp2_with fail
              refine (fail_any g _ _ _ HH.out.1).mono ?_
              rintro e w5 ⟨rfl, rfl⟩
              go_wp2_with fail
              refine (end_any g _ _ _ HH.out.1).mono ?_
              rintro e w5 ⟨rfl, rfl⟩
              rw [show enE xs.length 1 = 1 from by simp [enE]]
              go_wp2_with fail
              go_ret
              exact ⟨by first | rfl | (simp; done) | (simp; omega), HH.out.2⟩
        · have hd : decide (m ≤ (xs.length : Int)) = false := by simp; omega
          go_wp2_with (first
            | (go_at_call 22; refine (fail_any g _ _ _ R3.out).mono ?_; rintro e w5 ⟨rfl, rfl⟩))
          go_loopw [11] (fun i wr => ∃ k : Nat, k ≤ ls.length ∧ i = .int .i64 k ∧ Hid (Rd wr g xs 2 ∧ Kp No w wr)) (fun i _ => ls.length - (intOf i).toNat)
          case atStart => exact ⟨0, Nat.zero_le _, rfl, ⟨R3.out, K3.out⟩⟩
          case round =>
            obtain ⟨k, hk, rfl, HH⟩ := hrel
            by_cases hlt : k < ls.length
            · have hlt' : (k : Int) < (ls.length : Int) := by omega
              obtain ⟨A9, c9, he9, _, _, hr9⟩ := HU.out.kp HH.out.2 fun _ _ _ h => h
              injection he9 with e1 _ e3
              subst e1 e3
              obtain ⟨b9, o9, rfl, _, _, hcell⟩ := hr9 (by omega)
              have c1 := hcell k hlt
              obtain ⟨z, hz⟩ : ∃ z, ls.getD k 0 = z := ⟨_, rfl⟩
              rw [hz] at c1
              have HZ := hid hz
              clear hz hcell hr9
              go_wp2_with fail
              refine (take_any g xs 2 z _ HH.out.1).mono ?_
              rintro e w5 ⟨rfl, r5, k5⟩
              rw [show nxP xs 2 (hw z) = [] from by simp [nxP]]
              rw [show nxR xs 2 (hw z) = xs from by simp [nxR], show nxE xs 2 (hw z) = 2 from by simp [nxE]] at r5
              have K5 := hid (HH.out.2.step k5 fun i hi h => by have : i = g := h; omega)
              have R5 := hid r5
              have c2 : w5.cell? ⟨b9, o9 + k, none⟩ = some (.int .i64 z) := by
                obtain ⟨A8, c8, he8, _, _, hr8⟩ := HU.out.kp K5.out fun _ _ _ h => h
                injection he8 with e1 _ e3
                subst e1 e3
                obtain ⟨b8, o8, e8, _, _, hc8⟩ := hr8 (by omega)
                cases e8
                rw [hc8 k hlt, HZ.out]
              clear r5 k5
              rw [show num [] = 0 from rfl]
              go_wp2_with fail
              refine (part_any g xs 2 z _ R5.out (by omega)).mono ?_
              rintro e w6 ⟨p6, rfl, o6, r6, k6⟩
              rw [show nxP xs 2 z = [] from by simp [nxP]] at o6
              rw [show nxR xs 2 z = xs from by simp [nxR], show nxE xs 2 z = 2 from by simp [nxE]] at r6
              obtain ⟨A6, c6, rfl⟩ := o6.formN (n := 0) rfl
              have K6 := hid (K5.out.step k6 fun i hi h => by have : i = g := h; omega)
              have R6 := hid r6
              clear o6 r6 k6
              go_wp2_with fail
              go_roundw
              case rel => exact ⟨k + 1, by omega, by go_num, ⟨R6.out, K6.out⟩⟩
              case measure => simp [intOf]; omega
            · go_wp2_with fail
              refine (left_any g _ _ _ HH.out.1).mono ?_
              rintro e w5 ⟨rfl, rfl⟩
              go_wp2_with fail
              refine (fail_any g _ _ _ HH.out.1).mono ?_
              rintro e w5 ⟨rfl, rfl⟩
              go_wp2_with fail
              refine (end_any g _ _ _ HH.out.1).mono ?_
              rintro e w5 ⟨rfl, rfl⟩
              rw [show enE xs.length 2 = 2 from by simp [enE]]
              go_wp2_with fail
              go_ret
              exact ⟨by first | rfl | (simp; done) | (simp; omega), HH.out.2⟩
end Go.Proofs.Ytbcekjnemigkkaa
