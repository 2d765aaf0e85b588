/-
  The walk of SlotsBack.
-/
import Derived.Test.YteficflfmbecbaaDoorSlV
namespace Go.Proofs.YteficflfmbecbaaDoor
open Go.RowKit

theorem isThat_eq {r : Nat × Bool × List Int} {x : Int} (h : x = (r.1 : Int)) : isThat r x r.2.1 r.2.2 = true := by rw [h]; exact isThat_self r
set_option maxHeartbeats 4000000 in
set_option maxRecDepth 100000 in
theorem slotsBack_walk (w : World) (v : Value) (ht : Tab w) {os : List Dop} (ho : Ops w Anyb v os) :
    Calls Tryd.prog 4 #[v] w fun e w' => e = .returned (.bool true) ∧ Kp No w w' := by
  have HT := hid ht
  have HO := hid ho.below
  obtain ⟨V, vc, rfl, hvc, hvm, _⟩ := ho.rw
  unfold maxLen at hvm
  obtain ⟨n, hn⟩ : ∃ n, os.length = n := ⟨_, rfl⟩
  have HN := hid hn
  rw [hn] at hvc HO ⊢
  clear ht ho hn
  go_enter Tryd.func4, Tryd.ntmps4
  go_upto_region 3 with (first
    | (go_at_call 8
       refine (awake_any w HT.out).mono ?_
       rintro e w1 ⟨rfl, k1⟩
       have K1 := hid k1
       have HO1 := hid (HO.out.kp k1 fun _ _ h => h)
       clear k1)
    | (go_at_call 9
       refine (few_any HO1.out).mono ?_
       rintro e w2 ⟨q0, rfl, rfl, hq0⟩
       have HQ0 := hid hq0
       clear hq0))
  cases q0 with
  | false =>
    go_wp2
    go_ret
    exact ⟨rfl, K1.out⟩
  | true =>
  have hn20 : n ≤ 20 := by have := (HQ0.out rfl).1; rw [HN.out] at this; exact this
  have HF := hid (show ∀ k, k < n → (os.getD k dop0).bl.length ≤ 400 from fun k hk => by
    have : k < os.length := by rw [HN.out]; exact hk
    rw [show os.getD k dop0 = os[k] by simp [List.getD, this]]
    exact ((HQ0.out rfl).2 _ (List.getElem_mem this)).1)
  go_wp2_with (first
    | (go_at_call 19
       refine (newd_any 40 _).mono ?_
       rintro e w3 ⟨g, b, m, rfl, D3, k3, hg, hb, hm⟩
       have HD3 := hid (show Dk w3 g b m (dsN 40) from D3)
       have K3 := hid (K1.out.trans k3)
       have hlo : w.heap.size ≤ g ∧ w.heap.size ≤ b ∧ w.heap.size ≤ m := by have := K1.out.size; omega
       clear D3 k3 hg hb hm)
    | (go_at_call 18
       refine (open_is HD3.out (HT.out.kp0 K3.out) rfl (by simp [dsN])).mono ?_
       rintro e w4 ⟨q, rfl, hq4, s4, k4⟩
       have W4 := hid (wd_new (n := 40) (HD3.out.kp0 k4) (by simpa [dsN] using s4) (by omega) (by omega))
       have K4 := hid (K3.out.trans k4)
       have hlq : w.heap.size ≤ q := by have := K3.out.size; omega
       clear s4 k4 hq4)
    | (go_at_call 11
       refine (age_any (show Str _ q g b m 19 0 false [] from W4.out.st)).mono ?_
       rintro e w5 ⟨rfl, rfl⟩))
  go_loopw [8, 9, 10, 11] (fun av hv iv i wr => ∃ (k : Nat) (r : Nat × Bool × List Int), k ≤ n ∧ r.1 ≤ k ∧ i = .int .i64 (k : Int) ∧ av = .int .i64 (r.1 : Int) ∧ hv = .bool r.2.1 ∧ Hid (∃ s r', Wd wr q g b m 40 19 s r r') ∧ Hid (Byt wr (fun i => i < w.heap.size) iv r.2.2) ∧ Hid (Kp No w wr)) (fun _ _ _ i _ => n - (intOf i).toNat)
  case atStart => exact ⟨0, (0, false, []), Nat.zero_le _, Nat.le_refl _, rfl, rfl, rfl, hid ⟨_, _, W4.out⟩, hid (Byt.nil _ _), K4⟩
  case round =>
    obtain ⟨k, ⟨ra, rh, ri⟩, hk, hrk, rfl, rfl, rfl, HW, HB, KP⟩ := hrel
    simp only at hrk HB ⊢
    by_cases hkn : k < n
    · have HOw := HO.out.kp KP.out fun _ _ h => h
      obtain ⟨b0, o0, rfl, ok, hcell⟩ := HOw.at' (k := k) (by rw [HN.out]; exact hkn)
      have hb4 := HF.out k hkn
      have hc0 := fun (w' : World) (kk : Kp No w w') => (HO.out.kp kk fun _ _ h => h).cell03 (k := k) (by rw [HN.out]; exact hkn)
      generalize os.getD k dop0 = x at ok hcell hb4 hc0
      have c0 := hcell 0 (by omega)
      have c3 := hcell 3 (by omega)
      simp only [dc, Nat.add_zero] at c0 c3
      obtain ⟨xd, xi, xn, xb, xbl, xk, xkl⟩ := x
      simp only at c0 c3 hb4 hc0
      have HC0 := hid hc0
      have OK := hid ok.b
      have hsum := wrapI (x := (k : Int) + 1) (by unfold I64; omega)
      have hsua := wrapI (x := (ra : Int) + 1) (by unfold I64; omega)
      obtain ⟨s, r', hW⟩ := HW.out
      have HWd := hid hW
      clear hcell ok HO HN HOw HF hW hc0
      by_cases h1 : xd = 1
      · subst h1
        have HAg := hid (show (ra : Int) + 1 = (((ra + 1, true, xbl) : Nat × Bool × List Int).1 : Int) by simp)
        go_wp2_with (first
          | (go_at_call 15
             refine (commit_any HWd.out.dk HWd.out.st (HT.out.kp0 KP.out) HWd.out.two OK.out (by simp only; omega) (HT.out.ne hlo.1 hlo.2.1 hlo.2.2)).mono ?_
             intro e w3 hc
             obtain ⟨rfl, k3, s3, W3⟩ := HWd.out.com (by simp only; omega) (by simp only; omega) hc
             have WN := hid W3
             have KN := hid (show Kp No w w3 from KP.out.step k3 fun i hi e => by rcases e with e | e | e | e <;> omega)
             have BN := hid (show Byt w3 (fun i => i < w.heap.size) xb xbl from OK.out.kp k3 fun i hi e => by rcases e with e | e | e | e <;> omega)
             clear hc k3 W3 c0 c3
             obtain ⟨c0, c3⟩ := HC0.out _ KN.out)
          | (go_at_call 18
             refine (open_is WN.out.dk (HT.out.kp0 KN.out) WN.out.off (by rw [WN.out.kl]; omega)).mono ?_
             rintro e w5 ⟨q5, rfl, hq5, s5, k5⟩
             rw [WN.out.kl] at s5
             have S5 := hid ((WN.out.kp0 k5).other s5).st
             have W5 := hid (WN.out.kp0 k5)
             have B5 := hid (BN.out.kp k5 fun _ _ h => h)
             have K5 := hid (KN.out.trans k5)
             clear s5 k5)
          | (go_at_call 16
             refine (lsame_any W5.out.st B5.out _ _).mono ?_
             rintro e w6 ⟨rfl, k6⟩
             rw [isThat_eq (r := (ra + 1, true, xbl)) HAg.out]
             have W6 := hid (W5.out.kp0 k6)
             have S6 := hid (Sto.kp0 S5.out k6)
             have B6 := hid (B5.out.kp k6 fun _ _ h => h)
             have K6 := hid (K5.out.trans k6)
             clear k6 S5 W5)
          | (go_at_call 16
             refine (lsame_any S6.out B6.out _ _).mono ?_
             rintro e w7 ⟨rfl, k7⟩
             rw [isThat_eq (r := (ra + 1, true, xbl)) HAg.out]
             have W7 := hid (W6.out.kp0 k7)
             have B7 := hid (B6.out.kp k7 fun _ _ h => h)
             have K7 := hid (K6.out.trans k7)
             clear k7))
        go_roundw
        case rel => exact ⟨k + 1, (ra + 1, true, xbl), by omega, by simp only; omega, by go_num, by go_num, rfl, hid ⟨_, _, W7.out⟩, B7, K7⟩
        case measure => simp [intOf]; omega
      · have n1 : (xd == 1) = false := by simp [h1]
        by_cases h2 : xd = 2
        · subst h2
          cases rh with
          | true =>
            have HAg := hid (show (ra : Int) + 1 = (((ra + 1, false, []) : Nat × Bool × List Int).1 : Int) by simp)
            go_wp2_with (first
              | (go_at_call 14
                 refine (delete_any HWd.out.dk HWd.out.st (HT.out.kp0 KP.out) (by have := HWd.out.two; omega)).mono ?_
                 intro e w3 hc
                 obtain ⟨rfl, k3, s3, W3⟩ := HWd.out.del rfl (by simp only; omega) hc
                 have WN := hid W3
                 have KN := hid (show Kp No w w3 from KP.out.step k3 fun i hi e => by rcases e with e | e | e | e <;> omega)
                 have BN := hid (Byt.nil w3 (fun i => i < w.heap.size))
                 clear hc k3 W3 c0 c3)
              | (go_at_call 18
                 refine (open_is WN.out.dk (HT.out.kp0 KN.out) WN.out.off (by rw [WN.out.kl]; omega)).mono ?_
                 rintro e w5 ⟨q5, rfl, hq5, s5, k5⟩
                 rw [WN.out.kl] at s5
                 have S5 := hid ((WN.out.kp0 k5).other s5).st
                 have W5 := hid (WN.out.kp0 k5)
                 have B5 := hid (BN.out.kp k5 fun _ _ h => h)
                 have K5 := hid (KN.out.trans k5)
                 clear s5 k5)
              | (go_at_call 16
                 refine (lsame_any W5.out.st B5.out _ _).mono ?_
                 rintro e w6 ⟨rfl, k6⟩
                 rw [isThat_eq (r := (ra + 1, false, [])) HAg.out]
                 have W6 := hid (W5.out.kp0 k6)
                 have S6 := hid (Sto.kp0 S5.out k6)
                 have B6 := hid (B5.out.kp k6 fun _ _ h => h)
                 have K6 := hid (K5.out.trans k6)
                 clear k6 S5 W5)
              | (go_at_call 16
                 refine (lsame_any S6.out B6.out _ _).mono ?_
                 rintro e w7 ⟨rfl, k7⟩
                 rw [isThat_eq (r := (ra + 1, false, [])) HAg.out]
                 have W7 := hid (W6.out.kp0 k7)
                 have B7 := hid (B6.out.kp k7 fun _ _ h => h)
                 have K7 := hid (K6.out.trans k7)
                 clear k7))
            go_roundw
            case rel => exact ⟨k + 1, (ra + 1, false, []), by omega, by simp only; omega, by go_num, by go_num, rfl, hid ⟨_, _, W7.out⟩, B7, K7⟩
            case measure => simp [intOf]; omega
          | false =>
            have hri : ri = [] := (show Str _ _ _ _ _ _ _ _ _ from HWd.out.st).no rfl
            subst hri
            go_wp2_with (first
              | (go_at_call 14
                 refine (delete_any HWd.out.dk HWd.out.st (HT.out.kp0 KP.out) (by have := HWd.out.two; omega)).mono ?_
                 intro e w3 hc
                 obtain ⟨rfl, k3, W3⟩ := HWd.out.none rfl hc
                 have WN := hid W3
                 have KN := hid (show Kp No w w3 from KP.out.step k3 fun i hi e => by rcases e with e | e | e | e <;> omega)
                 have BN := hid (Byt.nil w3 (fun i => i < w.heap.size))
                 clear hc k3 W3 c0 c3)
              | (go_at_call 18
                 refine (open_is WN.out.dk (HT.out.kp0 KN.out) WN.out.off (by rw [WN.out.kl]; omega)).mono ?_
                 rintro e w5 ⟨q5, rfl, hq5, s5, k5⟩
                 rw [WN.out.kl] at s5
                 have S5 := hid ((WN.out.kp0 k5).other s5).st
                 have W5 := hid (WN.out.kp0 k5)
                 have B5 := hid (BN.out.kp k5 fun _ _ h => h)
                 have K5 := hid (KN.out.trans k5)
                 clear s5 k5)
              | (go_at_call 16
                 refine (lsame_any W5.out.st B5.out _ _).mono ?_
                 rintro e w6 ⟨rfl, k6⟩
                 rw [isThat_eq (r := (ra, false, [])) (x := (ra : Int)) rfl]
                 have W6 := hid (W5.out.kp0 k6)
                 have S6 := hid (Sto.kp0 S5.out k6)
                 have B6 := hid (B5.out.kp k6 fun _ _ h => h)
                 have K6 := hid (K5.out.trans k6)
                 clear k6 S5 W5)
              | (go_at_call 16
                 refine (lsame_any S6.out B6.out _ _).mono ?_
                 rintro e w7 ⟨rfl, k7⟩
                 rw [isThat_eq (r := (ra, false, [])) (x := (ra : Int)) rfl]
                 have W7 := hid (W6.out.kp0 k7)
                 have B7 := hid (B6.out.kp k7 fun _ _ h => h)
                 have K7 := hid (K6.out.trans k7)
                 clear k7))
            go_roundw
            case rel => exact ⟨k + 1, (ra, false, []), by omega, by simp only; omega, by go_num, by go_num, rfl, hid ⟨_, _, W7.out⟩, B7, K7⟩
            case measure => simp [intOf]; omega
        · have n2 : (xd == 2) = false := by simp [h2]
          have WN := HWd
          have KN := KP
          have BN := HB
          clear h1 h2
          go_wp2_with (first
            | (go_at_call 18
               refine (open_is WN.out.dk (HT.out.kp0 KN.out) WN.out.off (by rw [WN.out.kl]; omega)).mono ?_
               rintro e w5 ⟨q5, rfl, hq5, s5, k5⟩
               rw [WN.out.kl] at s5
               have S5 := hid ((WN.out.kp0 k5).other s5).st
               have W5 := hid (WN.out.kp0 k5)
               have B5 := hid (BN.out.kp k5 fun _ _ h => h)
               have K5 := hid (KN.out.trans k5)
               clear s5 k5)
            | (go_at_call 16
               refine (lsame_any W5.out.st B5.out _ _).mono ?_
               rintro e w6 ⟨rfl, k6⟩
               rw [isThat_eq (r := (ra, rh, ri)) (x := (ra : Int)) rfl]
               have W6 := hid (W5.out.kp0 k6)
               have S6 := hid (Sto.kp0 S5.out k6)
               have B6 := hid (B5.out.kp k6 fun _ _ h => h)
               have K6 := hid (K5.out.trans k6)
               clear k6 S5 W5)
            | (go_at_call 16
               refine (lsame_any S6.out B6.out _ _).mono ?_
               rintro e w7 ⟨rfl, k7⟩
               rw [isThat_eq (r := (ra, rh, ri)) (x := (ra : Int)) rfl]
               have W7 := hid (W6.out.kp0 k7)
               have B7 := hid (B6.out.kp k7 fun _ _ h => h)
               have K7 := hid (K6.out.trans k7)
               clear k7))
          go_roundw
          case rel => exact ⟨k + 1, (ra, rh, ri), by omega, by simp only; omega, by go_num, by go_num, rfl, hid ⟨_, _, W7.out⟩, B7, K7⟩
          case measure => simp [intOf]; omega
    · go_wp2
      go_ret
      exact ⟨rfl, KP.out⟩
end Go.Proofs.YteficflfmbecbaaDoor
