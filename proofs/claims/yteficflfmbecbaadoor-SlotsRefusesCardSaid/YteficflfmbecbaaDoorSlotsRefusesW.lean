/-
  The walk of SlotsRefuses.
-/
import Derived.Test.YteficflfmbecbaaDoorSlV
import Derived.Test.YteficflfmbecbaaDoorStore
namespace Go.Proofs.YteficflfmbecbaaDoor
open Go.RowKit

theorem waits_nil {s : Ds} (h : ∀ j : Nat, s.c (j : Int) = none) : waits s = [] := by
  unfold waits waitsN
  simp [h]
theorem fill_next (x : Int) {k N : Nat} (hk : k < N) : (List.replicate k x ++ List.replicate (N - k) 0).set k x = List.replicate (k + 1) x ++ List.replicate (N - (k + 1)) 0 := by
  rw [List.set_append, if_neg (by simp), List.length_replicate, Nat.sub_self, show N - k = (N - (k + 1)) + 1 by omega, List.replicate_succ, List.set_cons_zero, List.replicate_succ', List.append_assoc]
  rfl
set_option maxHeartbeats 4000000 in
set_option maxRecDepth 100000 in
theorem slotsRefuses_walk (w : World) (sec mo x : Int) (ht : Tab w) (hsec : 0 ≤ sec ∧ sec ≤ 255) (hmo : 0 ≤ mo ∧ mo ≤ 255) (hx : 0 ≤ x ∧ x ≤ 255) :
    Calls Tryd.prog 6 #[.int .u8 sec, .int .u8 mo, .int .u8 x] w fun e w' => e = .returned (.bool true) ∧ Kp No w w' := by
  have HT := hid ht
  obtain ⟨i, rfl⟩ : ∃ i : Nat, sec = (i : Int) := ⟨sec.toNat, by omega⟩
  obtain ⟨j, rfl⟩ : ∃ j : Nat, mo = (j : Int) := ⟨mo.toNat, by omega⟩
  obtain ⟨n, hn⟩ : ∃ n, i % 41 = n := ⟨_, rfl⟩
  have hmod : (i : Int).tmod 41 = (n : Int) := by rw [Int.tmod_eq_emod_of_nonneg (by omega)]; omega
  have hn41 : n < 41 := by omega
  have hwi := wrapI (x := (n : Int)) (by unfold I64; omega)
  have hwj := wrapI (x := (j : Int)) (by unfold I64; omega)
  have HDs := hid (show (dsN (dhold (n : Int) 512).toNat) = dsN n by
    congr 1
    unfold dhold
    omega)
  clear ht hn
  go_enter Tryd.func6, Tryd.ntmps6
  go_upto_region 6 with (first
    | (go_at_call 8
       refine (awake_any w HT.out).mono ?_
       rintro e w1 ⟨rfl, k1⟩
       have K1 := hid k1
       clear k1)
    | (go_at_call 19
       refine (newd_any (n : Int) w1).mono ?_
       rintro e w2 ⟨g, b, m, rfl, D2, k2, hg, hb, hm⟩
       rw [HDs.out] at D2
       have HD2 := hid D2
       have K2 := hid (K1.out.trans k2)
       have hlo : w.heap.size ≤ g ∧ w.heap.size ≤ b ∧ w.heap.size ≤ m := by have := K1.out.size; omega
       clear D2 k2 hg hb hm))
  by_cases h4 : n < 4
  · have g4 : (n : Int) < 4 := by omega
    go_wp2_with (first
      | (go_at_call 18
         refine (open_no HD2.out (by simpa [dsN] using h4)).mono ?_
         rintro e w3 ⟨rfl, rfl⟩))
    go_ret
    exact ⟨rfl, K2.out⟩
  have g4 : ¬ (n : Int) < 4 := by omega
  obtain ⟨h, hh⟩ : ∃ h, (n - 2) / 2 = h := ⟨_, rfl⟩
  have HH := hid hh
  have hh19 : h ≤ 19 := by omega
  have hw1 := wrapI (x := (n : Int) - 2) (by unfold I64; omega)
  have hq : ((n : Int) - 2).tdiv 2 = (h : Int) := by rw [Int.tdiv_eq_ediv_of_nonneg (by omega)]; omega
  have hw2 := wrapI (x := (h : Int)) (by unfold I64; omega)
  have hw3 := wrapI (x := (h : Int) * 64) (by unfold I64; omega)
  have hne : (((64 * h : Nat) : Int) != (h : Int) * 64) = false := by rw [bne_eq_false_iff_eq]; omega
  obtain ⟨N, hN⟩ : ∃ N, 64 * h + j = N := ⟨_, rfl⟩
  have hN2 : ((64 * h : Nat) : Int) + (j : Int) = (N : Int) := by omega
  have hwN := wrapI (x := (N : Int)) (by unfold I64; omega)
  have HNn := hid hN
  clear hh
  go_upto_region 11 with (first
    | (go_at_call 18
       refine (open_is HD2.out (HT.out.kp0 K2.out) rfl (by simp [dsN]; omega)).mono ?_
       rintro e w3 ⟨q, rfl, hq3, s3, k3⟩
       have W3' := wd_new (n := n) (HD2.out.kp0 k3) (by simpa [dsN] using s3) (by omega) (by omega)
       rw [HH.out] at W3'
       have W3 := hid W3'
       have K3 := hid (K2.out.trans k3)
       have hlq : w.heap.size ≤ q := by have := K2.out.size; omega
       clear s3 k3 W3' hq3)
    | (go_at_call 21
       refine (room_any (show Str _ q g b m h 0 false [] from W3.out.st)).mono ?_
       rintro e w4 ⟨rfl, rfl⟩
       obtain ⟨R, hR⟩ : ∃ R, 64 * h = R := ⟨_, rfl⟩
       rw [hR] at hne hN2 ⊢
       have HR := hid hR
       clear hR))
  have hjm : 0 < j ∨ j = 0 := by omega
  have hN1500 : N ≤ 1500 := by omega
  go_wp2_with (first
    | (go_at_call 21
       refine (room_any (show Str _ q g b m h 0 false [] from W3.out.st)).mono ?_
       rintro e w5 ⟨rfl, rfl⟩
       rw [HR.out])
    | (at_make
       refine wp_made isU8 rfl (.tmp 58) (.tmp 58) rfl (n := N) (m := N) rfl rfl rfl rfl (Nat.le_refl _) (by omega) ?_
       intro w6 o6 k6 z6
       have O6 := hid o6
       have K6 := hid k6
       have HZ6 := hid z6
       clear o6 k6 z6))
  go_loopw [13] (fun p wr => ∃ k : Nat, k ≤ N ∧ p = .int .i64 (k : Int) ∧ Hid (Own wr w5.heap.size 5 (.slice (some ⟨w5.heap.size, 0, none⟩) N N) (List.replicate k x ++ List.replicate (N - k) 0)) ∧ Hid (Kp No w5 wr)) (fun p _ => N - (intOf p).toNat)
  case atStart => exact ⟨0, Nat.zero_le _, rfl, hid (by simpa using O6.out), K6⟩
  case round =>
    obtain ⟨k, hk, rfl, OW, KW⟩ := hrel
    by_cases hkN : k < N
    · have gk : (k : Int) < (N : Int) := by omega
      obtain ⟨g', c', e1, hb', hc', hl', hcell, hfr⟩ := OW.out.spot (by simp; omega)
      injection e1 with e1 e2 e3
      injection e1 with e1
      injection e1 with e1 _ _
      subst e1
      have ck := hcell k (by simp; omega)
      have fk := hfr k
      have hwk := wrapI (x := (k : Int) + 1) (by unfold I64; omega)
      have O9 := hid (show Own _ w5.heap.size 5 (.slice (some ⟨w5.heap.size, 0, none⟩) N N) (List.replicate (k + 1) x ++ List.replicate (N - (k + 1)) 0) by
        have := OW.out.put k x hx
        rw [fill_next x hkN] at this
        exact this)
      have K9 := hid (KW.out.setCell (p := ⟨w5.heap.size, k, none⟩) (.inr (Nat.le_refl _)) (.int .u8 x))
      clear hcell hfr e2 e3 hc' hl' hb'
      go_wp2
      go_roundw
      case rel => exact ⟨k + 1, by omega, by go_num, O9, K9⟩
      case measure => simp [intOf]; omega
    · have hkN2 : k = N := by omega
      subst hkN2
      have W7 := hid (W3.out.kp0 KW.out)
      have K7 := hid (K3.out.trans KW.out)
      have B7 := hid (show Byt wr (fun i => w5.heap.size ≤ i) (.slice (some ⟨w5.heap.size, 0, none⟩) k k) (List.replicate k x) by
        have := OW.out.byt (P := fun i => w5.heap.size ≤ i) fun _ h => h
        simpa using this)
      have hd5 := W3.out.dk.lts
      have hq5 := (show Str w5 q g b m h 0 false [] from W3.out.st).lt
      clear OW KW O6 K6
      rcases hjm with hj | hj
      · have gj : (0 : Int) < (j : Int) := by omega
        have hlong : 64 * h < (List.replicate k x).length := by rw [List.length_replicate]; have := HNn.out; omega
        go_wp2_with (first
          | (go_at_call 15
             refine (commit_any W7.out.dk W7.out.st (HT.out.kp0 K7.out) W7.out.two B7.out (by rw [List.length_replicate]; omega) (HT.out.ne hlo.1 hlo.2.1 hlo.2.2)).mono ?_
             intro e w8 hc
             obtain ⟨rfl, k8, W8⟩ := W7.out.long hlong hc
             have HW8 := hid W8
             have K8 := hid (show Kp No w w8 from K7.out.step k8 fun i hi e => by rcases e with e | e | e | e <;> omega)
             clear hc k8 W8)
          | (go_at_call 16
             refine (lsame_any HW8.out.st (Byt.nil _ Anyb) _ _).mono ?_
             rintro e w9 ⟨rfl, k9⟩
             rw [show isThat (0, false, []) 0 false [] = true from rfl]
             have HW9 := hid (HW8.out.kp0 k9)
             have K9 := hid (K8.out.trans k9)
             clear k9)
          | (go_at_call 22
             refine (waits_any HW9.out.dk).mono ?_
             rintro e w10 ⟨v10, rfl, o10, k10⟩
             rw [waits_nil HW9.out.cl] at o10
             obtain ⟨A10, c10, rfl⟩ := o10.formN rfl
             have K10 := hid (K9.out.trans k10)
             clear k10 o10))
        go_ret
        exact ⟨rfl, K10.out⟩
      · subst hj
        have hshort : (List.replicate k x).length ≤ 64 * h := by rw [List.length_replicate]; have := HNn.out; omega
        go_wp2_with (first
          | (go_at_call 15
             refine (commit_any W7.out.dk W7.out.st (HT.out.kp0 K7.out) W7.out.two B7.out (by rw [List.length_replicate]; omega) (HT.out.ne hlo.1 hlo.2.1 hlo.2.2)).mono ?_
             intro e w8 hc
             obtain ⟨rfl, k8, s8, W8⟩ := W7.out.com hshort (by simp) hc
             have HW8 := hid W8
             have B8 := hid (B7.out.kp k8 fun i hi e => by rcases e with e | e | e | e <;> omega)
             have K8 := hid (show Kp No w w8 from K7.out.step k8 fun i hi e => by rcases e with e | e | e | e <;> omega)
             clear hc k8 W8)
          | (go_at_call 16
             refine (lsame_any HW8.out.st B8.out _ _).mono ?_
             rintro e w9 ⟨rfl, k9⟩
             rw [show isThat (0 + 1, true, List.replicate k x) 1 true (List.replicate k x) = true from isThat_self (0 + 1, true, List.replicate k x)]
             have K9 := hid (K8.out.trans k9)
             clear k9))
        go_ret
        exact ⟨rfl, K9.out⟩
end Go.Proofs.YteficflfmbecbaaDoor
