/-
  The walk of SlotsIdle.
-/
import Derived.Test.YteficflfmbecbaaDoorSlV
namespace Go.Proofs.YteficflfmbecbaaDoor
open Go.RowKit

set_option maxHeartbeats 2000000 in
set_option maxRecDepth 100000 in
theorem slotsIdle_walk (w : World) (v vk : Value) (ht : Tab w) {os : List Dop} {keep : List Bool} (ho : Ops w Anyb v os) (hk : Sl Value.bool false w Anyb vk keep) :
    Calls Tryd.prog 7 #[v, vk] w fun e w' => e = .returned (.bool true) ∧ Kp No w w' := by
  have HT := hid ht
  have HO := hid ho.below
  have HKP := hid hk.below
  obtain ⟨V, vc, rfl, hvc, hvm, _⟩ := ho.rw
  obtain ⟨K, kc, rfl, hkc, hkm, _⟩ := hk
  unfold maxLen at hvm hkm
  obtain ⟨no, hno⟩ : ∃ n, os.length = n := ⟨_, rfl⟩
  obtain ⟨nk, hnk⟩ : ∃ n, keep.length = n := ⟨_, rfl⟩
  rw [hno] at hvc HO ⊢
  rw [hnk] at hkc HKP ⊢
  clear ht ho hno hnk
  go_enter Tryd.func7, Tryd.ntmps7
  go_upto_region 3 with (first
    | (go_at_call 8
       refine (awake_any w HT.out).mono ?_
       rintro e w1 ⟨rfl, k1⟩
       have K1 := hid k1
       have HO1 := hid (HO.out.kp k1 fun _ _ h => h)
       clear k1)
    | (go_at_call 9
       refine (few_any HO1.out).mono ?_
       rintro e w2 ⟨q0, rfl, rfl, hq0⟩
       have HQ0 := hid hq0
       clear hq0))
  cases q0 with
  | false =>
    go_wp2
    go_ret
    exact ⟨rfl, K1.out⟩
  | true =>
  by_cases h50 : 50 < nk
  · have g50 : (50 : Int) < (nk : Int) := by omega
    go_wp2
    go_ret
    exact ⟨rfl, K1.out⟩
  have g50 : ¬ (50 : Int) < (nk : Int) := by omega
  go_wp2_with (first
    | (go_at_call 10
       refine (walked_any (HT.out.kp0 K1.out) HO1.out (HQ0.out rfl)).mono ?_
       rintro e w3 ⟨q, g, b, m, s, r, r', rfl, W3, hr20, hlo, k3⟩
       have HW3 := hid W3
       have K3 := hid (K1.out.trans k3)
       have hlo2 : w.heap.size ≤ q ∧ w.heap.size ≤ g ∧ w.heap.size ≤ b ∧ w.heap.size ≤ m := by have := K1.out.size; omega
       have HCK := hid (crash_k W3.cl keep)
       have HCL := hid (crash_look W3.cl keep)
       obtain ⟨k, hk⟩ : ∃ k, s.k = k := ⟨_, rfl⟩
       have HKs := hid hk
       clear W3 k3 hlo hk)
    | (go_at_call 11
       refine (age_any (show Str _ q g b m 19 r.1 r.2.1 r.2.2 from HW3.out.st)).mono ?_
       rintro e w4 ⟨rfl, rfl⟩)
    | (go_at_call 12
       refine (image_any (show Str _ q g b m 19 r.1 r.2.1 r.2.2 from HW3.out.st)).mono ?_
       rintro e w5 ⟨u5, rfl, o5, k5⟩
       have W5 := hid (HW3.out.kp0 k5)
       have B5 := hid (o5.byt (P := fun i => w4.heap.size ≤ i ∨ True) fun _ h => .inl h)
       have B5' := hid (o5.byt (P := fun i => w4.heap.size ≤ i) fun _ h => h)
       have K5 := hid (K3.out.trans k5)
       have hd4 := HW3.out.dk.lts
       clear o5 k5)
    | (go_at_call 23
       refine (kept_any W5.out.dk).mono ?_
       rintro e w6 ⟨v6, rfl, ks6, k6⟩
       rw [HKs.out] at ks6
       have KS6 := hid (ks6.kr)
       have W6 := hid (W5.out.kp0 k6)
       have B6 := hid (B5'.out.kp0 k6)
       have K6 := hid (K5.out.trans k6)
       have hz5 := K5.out.size
       have hz6 := k6.size
       have hd5 := W5.out.dk.lts
       clear ks6 k6)
    | (go_at_call 17
       refine (crash_any W6.out.dk (HKP.out.kp K6.out fun _ _ _ h => h) (by omega)).mono ?_
       rintro e w7 ⟨⟨x7, rfl⟩, k7, d7⟩
       have D7 := hid d7
       have S7 := hid (Sto.kpd W6.out.st k7 fun _ h => h)
       have B7 := hid (B6.out.kp k7 fun i hi e => by rcases e with e | e | e <;> omega)
       have KS7 := hid (KS6.out.kp k7 fun i hi _ e => by rcases e with e | e | e <;> omega)
       have K7 := hid (K6.out.step k7 fun i hi e => by rcases e with e | e | e <;> omega)
       clear k7 d7)
    | (go_at_call 18
       refine (open_is D7.out (HT.out.kp0 K7.out) rfl (by rw [crashed_len, W6.out.kl]; omega)).mono ?_
       rintro e w8 ⟨q8, rfl, hq8, s8, k8⟩
       rw [crashed_len, W6.out.kl, HCL.out] at s8
       have e8 : opn (look s) ((40 - 2) / 2) = r := W6.out.found
       rw [e8] at s8
       have S8 := hid (show Sto w8 q8 g b m 19 r from s8)
       have S7b := hid (Sto.kp0 S7.out k8)
       have D8 := hid (D7.out.kp0 k8)
       have B8 := hid (B7.out.kp0 k8)
       have KS8 := hid (KS7.out.kp0 k8)
       have K8 := hid (K7.out.trans k8)
       clear s8 k8 e8)
    | (go_at_call 16
       refine (lsame_any S8.out B8.out _ _).mono ?_
       rintro e w9 ⟨rfl, k9⟩
       rw [isThat_self]
       have S9 := hid (Sto.kp0 S7b.out k9)
       have D9 := hid (D8.out.kp0 k9)
       have B9 := hid (B8.out.kp0 k9)
       have KS9 := hid (KS8.out.kp0 k9)
       have K9 := hid (K8.out.trans k9)
       clear k9 S8)
    | (go_at_call 16
       refine (lsame_any S9.out B9.out _ _).mono ?_
       rintro e w10 ⟨rfl, k10⟩
       rw [isThat_self]
       have D10 := hid (D9.out.kp0 k10)
       have KS10 := hid (KS9.out.kp0 k10)
       have K10 := hid (K9.out.trans k10)
       clear k10)
    | (go_at_call 23
       refine (kept_any D10.out).mono ?_
       rintro e w11 ⟨v11, rfl, ks11, k11⟩
       rw [HCK.out, HKs.out] at ks11
       have KS11 := hid (ks11.kr)
       have KS12 := hid (KS10.out.kp0 k11)
       have K11 := hid (K10.out.trans k11)
       clear ks11 k11)
    | (go_at_call 24
       refine (sameK_any _ _ k k _ KS12.out KS11.out (by rw [← HKs.out]; exact W6.out.dk.ok.sec) (by rw [← HKs.out]; exact W6.out.dk.ok.sec)).mono ?_
       rintro e w12 ⟨rfl, n12, rfl⟩
       rw [show decide (k = k) = true from decide_eq_true rfl]))
  go_ret
  exact ⟨rfl, K11.out.drewN n12⟩
end Go.Proofs.YteficflfmbecbaaDoor
