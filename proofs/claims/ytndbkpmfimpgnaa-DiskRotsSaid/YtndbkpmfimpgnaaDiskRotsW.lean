/-
  The walk of DiskRots.
-/
import Derived.Test.YtndbkpmfimpgnaaDLaw
namespace Go.Proofs.Ytndbkpmfimpgnaa
open Go.RowKit

theorem rotL_at {l : List Int} (h : Sec l) {t : Nat} (ht : t < 512) : (rotL l t).getD (t / 8) 0 = flip (t % 8) (l.getD (t / 8) 0) := by
  unfold rotL
  exact getD_set_self (by rw [h.len]; omega)
theorem byte_rg {l : List Int} (h : Sec l) {j : Nat} (hj : j < 64) : 0 ≤ l.getD j 0 ∧ l.getD j 0 ≤ 255 := h.rg _ (by simp [List.getD, show j < l.length by rw [h.len]; exact hj])
theorem rotL_twice {l : List Int} (h : Sec l) {t : Nat} (ht : t < 512) : rotL (rotL l t) t = l := by
  have hb := byte_rg h (j := t / 8) (by omega)
  have e := rotL_at h ht
  have : rotL (rotL l t) t = (rotL l t).set (t / 8) (flip (t % 8) ((rotL l t).getD (t / 8) 0)) := rfl
  rw [this, e, flip_twice (by omega) hb.1 hb.2]
  unfold rotL
  rw [List.set_set]
  refine List.ext_getElem (by simp) fun j h1 h2 => ?_
  rw [List.getElem_set]
  split
  · rename_i hj
    subst hj
    simp [List.getD, h2]
  · rfl
theorem rotL_ne {l : List Int} (h : Sec l) {t : Nat} (ht : t < 512) : rotL l t ≠ l := fun e => by
  have hb := byte_rg h (j := t / 8) (by omega)
  have e2 := rotL_at h ht
  rw [e] at e2
  exact flip_ne (by omega) hb.1 hb.2 e2.symm
theorem rotK_twice {ks : List (List Int)} {i t : Nat} (hi : i < ks.length) (h : Sec (ks.getD i [])) (ht : t < 512) : (ks.set i (rotL (ks.getD i []) t)).set i (rotL ((ks.set i (rotL (ks.getD i []) t)).getD i []) t) = ks := by
  rw [getD_set_self hi, rotL_twice h ht, List.set_set]
  refine List.ext_getElem (by simp) fun j h1 h2 => ?_
  rw [List.getElem_set]
  split
  · rename_i hj
    subst hj
    simp [List.getD, h2]
  · rfl
theorem rotK_ne {ks : List (List Int)} {i t : Nat} (hi : i < ks.length) (h : Sec (ks.getD i [])) (ht : t < 512) : ks.set i (rotL (ks.getD i []) t) ≠ ks := fun e => by
  have := congrArg (fun l : List (List Int) => l.getD i []) e
  rw [getD_set_self hi] at this
  exact rotL_ne h ht this

set_option maxHeartbeats 4000000 in
set_option maxRecDepth 100000 in
theorem diskRots_walk (w : World) (v : Value) (i t : Int) {os : List Dop} (ho : Ops w Anyb v os) (hi : -9223372036854775808 ≤ i ∧ i ≤ 9223372036854775807) (ht : -9223372036854775808 ≤ t ∧ t ≤ 9223372036854775807) :
    Calls Try.prog 5 #[v, .int .i64 i, .int .i64 t] w fun e w' => e = .returned (.bool true) ∧ Kp No w w' := by
  have HO := hid ho.below
  obtain ⟨V, vc, rfl, hvc, hvm, _⟩ := ho.rw
  unfold maxLen at hvm
  generalize os.length = no at *
  clear ho
  go_enter Try.func5, Try.ntmps5
  go_wp2_with fail
  refine (awake_any w).mono ?_
  rintro e w1 ⟨rfl, k1⟩
  have K1 := hid k1
  have HO1 := hid (HO.out.kp k1 fun _ _ h => h)
  clear k1
  go_wp2_with fail
  refine (few_any HO1.out).mono ?_
  rintro e w1 ⟨q, rfl, rfl⟩
  cases q with
  | false =>
    go_wp2
    go_ret
    exact ⟨rfl, K1.out⟩
  | true =>
  go_wp2_with fail
  refine (walked_any HO1.out).mono ?_
  rintro e w2 ⟨g, b, m, s0, rfl, D2, ha2, hk2, hg, hb, hm, k2⟩
  have K2 := hid (K1.out.trans k2)
  have hsz1 := K1.out.size
  have D2 := hid D2
  have HA2 := hid ha2
  have HK2 := hid hk2
  clear k2 ha2 hk2 HO1
  go_wp2_with fail
  refine (kept_any D2.out).mono ?_
  rintro e w3 ⟨v3, rfl, ks3, k3⟩
  have KA := hid ks3.kr
  obtain ⟨A3, c3, rfl⟩ := ks3.formN (n := 20) HK2.out
  have D3 := hid (D2.out.kp0 k3)
  have K3 := hid (K2.out.trans k3)
  have l2 := D2.out.lts
  have hs23 := k3.size
  clear ks3 k3 D2
  by_cases hth : 0 ≤ i ∧ i < 20 ∧ 0 ≤ t ∧ t < 512
  · obtain ⟨j, rfl⟩ : ∃ j : Nat, i = (j : Int) := ⟨i.toNat, by omega⟩
    obtain ⟨r, rfl⟩ : ∃ r : Nat, t = (r : Int) := ⟨t.toNat, by omega⟩
    have hj : j < 20 := by omega
    have hr : r < 512 := by omega
    have hjk := hid (show j < s0.k.length by rw [HK2.out]; exact hj)
    have hsec := hid (D3.out.ok.sec (s0.k.getD j []) (by simp [List.getD, hjk.out]))
    have ALL0 := hid D3.out.ok.sec
    have d2 : decide ((j : Int) < 20) = true := by simp; omega
    have d4 : decide ((r : Int) < 512) = true := by simp; omega
    clear hth hi ht
    go_wp2_with fail
    refine (rot_is D3.out hjk.out hr).mono ?_
    rintro e w4 ⟨⟨v4, rfl⟩, k4, D4⟩
    have N4 := hid (show (rotted s0 j r).k.length = 20 by simp [rotted, HK2.out])
    have KA4 := hid (KA.out.kp k4 fun q hq _ e => by have : q = b := e; omega)
    have K4 := hid (show Kp No w w4 from K3.out.step k4 fun q hq e => by have : q = b := e; omega)
    have D4 := hid D4
    have hs34 := k4.size
    clear k4 D3 KA
    go_wp2_with fail
    refine (kept_any D4.out).mono ?_
    rintro e w5 ⟨v5, rfl, ks5, k5⟩
    have KB := hid ks5.kr
    obtain ⟨A5, c5, rfl⟩ := ks5.formN (n := 20) N4.out
    have KA5 := hid (KA4.out.kp0 k5)
    have D5 := hid (D4.out.kp0 k5)
    have K5 := hid (K4.out.trans k5)
    have ALL5 := hid D5.out.ok.sec
    have hs5 := k5.size
    clear ks5 k5 D4 KA4
    go_wp2_with fail
    refine (sameK_any _ _ _ _ _ KA5.out KB.out ALL0.out ALL5.out).mono ?_
    rintro e w6 ⟨rfl, n6, rfl⟩
    rw [decide_eq_false (show ¬ s0.k = (rotted s0 j r).k from fun e => rotK_ne hjk.out hsec.out hr e.symm)]
    have KA6 := hid (KA5.out.kp0 (kp_drewN _ n6))
    have KB6 := hid (KB.out.kp0 (kp_drewN _ n6))
    have D6 := hid (D5.out.kp0 (kp_drewN _ n6))
    have K6 := hid (K5.out.trans (kp_drewN _ n6))
    have hs45 : w4.heap.size ≤ (w5.drewN n6).heap.size := hs5
    generalize w5.drewN n6 = w6 at KA6 KB6 D6 K6 hs45 ⊢
    clear KA5 KB D5
    obtain ⟨p, hpt⟩ : ∃ p, r / 8 = p := ⟨_, rfl⟩
    obtain ⟨u, hut⟩ : ∃ u, r % 8 = u := ⟨_, rfl⟩
    have hq : (r : Int) / 8 = (p : Int) := by omega
    have hrm : (r : Int).tmod 8 = (u : Int) := by rw [Int.tmod_eq_emod_of_nonneg (by omega)]; omega
    have hp : p < 64 := by omega
    have hpi : (p : Int) < 64 := by omega
    have hui : (u : Int) < 8 := by omega
    have hji : (j : Int) < 20 := by omega
    have hwp := wrapI (x := (p : Int)) (by unfold I64; omega)
    have hwu := wrapI (x := (u : Int)) (by unfold I64; omega)
    have HP := hid hpt
    have HU := hid hut
    obtain ⟨rb, ro, q, rfl, hcq, hQ, hQrb, hne, BQ⟩ := KB6.out.get (j := j) (by rw [N4.out]; exact hj)
    have hrot := hid (show (rotted s0 j r).k = s0.k.set j (rotL (s0.k.getD j []) r) from rfl)
    have hsl := hid (rotL_sec hsec.out r)
    have hgj := hid (show (rotted s0 j r).k.getD j [] = rotL (s0.k.getD j []) r by rw [hrot.out]; exact getD_set_self hjk.out)
    have bx := BQ.cell p
    have fx := BQ.frozen p
    rw [List.getElem?_toArray, hgj.out, sc_at (by rw [hsl.out.len]; exact hp)] at bx
    obtain ⟨x, hx⟩ : ∃ x, (rotL (s0.k.getD j []) r).getD p 0 = x := ⟨_, rfl⟩
    rw [hx] at bx
    have hput := KB6.out.put (j := j) (p := p) (by rw [N4.out]; exact hj) rfl hcq (flip u x)
    have hks : (rotted s0 j r).k.set j (((rotted s0 j r).k.getD j []).set p (flip u x)) = s0.k := by
      rw [hgj.out, hrot.out, ← hx, ← hpt, ← hut]
      have := rotK_twice hjk.out hsec.out hr
      rw [getD_set_self hjk.out] at this
      exact this
    rw [hks] at hput
    have kq := Kp.set1 q p w6 (.int .u8 (flip u x))
    have KB7 := hid (hput.kp0 ((Kp.refl No _).drew))
    have KA7 := hid ((KA6.out.kp kq fun i hi _ e => by have : i = q := e; omega).kp0 ((Kp.refl No _).drew))
    have D7 := hid ((D6.out.kp kq (fun e => by have : g = q := e; omega) (fun e => by have : b = q := e; omega) (fun e => by have : m = q := e; omega)).kp0 ((Kp.refl No _).drew))
    have K7 := hid ((K6.out.setCell (p := ⟨q, p, none⟩) (.inr (by show w.heap.size ≤ q; have := K3.out.size; omega)) (.int .u8 (flip u x))).drew)
    have hw8 : IntKind.u8.wrap ((2 : Int) ^ u) = (2 : Int) ^ u % 256 := by simp [IntKind.wrap, IntKind.bits, IntKind.signed]
    unfold flip at KB7 KA7 D7 K7
    rw [hw8] at KB7 KA7 D7 K7
    clear hw8
    clear hpt hut hx hput hks kq BQ KB6 KA6 D6 hne hQ hQrb
    go_wp2_with fail
    refine region_tail 19 (by kernel_rfl) (by kernel_rfl) ?_
    simp only [List.take_succ_cons, List.take_zero, List.drop_succ_cons, List.drop_zero]
    repeat still_step
    refine wpStill_nil ?_
    go_wp2_with fail
    generalize (w6.setCell ⟨q, p, none⟩ (Value.int IntKind.u8 (bits BinOp.xor IntKind.u8 x (2 ^ u % 256)))).drew = w7 at KB7 KA7 D7 K7 ⊢
    clear bx fx hcq hq hrm hwp hwu hpi hui hji
    refine (rot_is D7.out (by rw [N4.out]; exact hj) hr).mono ?_
    rintro e w8 ⟨⟨v8, rfl⟩, k8, D8⟩
    have E8 := hid (show (rotted (rotted s0 j r) j r).k = s0.k from rotK_twice hjk.out hsec.out hr)
    have l7 := D7.out.lts
    have KA8 := hid (KA7.out.kp k8 fun q' hq _ e => by have : q' = b := e; omega)
    have KB8 := hid (KB7.out.kp k8 fun q' hq _ e => by have : q' = b := e; omega)
    have K8 := hid (show Kp No w w8 from K7.out.step k8 fun q' hq e => by have : q' = b := e; omega)
    have D8 := hid D8
    clear k8 KA7 KB7 D7
    go_wp2_with fail
    refine (sameK_any _ _ _ _ _ KA8.out KB8.out ALL0.out ALL0.out).mono ?_
    rintro e w9 ⟨rfl, n9, rfl⟩
    rw [decide_eq_true (rfl : s0.k = s0.k)]
    have KA9 := hid (KA8.out.kp0 (kp_drewN _ n9))
    have D9 := hid (D8.out.kp0 (kp_drewN _ n9))
    have K9 := hid (K8.out.trans (kp_drewN _ n9))
    generalize w8.drewN n9 = w9 at KA9 D9 K9 ⊢
    clear KA8 KB8 D8
    go_wp2_with fail
    refine (kept_any D9.out).mono ?_
    rintro e w10 ⟨v10, rfl, ks10, k10⟩
    rw [E8.out] at ks10
    have KC := hid ks10.kr
    obtain ⟨A10, c10, rfl⟩ := ks10.formN (n := 20) HK2.out
    have KA10 := hid (KA9.out.kp0 k10)
    have K10 := hid (K9.out.trans k10)
    clear ks10 k10 D9 KA9
    go_wp2_with fail
    refine (sameK_any _ _ _ _ _ KA10.out KC.out ALL0.out ALL0.out).mono ?_
    rintro e w11 ⟨rfl, n11, rfl⟩
    rw [decide_eq_true (rfl : s0.k = s0.k)]
    have K11 := hid (K10.out.trans (kp_drewN _ n11))
    clear KA10 KC
    go_wp2
    go_ret
    exact ⟨rfl, K11.out⟩
  · have hno : has s0 i = false ∨ t < 0 ∨ 512 ≤ t := by
      by_cases h0 : has s0 i = false
      · exact .inl h0
      · right
        have : has s0 i = true := by simpa using h0
        obtain ⟨j, rfl, hj⟩ := has_nat this
        rw [HK2.out] at hj
        omega
    have HN := hid hno
    go_wp2_with fail
    refine (rot_no D3.out HN.out).mono ?_
    rintro e w3 ⟨⟨v4, rfl⟩, rfl⟩
    go_wp2_with fail
    refine (kept_any D3.out).mono ?_
    rintro e w5 ⟨v5, rfl, ks5, k5⟩
    have KB := hid ks5.kr
    obtain ⟨A5, c5, rfl⟩ := ks5.formN (n := 20) HK2.out
    have KA5 := hid (KA.out.kp0 k5)
    have D5 := hid (D3.out.kp0 k5)
    have K5 := hid (K3.out.trans k5)
    clear ks5 k5 D3 KA
    have hcase : decide (0 ≤ i) = false ∨ (decide (0 ≤ i) = true ∧ decide (i < 20) = false) ∨ (decide (0 ≤ i) = true ∧ decide (i < 20) = true ∧ decide (0 ≤ t) = false) ∨ (decide (0 ≤ i) = true ∧ decide (i < 20) = true ∧ decide (0 ≤ t) = true ∧ decide (t < 512) = false) := by
      simp only [decide_eq_false_iff_not, decide_eq_true_eq]
      omega
    clear hth hno hi ht
    rcases hcase with d1 | ⟨d1, d2⟩ | ⟨d1, d2, d3⟩ | ⟨d1, d2, d3, d4⟩
    all_goals
      go_wp2_with fail
      refine (sameK_any _ _ _ _ _ KA5.out KB.out D5.out.ok.sec D5.out.ok.sec).mono ?_
      rintro e w6 ⟨rfl, n6, rfl⟩
      rw [decide_eq_true (rfl : s0.k = s0.k)]
      have KA6 := hid (KA5.out.kp0 (kp_drewN _ n6))
      have KB6 := hid (KB.out.kp0 (kp_drewN _ n6))
      have D6 := hid (D5.out.kp0 (kp_drewN _ n6))
      have K6 := hid (K5.out.trans (kp_drewN _ n6))
      generalize w5.drewN n6 = w6 at KA6 KB6 D6 K6 ⊢
      clear KA5 KB D5
      go_wp2_with fail
      refine (rot_no D6.out HN.out).mono ?_
      rintro e w6 ⟨⟨v7, rfl⟩, rfl⟩
      go_wp2_with fail
      refine (sameK_any _ _ _ _ _ KA6.out KB6.out D6.out.ok.sec D6.out.ok.sec).mono ?_
      rintro e w7 ⟨rfl, n7, rfl⟩
      rw [decide_eq_true (rfl : s0.k = s0.k)]
      have KA7 := hid (KA6.out.kp0 (kp_drewN _ n7))
      have D7 := hid (D6.out.kp0 (kp_drewN _ n7))
      have K7 := hid (K6.out.trans (kp_drewN _ n7))
      generalize w6.drewN n7 = w7 at KA7 D7 K7 ⊢
      clear KA6 KB6 D6
      go_wp2_with fail
      refine (kept_any D7.out).mono ?_
      rintro e w8 ⟨v8, rfl, ks8, k8⟩
      have KC := hid ks8.kr
      obtain ⟨A8, c8, rfl⟩ := ks8.formN (n := 20) HK2.out
      have KA8 := hid (KA7.out.kp0 k8)
      have ALL8 := hid D7.out.ok.sec
      have K8 := hid (K7.out.trans k8)
      clear ks8 k8 D7 KA7
      go_wp2_with fail
      refine (sameK_any _ _ _ _ _ KA8.out KC.out ALL8.out ALL8.out).mono ?_
      rintro e w9 ⟨rfl, n9, rfl⟩
      rw [decide_eq_true (rfl : s0.k = s0.k)]
      have K9 := hid (K8.out.trans (kp_drewN _ n9))
      clear KA8 KC
      go_wp2
      go_ret
      exact ⟨rfl, K9.out⟩
end Go.Proofs.Ytndbkpmfimpgnaa
