/-
  The walk of CrcBursts.
-/
import Derived.Test.YtjcjepeailemcaaDoorCrcC
import Derived.Test.YtjcjepeailemcaaDoorArgs
import Derived.Test.YtjcjepeailemcaaDoorStore
import Derived.BigRegion
namespace Go.Proofs.YtjcjepeailemcaaDoor
open Go.RowKit

theorem low_succ (d j : Nat) : d % 2 ^ (j + 1) = (d % 2 ^ j) ^^^ (2 ^ j * (d / 2 ^ j % 2)) := by
  refine Nat.eq_of_testBit_eq fun i => ?_
  rw [Nat.testBit_xor, Nat.testBit_two_pow_mul, Nat.testBit_mod_two_pow, Nat.testBit_mod_two_pow, show (d / 2 ^ j % 2).testBit (i - j) = (d / 2 ^ j % 2 ^ 1).testBit (i - j) from rfl, Nat.testBit_mod_two_pow, Nat.testBit_div_two_pow]
  by_cases h1 : i < j
  · have h2 : ¬ i ≥ j := by omega
    have h3 : i < j + 1 := by omega
    simp [h1, h2, h3]
  · by_cases h2 : i = j
    · subst h2
      simp
    · have h3 : ¬ i < j + 1 := by omega
      have h4 : ¬ i - j < 1 := by omega
      simp [h1, h3, h4]
theorem half_succ (d j : Nat) : d / 2 ^ (j + 1) = d / 2 ^ j / 2 := by rw [Nat.pow_succ, Nat.div_div_eq_div_mul]

/-- What the loop keeps: the bytes so far, and whether any is another one. -/
def Burst (xs : List Int) (k d j : Nat) (zs : List Int) (ch : Bool) : Prop :=
  zs.length = xs.length ∧ Nt zs = Nt xs ^^^ (2 ^ k * (d % 2 ^ j)) ∧ (ch = true ↔ d % 2 ^ j ≠ 0)
theorem Burst.no {xs zs : List Int} {k d j : Nat} {ch : Bool} (h : Burst xs k d j zs ch) (hd : ¬ d / 2 ^ j % 2 = 1) : Burst xs k d (j + 1) zs ch := by
  have e : d % 2 ^ (j + 1) = d % 2 ^ j := by rw [low_succ, show d / 2 ^ j % 2 = 0 from by omega, Nat.mul_zero, Nat.xor_zero]
  unfold Burst
  rw [e]
  exact h
theorem Burst.yes {xs zs : List Int} {k d j : Nat} {ch : Bool} (h : Burst xs k d j zs ch) (hd : d / 2 ^ j % 2 = 1) (hj : k + j < 8 * xs.length) :
    Burst xs k d (j + 1) (zs.set ((k + j) / 8) (((zs.getD ((k + j) / 8) 0).toNat ^^^ 2 ^ ((k + j) % 8) : Nat) : Int)) true := by
  have e := low_succ d j
  rw [hd, Nat.mul_one] at e
  refine ⟨by rw [List.length_set]; exact h.1, ?_, by
    constructor
    · intro _ h0
      have hlt : d % 2 ^ j < 2 ^ j := Nat.mod_lt _ (Nat.two_pow_pos j)
      rw [h0] at e
      have := xor_zero_eq e.symm
      omega
    · intro _; rfl⟩
  rw [Nt_set zs _ _ (by rw [h.1]; omega), h.2.1, e, xor_mul, ← Nat.pow_add, ← Nat.pow_add, Nat.xor_assoc, show 8 * ((k + j) / 8) + (k + j) % 8 = k + j from by omega]
theorem Burst.done {xs zs : List Int} {k d j : Nat} {ch : Bool} (h : Burst xs k d j zs ch) (hk : k < 8 * xs.length) (hj : j ≤ 32) (hx : ∀ x ∈ xs, 0 ≤ x ∧ x ≤ 255) : (ck zs ≠ ck xs) ↔ ch = true := by
  have hlt : d % 2 ^ j < 2 ^ j := Nat.mod_lt _ (Nat.two_pow_pos j)
  have hle : 2 ^ j ≤ 2 ^ 32 := Nat.pow_le_pow_right (by decide) hj
  rw [h.2.2, Ne, ck_burst_iff xs zs k (d % 2 ^ j) h.1 hx (by omega) (by omega) h.2.1]

theorem crcBursts_walk (w : World) (v : Value) (n d : Int) {xs : List Int} (ht : Tab w) (hv : Byt w Anyb v xs) (hn : 0 ≤ n ∧ n ≤ 65535) (hd : 0 ≤ d ∧ d ≤ 4294967295) :
    Calls Tryd.prog 7 #[v, .int .u16 n, .int .u32 d] w fun e w' => e = .returned (.bool true) ∧ Kp No w w' := by
  obtain ⟨a, rfl⟩ : ∃ a : Nat, n = (a : Int) := ⟨n.toNat, by omega⟩
  obtain ⟨b, rfl⟩ : ∃ b : Nat, d = (b : Int) := ⟨d.toNat, by omega⟩
  have hb : b < 4294967296 := by omega
  have ha : a < 65536 := by omega
  have HV := hid hv
  have HT := hid ht
  have HX := hid hv.bytes
  obtain ⟨A, cp, rfl, hcp, hm, _, _⟩ := hv
  unfold maxLen at hm
  clear ht hn hd
  go_enter Tryd.func7, Tryd.ntmps7
  go_wp2_with fail
  refine (awake_any _ HT.out).mono ?_
  rintro e w1 ⟨rfl, k1⟩
  have V1 := hid (HV.out.kp0 k1)
  have T1 := hid (HT.out.kp0 k1)
  have K1 := hid k1
  clear HV HT k1
  by_cases h0 : xs.length = 0
  · have hb0 : ((xs.length : Int) == 0) = true := by simp [h0]
    clear h0
    go_wp2
    go_ret
    exact ⟨rfl, K1.out⟩
  have hb0 : ((xs.length : Int) == 0) = false := by rw [beq_eq_false_iff_ne]; omega
  by_cases hbig : 300 < xs.length
  · go_wp2
    go_ret
    exact ⟨rfl, K1.out⟩
  have hmod : (a : Int) % (8 * (xs.length : Int)) = ((a % (8 * xs.length) : Nat) : Int) := by rw [Int.natCast_emod, Int.natCast_mul]; rfl
  have hlt := Nat.mod_lt a (show 0 < 8 * xs.length by omega)
  obtain ⟨k, hk⟩ : ∃ k, a % (8 * xs.length) = k := ⟨_, rfl⟩
  rw [hk] at hmod hlt
  clear hk
  have hpos : 0 < xs.length := by omega
  go_wp2_with (first
      | (at_builtin
         refine wp_app isU8 rfl (.tmp 22) (.tmp 23) rfl (base := w1.heap.size) (xs := []) (ys := xs) (by exact Own.mt _ _) (by exact V1.out.kp0 ((Kp.refl _ _).alloc _)) (by simp; omega) (by simp) ?_
         intro v2 w2 o2 k2
         rw [List.nil_append] at o2
         have K2 := hid ((Kp.refl No w1).alloc (.cells #[] 5) |>.step k2 fun i hi h => by omega)
         obtain ⟨g, c, rfl, hg, hcm, hlc, _⟩ := o2.spot hpos
         have O2 := hid o2
         unfold maxLen at hcm
         clear o2 k2)
      | fail)
  rw [hmod]
  clear hmod
  go_loopw [2, 10, 11] (fun y ch i w' => ∃ (j t : Nat) (zs : List Int) (q : Bool), j ≤ 32 ∧ i = .int .i64 j ∧ y = .int .u32 t ∧ t < 4294967296 ∧ ch = .bool q ∧ Hid (b / 2 ^ j = t ∧ Own w' w1.heap.size 5 (.slice (some ⟨g, 0, none⟩) xs.length c) zs ∧ Burst xs k b j zs q ∧ Kp No w1 w')) (fun _ _ i _ => 32 - (intOf i).toNat)
  case atStart => exact ⟨0, b, xs, false, by omega, rfl, rfl, hb, rfl, hid ⟨by simp, O2.out, ⟨rfl, by simp [Nat.mod_one], by simp [Nat.mod_one]⟩, K2.out⟩⟩
  case round =>
    obtain ⟨j, t, zs, q, hj, rfl, rfl, htl, rfl, H⟩ := hrel
    clear O2 K2
    have hj32 : j = 32 ∨ j < 32 := by omega
    by_cases hgo : j < 32 ∧ k + j < 8 * xs.length
    · obtain ⟨hg1, hg2⟩ := hgo
      have hg1' : (j : Int) < 32 := by omega
      have hg2' : (k : Int) + (j : Int) < 8 * (xs.length : Int) := by omega
      by_cases hodd : t % 2 = 1
      · have hb1 : ((t : Int) % 2 == 1) = true := by rw [beq_iff_eq]; omega
        obtain ⟨et, oz, tz, kz⟩ := H.out
        have TS := hid (tz.yes (by rw [et]; exact hodd) hg2)
        have HH := hid (half_succ b j)
        have hzl : zs.length = xs.length := tz.1
        obtain ⟨_, _, he, _, _, _, hcell, hfr⟩ := oz.spot (by omega)
        injection he with e1 e2 e3
        injection e1 with e1
        injection e1 with e1 _ _
        subst e1 e3
        clear e2
        obtain ⟨s, es⟩ : ∃ s, k + j = s := ⟨_, rfl⟩
        rw [es] at TS hg2
        have e1 : IntKind.i64.wrap ((k : Int) + (j : Int)) = (s : Int) := by rw [IntWalk.i64_in _ (by omega)]; omega
        have hll : s / 8 < zs.length := by omega
        have hc1 := hcell (s / 8) hll
        have hf1 := hfr (s / 8)
        have hbd := oz.2 (zs.getD (s / 8) 0) (by simp [List.getD, List.getElem?_eq_getElem hll])
        obtain ⟨x, hx⟩ : ∃ x, (zs.getD (s / 8) 0).toNat = x := ⟨_, rfl⟩
        have hx2 : zs.getD (s / 8) 0 = (x : Int) := by omega
        have hx3 : x < 256 := by omega
        rw [hx2] at hc1
        rw [hx] at TS
        have hll1 : s / 8 < xs.length := by omega
        have hll' : (s : Int) / 8 < (xs.length : Int) := by omega
        have hm8 : 2 ^ (s % 8) < 2 ^ 8 := Nat.pow_lt_pow_right (by decide) (Nat.mod_lt _ (by decide))
        have hy : x ^^^ 2 ^ (s % 8) < 256 := Nat.xor_lt_two_pow (n := 8) hx3 hm8
        have hxor : bits .xor .u8 (x : Int) (2 ^ (s % 8) % 256) = ((x ^^^ 2 ^ (s % 8) : Nat) : Int) := by
          rw [← u8_xor_nat x (2 ^ (s % 8)) hx3 hm8, show ((2 : Int) ^ (s % 8) % 256) = ((2 ^ (s % 8) % 256 : Nat) : Int) by rw [Int.natCast_emod, Int.natCast_pow]; rfl, Nat.mod_eq_of_lt hm8]
        obtain ⟨y, ey⟩ : ∃ y, x ^^^ 2 ^ (s % 8) = y := ⟨_, rfl⟩
        rw [ey] at hy hxor TS
        clear hcell hfr hbd hx hx2 et oz tz kz es hzl hll ey hm8
        go_wp2
        go_region
        go_wp2
        go_roundw
        case rel =>
          refine ⟨j + 1, t / 2, zs.set (s / 8) (y : Int), true, by omega, by go_num, by go_num, by omega, rfl, hid ⟨?_, ?_, TS.out, ?_⟩⟩
          · rw [HH.out, H.out.1]
          · exact (H.out.2.1.put (s / 8) (y : Int) (by omega)).drew
          · exact (H.out.2.2.2.setCell (p := ⟨g, s / 8, none⟩) (.inr hg) _).drew
        case measure => simp [intOf]; omega
      · have hb1 : ((t : Int) % 2 == 1) = false := by rw [beq_eq_false_iff_ne]; omega
        have HH := hid (half_succ b j)
        have TS := hid (H.out.2.2.1.no (by rw [H.out.1]; exact hodd))
        go_wp2
        go_roundw
        case rel => exact ⟨j + 1, t / 2, zs, q, by omega, by go_num, by go_num, by omega, rfl, hid ⟨by rw [HH.out, H.out.1], H.out.2.1, TS.out, H.out.2.2.2⟩⟩
        case measure => simp [intOf]; omega
    · have hdone := H.out.2.2.1.done hlt hj HX.out
      have V3 := hid (V1.out.kp0 H.out.2.2.2)
      have T3 := hid (T1.out.kp0 H.out.2.2.2)
      have KE := hid (K1.out.trans H.out.2.2.2)
      have O3 := hid (H.out.2.1.byt (P := Anyb) fun _ _ => trivial)
      obtain ⟨m, em⟩ : ∃ m, ck xs = m := ⟨_, rfl⟩
      obtain ⟨r, er⟩ : ∃ r, ck zs = r := ⟨_, rfl⟩
      rw [em, er] at hdone
      have EM := hid em
      have ER := hid er
      clear em er V1 T1 K1 H
      by_cases hj1 : j < 32
      · have hg1 : (j : Int) < 32 := by omega
        have hg2 : ¬ (k : Int) + (j : Int) < 8 * (xs.length : Int) := by omega
        clear hgo hj32
        cases q with
        | true =>
          have hne : ((r : Int) != (m : Int)) = true := by rw [bne_iff_ne]; have := hdone.2 rfl; omega
          clear hdone
          go_wp2_with fail
          refine (of_any _ zs _ O3.out T3.out).mono ?_
          rintro e w' ⟨rfl, rfl⟩
          rw [ER.out]
          go_wp2_with fail
          refine (of_any _ xs _ V3.out T3.out).mono ?_
          rintro e w' ⟨rfl, rfl⟩
          rw [EM.out]
          go_wp2_with fail
          go_ret
          exact ⟨rfl, KE.out⟩
        | false =>
          have hne : ((r : Int) != (m : Int)) = false := by
            rw [bne_eq_false_iff_eq]
            have : ¬ r ≠ m := fun h => by have := hdone.1 h; cases this
            omega
          clear hdone
          go_wp2_with fail
          refine (of_any _ zs _ O3.out T3.out).mono ?_
          rintro e w' ⟨rfl, rfl⟩
          rw [ER.out]
          go_wp2_with fail
          refine (of_any _ xs _ V3.out T3.out).mono ?_
          rintro e w' ⟨rfl, rfl⟩
          rw [EM.out]
          go_wp2_with fail
          go_ret
          exact ⟨rfl, KE.out⟩
      · have hg1 : ¬ (j : Int) < 32 := by omega
        clear hgo hj32
        cases q with
        | true =>
          have hne : ((r : Int) != (m : Int)) = true := by rw [bne_iff_ne]; have := hdone.2 rfl; omega
          clear hdone
          go_wp2_with fail
          refine (of_any _ zs _ O3.out T3.out).mono ?_
          rintro e w' ⟨rfl, rfl⟩
          rw [ER.out]
          go_wp2_with fail
          refine (of_any _ xs _ V3.out T3.out).mono ?_
          rintro e w' ⟨rfl, rfl⟩
          rw [EM.out]
          go_wp2_with fail
          go_ret
          exact ⟨rfl, KE.out⟩
        | false =>
          have hne : ((r : Int) != (m : Int)) = false := by
            rw [bne_eq_false_iff_eq]
            have : ¬ r ≠ m := fun h => by have := hdone.1 h; cases this
            omega
          clear hdone
          go_wp2_with fail
          refine (of_any _ zs _ O3.out T3.out).mono ?_
          rintro e w' ⟨rfl, rfl⟩
          rw [ER.out]
          go_wp2_with fail
          refine (of_any _ xs _ V3.out T3.out).mono ?_
          rintro e w' ⟨rfl, rfl⟩
          rw [EM.out]
          go_wp2_with fail
          go_ret
          exact ⟨rfl, KE.out⟩
end Go.Proofs.YtjcjepeailemcaaDoor
