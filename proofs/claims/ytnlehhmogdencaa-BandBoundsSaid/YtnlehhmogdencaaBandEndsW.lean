/-
  The walk of BandEnds.
-/
import Derived.Test.YtnlehhmogdencaaBandG
namespace Go.Proofs.Ytnlehhmogdencaa
open Go.RowKit

/-- How many end in k ticks from f on. -/
def cnt (p f : Int) (k : Nat) : Int := if p < 1 then 0 else (f + k) / p - f / p
theorem cnt_step {p f : Int} (hp : ¬ p < 1) (k : Nat) : cnt p f (k + 1) = cnt p f k + (if (f + 1 + k) % p = 0 then 1 else 0) := by
  unfold cnt
  rw [if_neg hp, if_neg hp]
  have e : (f + ((k + 1 : Nat) : Int)) = f + 1 + k := by omega
  rw [e]
  have a := Int.mul_ediv_add_emod (f + 1 + k) p
  have b := Int.mul_ediv_add_emod (f + k) p
  have r1 : 0 ≤ (f + 1 + k) % p := Int.emod_nonneg _ (by omega)
  have r2 : (f + 1 + k) % p < p := Int.emod_lt_of_pos _ (by omega)
  have r3 : 0 ≤ (f + k) % p := Int.emod_nonneg _ (by omega)
  have r4 : (f + k) % p < p := Int.emod_lt_of_pos _ (by omega)
  obtain ⟨D, hD⟩ : ∃ D, (f + 1 + k) / p - (f + k) / p = D := ⟨_, rfl⟩
  have hm : p * D = 1 - (f + 1 + k) % p + (f + k) % p := by rw [← hD, Int.mul_sub]; omega
  split
  · next h0 =>
    have : D = 1 := by
      have d1 : D < 2 := Int.lt_of_mul_lt_mul_left (a := p) (by omega) (by omega)
      have d2 : 0 < D := Int.lt_of_mul_lt_mul_left (a := p) (by rw [Int.mul_zero]; omega) (by omega)
      omega
    omega
  · next h0 =>
    have : D = 0 := by
      have d1 : D < 1 := Int.lt_of_mul_lt_mul_left (a := p) (by omega) (by omega)
      have d2 : -1 < D := Int.lt_of_mul_lt_mul_left (a := p) (by rw [Int.mul_neg]; omega) (by omega)
      omega
    omega
theorem cnt_bd {p f : Int} (k : Nat) : 0 ≤ cnt p f k ∧ cnt p f k ≤ k := by
  induction k with
  | zero => unfold cnt; split <;> simp
  | succ k ih =>
    by_cases hp : p < 1
    · unfold cnt
      rw [if_pos hp]
      omega
    · rw [cnt_step hp]
      split <;> omega

theorem bandEnds_walk (w : World) (p t n : Int) (hp : I64 p) (ht : 0 ≤ t ∧ t ≤ 4294967295) (hn : 0 ≤ n ∧ n ≤ 255) :
    Calls Try.prog 4 #[.int .i64 p, .int .u32 t, .int .u8 n] w fun e w' => e = .returned (.bool true) ∧ Kp No w w' := by
  obtain ⟨f, hf⟩ : ∃ f, t % 100000 = f := ⟨_, rfl⟩
  have f0 : 0 ≤ f := by omega
  have f1 : f ≤ 99999 := by omega
  obtain ⟨N, rfl⟩ : ∃ N : Nat, n = N := ⟨n.toNat, by omega⟩
  have w1 : t.tmod 100000 = f := by rw [Int.tmod_eq_emod_of_nonneg ht.1]; exact hf
  have w2 : IntKind.u32.wrap f = f := by simp only [IntKind.wrap, IntKind.bits, IntKind.signed]; simp; omega
  have w3 : IntKind.i64.wrap f = f := wrapI ⟨by omega, by omega⟩
  have w4 : IntKind.i64.wrap (N : Int) = N := wrapI ⟨by omega, by omega⟩
  have w5 : IntKind.i64.wrap (f + N) = f + N := wrapI ⟨by omega, by omega⟩
  have w6 : IntKind.i64.wrap (f + 1) = f + 1 := wrapI ⟨by omega, by omega⟩
  have HP := hid hp
  clear hp hf
  go_enter Try.func4, Try.ntmps4
  go_wp2_with fail
  refine (awake_any _).mono ?_
  rintro e v1 ⟨rfl, k1⟩
  have K1 := hid k1
  clear k1
  go_wp2_with fail
  go_loopw [9, 10] (fun m i w' => ∃ k : Nat, k ≤ N ∧ i = .int .i64 (f + 1 + k) ∧ m = .int .i64 (cnt p f k) ∧ Hid (Kp No w w')) (fun _ i _ => (f + 1 + N - intOf i).toNat)
  case atStart => exact ⟨0, Nat.zero_le _, by simp, by simp [cnt], K1⟩
  case round =>
    obtain ⟨k, hk, rfl, rfl, K⟩ := hrel
    clear K1
    obtain ⟨c0, c1⟩ := cnt_bd (p := p) (f := f) k
    obtain ⟨m, hm⟩ : ∃ m, cnt p f k = m := ⟨_, rfl⟩
    rw [hm] at c0 c1
    have HM := hid hm
    rw [hm]
    by_cases hlt : k < N
    · have hlt' : f + 1 + (k : Int) ≤ f + N := by omega
      have w7 : IntKind.i64.wrap (f + 1 + k + 1) = f + 1 + k + 1 := wrapI ⟨by omega, by omega⟩
      have w8 : IntKind.i64.wrap (m + 1) = m + 1 := wrapI ⟨by omega, by omega⟩
      by_cases h1 : p < 1
      · have hd : decide (1 ≤ p) = false := decide_eq_false (by omega)
        have HC := hid (show cnt p f (k + 1) = m by rw [← hm]; unfold cnt; rw [if_pos h1, if_pos h1])
        clear hm
        go_wp2
        go_roundw
        case rel => exact ⟨k + 1, by omega, by go_num, by rw [HC.out], K⟩
        case measure => simp [intOf]; omega
      · have hd : 1 ≤ p := by omega
        have hz' : p ≠ 0 := by omega
        have e1 : (f + 1 + (k : Int)).tmod p = (f + 1 + k) % p := Int.tmod_eq_emod_of_nonneg (by omega)
        have r1 : 0 ≤ (f + 1 + (k : Int)) % p := Int.emod_nonneg _ (by omega)
        have r2 : (f + 1 + (k : Int)) % p < p := Int.emod_lt_of_pos _ (by omega)
        have r3 := HP.out.2
        have e2 : IntKind.i64.wrap ((f + 1 + (k : Int)) % p) = (f + 1 + k) % p := wrapI ⟨by omega, by omega⟩
        have hst := cnt_step (f := f) h1 k
        rw [hm] at hst
        clear hm
        by_cases h0 : (f + 1 + (k : Int)) % p = 0
        · rw [if_pos h0] at hst
          rw [h0] at e1 e2
          have HC := hid hst
          clear hst
          go_wp2
          go_roundw
          case rel => exact ⟨k + 1, by omega, by go_num, by rw [HC.out], K⟩
          case measure => simp [intOf]; omega
        · rw [if_neg h0, Int.add_zero] at hst
          have h0' : ((f + 1 + (k : Int)) % p == 0) = false := by simp; exact h0
          have HC := hid hst
          clear hst
          go_wp2
          go_roundw
          case rel => exact ⟨k + 1, by omega, by go_num, by rw [HC.out], K⟩
          case measure => simp [intOf]; omega
    · have hd := decide_eq_false (show ¬ f + 1 + (k : Int) ≤ f + N by omega)
      have HE := hid (show en p f N = m by
        rw [← hm, show k = N by omega]
        unfold en cnt
        rw [tk_in f0 (by omega), tk_in (by omega) (by omega)])
      have s1 : (m == m) = true := by simp
      clear hm
      go_wp2_with fail
      refine (ends_any HE.out _).mono ?_
      rintro e v2 ⟨rfl, k2⟩
      have K2 := hid (K.out.trans k2)
      clear k2
      go_wp2_with fail
      refine (ends_any HE.out _).mono ?_
      rintro e v3 ⟨rfl, k3⟩
      have K3 := hid (K2.out.trans k3)
      clear k3 K2
      go_wp2_with fail
      refine (refends_any (HP.out.2) HE.out _).mono ?_
      rintro e v4 ⟨rfl, k4⟩
      have K4 := hid (K3.out.trans k4)
      clear k4 K3
      go_wp2_with fail
      go_ret
      exact ⟨rfl, K4.out⟩
end Go.Proofs.Ytnlehhmogdencaa
