/-
  Contracts: only, Has, With, Without, Up.
-/
import Derived.Test.YtoeeighfjoplhaaRows
import Derived.Test.YtoeeighfjoplhaaMaskMath
import Derived.IntWalk
import Derived.WalkMore
import Derived.Laws.Bits64b
import Derived.Laws.ShiftsVarLaws
namespace Go.Proofs.Ytoeeighfjoplhaa
open Go.RowKit

theorem wrapU (x : Int) : IntKind.u64.wrap x = x % 18446744073709551616 := by simp [IntKind.wrap, IntKind.bits, IntKind.signed]
theorem wrap_nat {s : Nat} (h : U64 s) : IntKind.u64.wrap (s : Int) = (s : Int) := by
  unfold U64 at h
  rw [wrapU]
  omega
theorem pow_onl (c : Int) (h : 0 ≤ c ∧ c < 64) : IntKind.u64.wrap (2 ^ c.toNat) = ((onl c : Nat) : Int) := by
  have h1 := wrap_nat (onl_U64 c)
  have h2 : ((onl c : Nat) : Int) = 2 ^ c.toNat := by
    unfold onl
    rw [if_pos h, Int.natCast_pow]
    rfl
  rw [h2] at h1 ⊢
  exact h1
theorem pow_up (k : Nat) (h : k ≤ 64) : IntKind.u64.wrap (IntKind.u64.wrap (2 ^ k) - 1) = ((2 ^ k - 1 : Nat) : Int) := by
  have h0 : 0 < 2 ^ k := Nat.two_pow_pos k
  have h1 : ((2 ^ k : Nat) : Int) = 2 ^ k := by rw [Int.natCast_pow]; rfl
  have h2 : 2 ^ k ≤ 2 ^ 64 := Nat.pow_le_pow_right (by decide) h
  have h3 : (2 ^ 64 : Nat) = 18446744073709551616 := rfl
  rw [← h1, wrapU, wrapU]
  omega
theorem and_bits {s t : Nat} (hs : U64 s) (ht : U64 t) : bits .and .u64 (s : Int) (t : Int) = ((s &&& t : Nat) : Int) := u64_and_nat s t hs ht
theorem or_bits {s t : Nat} (hs : U64 s) (ht : U64 t) : bits .or .u64 (s : Int) (t : Int) = ((s ||| t : Nat) : Int) := u64_or_nat s t hs ht
theorem not_bits {s t : Nat} (hs : U64 s) (ht : U64 t) : bits .andNot .u64 (s : Int) (t : Int) = ((s &&& (18446744073709551615 - t) : Nat) : Int) := u64_andNot_nat s t hs ht

/-- What an int holds. -/
def Im64 (c : Int) : Prop := -9223372036854775808 ≤ c ∧ c ≤ 9223372036854775807
theorem Im64.small {c : Int} (h : -1000 ≤ c ∧ c ≤ 1000) : Im64 c := by unfold Im64; omega

theorem only_any (c : Int) (w : World) :
    Calls Try.prog 38 #[.int .i64 c] w fun e w' => e = .returned (.int .u64 (onl c : Nat)) ∧ w = w' := by
  by_cases hc : 0 ≤ c ∧ c < 64
  · have hp := pow_onl c hc
    obtain ⟨ha, hb⟩ := hc
    go_enter Try.func38, Try.ntmps38
    go_wp2_with fail
    go_ret
    exact ⟨rfl, rfl⟩
  · have ho : onl c = 0 := by unfold onl; rw [if_neg hc]
    rw [ho]
    clear ho
    by_cases h0 : c < 0
    · clear hc
      go_enter Try.func38, Try.ntmps38
      go_wp2_with fail
      go_ret
      exact ⟨rfl, rfl⟩
    · have h1 : 64 ≤ c := by omega
      clear hc
      go_enter Try.func38, Try.ntmps38
      go_wp2_with fail
      go_ret
      exact ⟨rfl, rfl⟩

theorem has_any (s : Nat) (c : Int) (w : World) (hs : U64 s) :
    Calls Try.prog 27 #[.int .u64 (s : Int), .int .i64 c] w fun e w' => e = .returned (.bool (isIn s c)) ∧ w = w' := by
  have e1 := and_bits hs (onl_U64 c)
  have hn := and_onl s c
  obtain ⟨x, hx⟩ : ∃ x, s &&& onl c = x := ⟨_, rfl⟩
  rw [hx] at e1 hn
  have hb : ((x : Int) != 0) = isIn s c := by
    rw [← Bool.not_not (isIn s c), ← hn, bne]
    congr 1
    exact Bool.eq_iff_iff.2 (by rw [beq_iff_eq, beq_iff_eq]; omega)
  clear hx hn
  go_enter Try.func27, Try.ntmps27
  go_wp2_with fail
  refine (only_any c _).mono ?_
  rintro e w' ⟨rfl, rfl⟩
  go_wp2_with fail
  go_ret
  exact ⟨rfl, rfl⟩

theorem with_any (s : Nat) (c : Int) (w : World) (hs : U64 s) :
    Calls Try.prog 56 #[.int .u64 (s : Int), .int .i64 c] w fun e w' => e = .returned (.int .u64 (wth s c : Nat)) ∧ w = w' := by
  have e1 := or_bits hs (onl_U64 c)
  rw [show s ||| onl c = wth s c from rfl] at e1
  go_enter Try.func56, Try.ntmps56
  go_wp2_with fail
  refine (only_any c _).mono ?_
  rintro e w' ⟨rfl, rfl⟩
  go_wp2_with fail
  go_ret
  exact ⟨rfl, rfl⟩

theorem up_any (n : Int) (w : World) :
    Calls Try.prog 25 #[.int .i64 n] w fun e w' => e = .returned (.int .u64 (up n : Nat)) ∧ w = w' := by
  by_cases h0 : n < 0
  · have hu0 : up n = 0 := by unfold up hu; rw [show (min (max n 0) 64).toNat = 0 by omega]
    rw [hu0]
    clear hu0
    go_enter Try.func25, Try.ntmps25
    go_wp2_with fail
    go_ret
    exact ⟨rfl, rfl⟩
  · by_cases h1 : 64 < n
    · have hu0 : up n = 18446744073709551615 := by unfold up hu; rw [show (min (max n 0) 64).toNat = 64 by omega]
      have hp := pow_up 64 (by decide)
      have HP := hid hp
      rw [hu0]
      clear hu0 hp
      go_enter Try.func25, Try.ntmps25
      go_wp2_with fail
      go_ret
      exact ⟨congrArg (fun x => Ending.returned (Value.int .u64 x)) HP.out, rfl⟩
    · obtain ⟨k, rfl⟩ : ∃ k : Nat, n = (k : Int) := ⟨n.toNat, by omega⟩
      have hk : k ≤ 64 := by omega
      have hp := pow_up k hk
      have hu0 : 2 ^ k - 1 = up (k : Int) := by unfold up hu; rw [show (min (max (k : Int) 0) 64).toNat = k by omega]
      rw [hu0] at hp
      clear hu0 h0 h1
      go_enter Try.func25, Try.ntmps25
      go_wp2_with fail
      go_ret
      exact ⟨rfl, rfl⟩
end Go.Proofs.Ytoeeighfjoplhaa
