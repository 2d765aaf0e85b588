/-
  Bits that are turned over one by one, within 32 in a row, of an image: plain facts (low_succ .. Burst.yes are CrcBursts' own). Nothing of Go is named here.
-/
import Derived.Test.YtomoiihckbdjdaaGreatDoorPMatb
namespace Go.Proofs.YtomoiihckbdjdaaGreatDoor

theorem low_succ (d j : Nat) : d % 2 ^ (j + 1) = (d % 2 ^ j) ^^^ (2 ^ j * (d / 2 ^ j % 2)) := by
  refine Nat.eq_of_testBit_eq fun i => ?_
  rw [Nat.testBit_xor, Nat.testBit_two_pow_mul, Nat.testBit_mod_two_pow, Nat.testBit_mod_two_pow, show (d / 2 ^ j % 2).testBit (i - j) = (d / 2 ^ j % 2 ^ 1).testBit (i - j) from rfl, Nat.testBit_mod_two_pow, Nat.testBit_div_two_pow]
  by_cases h1 : i < j
  · have h2 : ¬ i ≥ j := by omega
    have h3 : i < j + 1 := by omega
    simp [h1, h2, h3]
  · by_cases h2 : i = j
    · subst h2
      simp
    · have h3 : ¬ i < j + 1 := by omega
      have h4 : ¬ i - j < 1 := by omega
      simp [h1, h3, h4]
theorem half_succ (d j : Nat) : d / 2 ^ (j + 1) = d / 2 ^ j / 2 := by rw [Nat.pow_succ, Nat.div_div_eq_div_mul]

/-- What the loop keeps: the bytes so far, and whether any is another one. -/
def Burst (xs : List Int) (k d j : Nat) (zs : List Int) (ch : Bool) : Prop :=
  zs.length = xs.length ∧ Ntb zs = Ntb xs ^^^ (2 ^ k * (d % 2 ^ j)) ∧ (ch = true ↔ d % 2 ^ j ≠ 0)
theorem Burst.no {xs zs : List Int} {k d j : Nat} {ch : Bool} (h : Burst xs k d j zs ch) (hd : ¬ d / 2 ^ j % 2 = 1) : Burst xs k d (j + 1) zs ch := by
  have e : d % 2 ^ (j + 1) = d % 2 ^ j := by rw [low_succ, show d / 2 ^ j % 2 = 0 from by omega, Nat.mul_zero, Nat.xor_zero]
  unfold Burst
  rw [e]
  exact h
theorem Burst.yes {xs zs : List Int} {k d j : Nat} {ch : Bool} (h : Burst xs k d j zs ch) (hd : d / 2 ^ j % 2 = 1) (hj : k + j < 8 * xs.length) :
    Burst xs k d (j + 1) (zs.set ((k + j) / 8) (((zs.getD ((k + j) / 8) 0).toNat ^^^ 2 ^ ((k + j) % 8) : Nat) : Int)) true := by
  have e := low_succ d j
  rw [hd, Nat.mul_one] at e
  refine ⟨by rw [List.length_set]; exact h.1, ?_, by
    constructor
    · intro _ h0
      have hlt : d % 2 ^ j < 2 ^ j := Nat.mod_lt _ (Nat.two_pow_pos j)
      rw [h0] at e
      have := xor_zero_eq e.symm
      omega
    · intro _; rfl⟩
  rw [Nt_set zs _ _ (by rw [h.1]; omega), h.2.1, e, xor_mul, ← Nat.pow_add, ← Nat.pow_add, Nat.xor_assoc, show 8 * ((k + j) / 8) + (k + j) % 8 = k + j from by omega]
theorem Burst.unp {l : List Sn} {zs : List Int} {k d j : Nat} {ch : Bool} (h : Burst (image l) k d j zs ch) (hC : Can l) (hb : ∀ s ∈ l, Bs s.body) (hz : Bs zs) (hj : j ≤ 32) : (ch = true → (unp zs).1 ≠ 0) ∧ (ch = false → unp zs = (0, l)) := by
  have hlt : d % 2 ^ j < 2 ^ j := Nat.mod_lt _ (Nat.two_pow_pos j)
  have hle : 2 ^ j ≤ 2 ^ 32 := Nat.pow_le_pow_right (by decide) hj
  constructor
  · intro hc
    exact unp_burst hC hb hz (k := k) (d := d % 2 ^ j) (by omega) h.2.1 (h.2.2.1 hc)
  · rintro rfl
    have h0 : d % 2 ^ j = 0 := Classical.byContradiction fun hn => by
      have := h.2.2.2 hn
      cases this
    have hN := h.2.1
    rw [h0, Nat.mul_zero, Nat.xor_zero] at hN
    rw [Nt_inj zs (image l) h.1 hz (Bs.image hC hb) hN]
    exact unp_image hC
end Go.Proofs.YtomoiihckbdjdaaGreatDoor
