/-
  Plain facts: what differs within 32 bits in a row, in bytes with their check behind them. Nothing of Go is named here.
-/
import Derived.Test.YtgfkbkonelphaaaGreatDoorCrcMath
import Derived.Test.YtgfkbkonelphaaaGreatDoorNum
namespace Go.Proofs.YtgfkbkonelphaaaGreatDoor

/-- Within 32 bits in a row. -/
def Win (W : Nat) : Prop := ∃ k d, d < 4294967296 ∧ W = 2 ^ k * d
theorem Win.zero : Win 0 := ⟨0, 0, by omega, by simp⟩
theorem Win.mod {W : Nat} (h : Win W) (m : Nat) : Win (W % 2 ^ m) := by
  obtain ⟨k, d, hd, rfl⟩ := h
  by_cases hk : k ≤ m
  · obtain ⟨j, rfl⟩ : ∃ j, m = k + j := ⟨m - k, by omega⟩
    rw [Nat.pow_add, Nat.mul_mod_mul_left]
    exact ⟨k, d % 2 ^ j, Nat.lt_of_le_of_lt (Nat.mod_le _ _) hd, rfl⟩
  · obtain ⟨j, rfl⟩ : ∃ j, k = m + j := ⟨k - m, by omega⟩
    rw [Nat.pow_add, Nat.mul_assoc, Nat.mul_mod_right]
    exact Win.zero
theorem Win.div {W : Nat} (h : Win W) (m : Nat) : Win (W / 2 ^ m) := by
  obtain ⟨k, d, hd, rfl⟩ := h
  by_cases hk : m ≤ k
  · obtain ⟨j, rfl⟩ : ∃ j, k = m + j := ⟨k - m, by omega⟩
    rw [Nat.pow_add, Nat.mul_assoc, Nat.mul_div_cancel_left _ (Nat.two_pow_pos m)]
    exact ⟨j, d, hd, rfl⟩
  · obtain ⟨j, rfl⟩ : ∃ j, m = k + j := ⟨m - k, by omega⟩
    rw [Nat.pow_add, ← Nat.div_div_eq_div_mul, Nat.mul_div_cancel_left _ (Nat.two_pow_pos k)]
    exact ⟨0, d / 2 ^ j, Nat.lt_of_le_of_lt (Nat.div_le_self _ _) hd, by simp⟩
/-- A number of which the register makes nothing. -/
theorem Win.none {W n : Nat} (h : Win W) (h0 : stn n W = 0) : W % 2 ^ n = 0 := by
  obtain ⟨k, d, hd, rfl⟩ := h
  by_cases hk : k ≤ n
  · obtain ⟨j, rfl⟩ : ∃ j, n = k + j := ⟨n - k, by omega⟩
    rw [stn_late] at h0
    rw [stn_zero j hd h0]
    simp
  · obtain ⟨j, rfl⟩ : ∃ j, k = n + j := ⟨k - n, by omega⟩
    rw [Nat.pow_add, Nat.mul_assoc, Nat.mul_mod_right]

abbrev Bs (xs : List Int) : Prop := ∀ x ∈ xs, 0 ≤ x ∧ x ≤ 255
theorem Bs.app {xs ys : List Int} (hx : Bs xs) (hy : Bs ys) : Bs (xs ++ ys) := fun z hz => (List.mem_append.1 hz).elim (hx z) (hy z)
theorem Bs.left {xs ys : List Int} (h : Bs (xs ++ ys)) : Bs xs := fun z hz => h z (List.mem_append_left _ hz)
theorem Bs.right {xs ys : List Int} (h : Bs (xs ++ ys)) : Bs ys := fun z hz => h z (List.mem_append_right _ hz)
theorem Nt_mod {xs ys : List Int} (hx : Bs xs) : Nt (xs ++ ys) % 2 ^ (8 * xs.length) = Nt xs := by
  rw [Nt_app, Nat.xor_mod_two_pow, Nat.mul_mod_right, Nat.xor_zero, Nat.mod_eq_of_lt (Nt_lt xs hx)]
theorem Nt_div {xs ys : List Int} (hx : Bs xs) : Nt (xs ++ ys) / 2 ^ (8 * xs.length) = Nt ys := by
  rw [Nt_app, Nat.xor_div_two_pow, Nat.mul_div_cancel_left _ (Nat.two_pow_pos _), Nat.div_eq_of_lt (Nt_lt xs hx), Nat.zero_xor]
theorem win_left {xs ys xs' ys' : List Int} (hx : Bs xs) (hx' : Bs xs') (hl : xs'.length = xs.length) (h : Win (Nt (xs ++ ys) ^^^ Nt (xs' ++ ys'))) : Win (Nt xs ^^^ Nt xs') := by
  have := h.mod (8 * xs.length)
  rw [Nat.xor_mod_two_pow, Nt_mod hx, ← hl, Nt_mod hx'] at this
  exact this
theorem win_right {xs ys xs' ys' : List Int} (hx : Bs xs) (hx' : Bs xs') (hl : xs'.length = xs.length) (h : Win (Nt (xs ++ ys) ^^^ Nt (xs' ++ ys'))) : Win (Nt ys ^^^ Nt ys') := by
  have := h.div (8 * xs.length)
  rw [Nat.xor_div_two_pow, Nt_div hx, ← hl, Nt_div hx'] at this
  exact this
theorem ck_stn {xs ys : List Int} (hl : ys.length = xs.length) (hx : Bs xs) (hy : Bs ys) : ck ys = ck xs ^^^ stn (8 * xs.length) (Nt xs ^^^ Nt ys) := by
  have h1 : ck xs = 4294967295 ^^^ (stn (8 * xs.length) (ov 0) ^^^ stn (8 * xs.length) (Nt xs)) := by
    unfold ck more
    rw [ov_xor (reg_lt xs (ov_lt 0) hx), reg_eq, stn_xor]
  have h2 : ck ys = 4294967295 ^^^ (stn (8 * xs.length) (ov 0) ^^^ stn (8 * xs.length) (Nt ys)) := by
    unfold ck more
    rw [ov_xor (reg_lt ys (ov_lt 0) hy), reg_eq, stn_xor, hl]
  rw [h1, h2, stn_xor]
  generalize stn _ (Nt xs) = p
  generalize stn _ (Nt ys) = q
  generalize stn _ (ov 0) = o
  generalize 4294967295 = f
  rw [Nat.xor_assoc f, Nat.xor_assoc o, xor_self_left p q]
/-- Bytes within a window that have one check are the same. -/
theorem win_ck {xs ys : List Int} (hl : ys.length = xs.length) (hx : Bs xs) (hy : Bs ys) (hw : Win (Nt xs ^^^ Nt ys)) (hc : ck ys = ck xs) : xs = ys := by
  have e := ck_stn hl hx hy
  rw [hc] at e
  have h0 : stn (8 * xs.length) (Nt xs ^^^ Nt ys) = 0 := by
    have := xor_self_left (ck xs) (stn (8 * xs.length) (Nt xs ^^^ Nt ys))
    rw [← e, Nat.xor_self] at this
    exact this.symm
  have hm := hw.none h0
  rw [Nat.mod_eq_of_lt (Nat.xor_lt_two_pow (Nt_lt xs hx) (by rw [← hl]; exact Nt_lt ys hy))] at hm
  exact Nt_inj xs ys hl.symm hx hy (xor_zero_eq hm)

/-- A check as four bytes. -/
def ck4 (xs : List Int) : List Int := dg (ck xs : Nat) 4
theorem ck4_len (xs : List Int) : (ck4 xs).length = 4 := dg_len 4 _
theorem ck4_bs (xs : List Int) : Bs (ck4 xs) := dg_bytes 4 _
theorem Nt_dg (k : Nat) : ∀ n : Nat, Nt (dg (n : Int) k) = n % 256 ^ k := by
  induction k with
  | zero => intro n; simp [dg, Nt, Nat.mod_one]
  | succ k ih =>
    intro n
    have e1 : ((n : Int) % 256).toNat = n % 256 := by omega
    have e2 : (n : Int) / 256 = ((n / 256 : Nat) : Int) := by omega
    rw [dg, Nt, e1, e2, ih, Nat.pow_succ, Nat.mul_comm (256 ^ k) 256, Nat.mod_mul]
    have hlt : n % 256 < 2 ^ 8 := by omega
    have := Nat.two_pow_add_eq_or_of_lt hlt (n / 256 % 256 ^ k)
    rw [show (2 : Nat) ^ 8 = 256 from rfl] at this
    rw [Nat.add_comm (n % 256), this]
    refine Nat.eq_of_testBit_eq fun i => ?_
    rw [Nat.testBit_xor, Nat.testBit_or, show (256 : Nat) = 2 ^ 8 from rfl, Nat.testBit_two_pow_mul]
    by_cases hi : 8 ≤ i
    · have h0 : (n % 2 ^ 8).testBit i = false := by rw [Nat.testBit_mod_two_pow]; simp; omega
      rw [h0]
      simp
    · simp [hi]
theorem Nt_ck4 (xs : List Int) : Nt (ck4 xs) = ck xs := by
  unfold ck4
  rw [Nt_dg, Nat.mod_eq_of_lt (ck_lt xs)]
theorem ck4_inj {xs ys : List Int} (h : ck4 xs = ck4 ys) : ck xs = ck ys := by rw [← Nt_ck4, ← Nt_ck4, h]
/-- Bytes with their checks behind them, within a window, are the same. -/
theorem win_word {xs ys : List Int} (hl : ys.length = xs.length) (hx : Bs xs) (hy : Bs ys) (hw : Win (Nt (xs ++ ck4 xs) ^^^ Nt (ys ++ ck4 ys))) : xs = ys := by
  have e := ck_stn hl hx hy
  have hW : Nt (xs ++ ck4 xs) ^^^ Nt (ys ++ ck4 ys) = (Nt xs ^^^ Nt ys) ^^^ (2 ^ (8 * xs.length) * stn (8 * xs.length) (Nt xs ^^^ Nt ys)) := by
    rw [Nt_app, Nt_app, Nt_ck4, Nt_ck4, hl, xor_swap, ← xor_mul, e, xor_self_left]
  rw [hW] at hw
  have h0 : stn (8 * xs.length) ((Nt xs ^^^ Nt ys) ^^^ (2 ^ (8 * xs.length) * stn (8 * xs.length) (Nt xs ^^^ Nt ys))) = 0 := by
    rw [stn_xor, stn_pow, Nat.xor_self]
  have hm := hw.none h0
  rw [Nat.xor_mod_two_pow, Nat.mul_mod_right, Nat.xor_zero, Nat.mod_eq_of_lt (Nat.xor_lt_two_pow (Nt_lt xs hx) (by rw [← hl]; exact Nt_lt ys hy))] at hm
  exact Nt_inj xs ys hl.symm hx hy (xor_zero_eq hm)
end Go.Proofs.YtgfkbkonelphaaaGreatDoor
