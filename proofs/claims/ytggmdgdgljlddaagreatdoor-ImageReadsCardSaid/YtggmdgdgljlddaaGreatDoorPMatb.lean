/-
  CrcMath PWin PMath PMatb: texts laid into one.
-/
import Derived.Test.YtggmdgdgljlddaaGreatDoorNum

/-
  Plain facts on the register of a check: nothing of Go is named here. A step halves a number of any size and, if it was odd, exclusive-ors it; so bytes that go in one by one are one number that goes in at once.
-/
namespace Go.Proofs.YtggmdgdgljlddaaGreatDoor

theorem xor_self_left (a b : Nat) : a ^^^ (a ^^^ b) = b := by rw [← Nat.xor_assoc, Nat.xor_self, Nat.zero_xor]
theorem xor_zero_eq {a b : Nat} (h : a ^^^ b = 0) : a = b := by
  have := xor_self_left a b
  rw [h, Nat.xor_zero] at this
  exact this
theorem xor_swap (a b c d : Nat) : (a ^^^ b) ^^^ (c ^^^ d) = (a ^^^ c) ^^^ (b ^^^ d) := by
  rw [Nat.xor_assoc, Nat.xor_assoc, ← Nat.xor_assoc b c d, Nat.xor_comm b c, Nat.xor_assoc c b d]

theorem xor_left (a b c : Nat) : a ^^^ (b ^^^ c) = b ^^^ (a ^^^ c) := by rw [← Nat.xor_assoc, Nat.xor_comm a b, Nat.xor_assoc]

/-- A step of the register. -/
def st (c : Nat) : Nat := (c / 2) ^^^ (if c % 2 = 1 then 3988292384 else 0)
theorem st_xor (a b : Nat) : st (a ^^^ b) = st a ^^^ st b := by
  unfold st
  rw [Nat.xor_div_two, xor_swap]
  congr 1
  have h := @Nat.xor_mod_two_eq_one a b
  by_cases ha : a % 2 = 1 <;> by_cases hb : b % 2 = 1 <;> simp [ha, hb, h]
theorem st_even (c : Nat) : st (2 * c) = c := by
  unfold st
  rw [if_neg (by omega), Nat.xor_zero]
  omega
theorem st_lt {c : Nat} (h : c < 4294967296) : st c < 4294967296 := by
  unfold st
  refine Nat.xor_lt_two_pow (n := 32) (by omega) ?_
  split <;> omega
theorem st_zero {c : Nat} (h : c < 4294967296) (h0 : st c = 0) : c = 0 := by
  unfold st at h0
  have := xor_zero_eq h0
  split at this <;> omega

/-- So many steps. -/
def stn : Nat → Nat → Nat
  | 0, c => c
  | k + 1, c => stn k (st c)
theorem stn_xor (k : Nat) : ∀ a b, stn k (a ^^^ b) = stn k a ^^^ stn k b := by
  induction k with
  | zero => intro a b; rfl
  | succ k ih => intro a b; simp only [stn, st_xor, ih]
theorem stn_add (j k : Nat) : ∀ c, stn (j + k) c = stn k (stn j c) := by
  induction j with
  | zero => intro c; simp [stn]
  | succ j ih => intro c; rw [show j + 1 + k = (j + k) + 1 from by omega]; simp only [stn, ih]
theorem stn_succ (k c : Nat) : stn (k + 1) c = st (stn k c) := by rw [stn_add]; rfl
theorem stn_pow (k : Nat) : ∀ c, stn k (2 ^ k * c) = c := by
  induction k with
  | zero => intro c; simp [stn]
  | succ k ih =>
    intro c
    rw [stn, show 2 ^ (k + 1) * c = 2 * (2 ^ k * c) from by rw [Nat.pow_succ, Nat.mul_comm (2 ^ k) 2, Nat.mul_assoc], st_even, ih]
theorem stn_lt (k : Nat) : ∀ {c : Nat}, c < 4294967296 → stn k c < 4294967296 := by
  induction k with
  | zero => intro c h; exact h
  | succ k ih => intro c h; exact ih (st_lt h)
theorem stn_at0 (k : Nat) : stn k 0 = 0 := by
  induction k with
  | zero => rfl
  | succ k ih => simpa [stn, st] using ih
theorem stn_zero (k : Nat) : ∀ {c : Nat}, c < 4294967296 → stn k c = 0 → c = 0 := by
  induction k with
  | zero => intro c _ h; exact h
  | succ k ih => intro c h h0; exact st_zero h (ih (st_lt h) h0)
/-- What lies higher comes later. -/
theorem stn_late (j k c : Nat) : stn (j + k) (2 ^ j * c) = stn k c := by rw [stn_add, stn_pow]

/-- What four bits make of a register. -/
def tb : Nat → Nat := fun i => [0, 498536548, 997073096, 651767980, 1994146192, 1802195444, 1303535960, 1342533948, 3988292384, 4027552580, 3604390888, 3412177804, 2607071920, 2262029012, 2685067896, 3183342108].getD i 0
theorem tb_lt (i : Nat) (h : i < 16) : tb i < 4294967296 := by
  have : ∀ i : Fin 16, tb i < 4294967296 := by decide +kernel
  exact this ⟨i, h⟩
theorem split4 (r : Nat) : r = (2 ^ 4 * (r / 2 ^ 4)) ^^^ (r % 2 ^ 4) := by
  refine Nat.eq_of_testBit_eq fun i => ?_
  rw [Nat.testBit_xor, Nat.testBit_two_pow_mul, Nat.testBit_div_two_pow, Nat.testBit_mod_two_pow]
  by_cases h : i < 4
  · have h' : ¬ (4 ≤ i) := by omega
    simp [h, h']
  · have h' : 4 ≤ i := by omega
    simp [h, h', Nat.sub_add_cancel h']
theorem st4 (r : Nat) : stn 4 r = (r / 16) ^^^ tb (r % 16) := by
  have e := split4 r
  have h := stn_xor 4 (2 ^ 4 * (r / 2 ^ 4)) (r % 2 ^ 4)
  rw [← e, stn_pow] at h
  have ht : ∀ i : Fin 16, stn 4 i = tb i := by decide +kernel
  have := ht ⟨r % 16, Nat.mod_lt _ (by decide)⟩
  simp only at this
  rw [h, show (2 : Nat) ^ 4 = 16 from rfl, this]

/-- A register into which a byte went. -/
def en (c b : Nat) : Nat := stn 8 (c ^^^ b)
theorem en_lt {c b : Nat} (h : c < 4294967296) (hb : b < 256) : en c b < 4294967296 := stn_lt 8 (Nat.xor_lt_two_pow (n := 32) h (by omega))
theorem en_tb (c b : Nat) : en c b = (((c ^^^ b) / 16 ^^^ tb ((c ^^^ b) % 16)) / 16) ^^^ tb (((c ^^^ b) / 16 ^^^ tb ((c ^^^ b) % 16)) % 16) := by
  unfold en
  rw [show 8 = 4 + 4 from rfl, stn_add, st4 (c ^^^ b), st4]

/-- A register into which bytes went. -/
def reg (c : Nat) (xs : List Int) : Nat := xs.foldl (fun c x => en c x.toNat) c
theorem reg_nil (c : Nat) : reg c [] = c := rfl
theorem reg_app (c : Nat) (xs ys : List Int) : reg c (xs ++ ys) = reg (reg c xs) ys := by unfold reg; rw [List.foldl_append]
theorem reg_snoc (c : Nat) (xs : List Int) (y : Int) : reg c (xs ++ [y]) = en (reg c xs) y.toNat := by rw [reg_app]; rfl
theorem reg_lt (xs : List Int) : ∀ {c : Nat}, c < 4294967296 → (∀ x ∈ xs, 0 ≤ x ∧ x ≤ 255) → reg c xs < 4294967296 := by
  induction xs with
  | nil => intro c h _; exact h
  | cons x r ih =>
    intro c h hx
    have := hx x (List.mem_cons_self ..)
    exact ih (c := en c x.toNat) (en_lt h (by omega)) fun y hy => hx y (List.mem_cons_of_mem _ hy)
/-- Bytes as one number, the first one lowest. -/
def Ntb : List Int → Nat
  | [] => 0
  | x :: r => x.toNat ^^^ (256 * Ntb r)
theorem reg_eq (xs : List Int) : ∀ c, reg c xs = stn (8 * xs.length) (c ^^^ Ntb xs) := by
  induction xs with
  | nil => intro c; simp [reg, Ntb, stn]
  | cons x r ih =>
    intro c
    show reg (en c x.toNat) r = _
    rw [ih, List.length_cons, show 8 * (r.length + 1) = 8 + 8 * r.length from by omega, stn_add, Ntb, ← Nat.xor_assoc, stn_xor 8 (c ^^^ x.toNat)]
    have h := stn_pow 8 (Ntb r)
    rw [show (2 : Nat) ^ 8 = 256 from rfl] at h
    rw [h]
    rfl
/-- Registers that differ by their bytes alone. -/
theorem reg_diff (c : Nat) (xs ys : List Int) (hl : ys.length = xs.length) : reg c ys = reg c xs ^^^ stn (8 * xs.length) (Ntb xs ^^^ Ntb ys) := by
  rw [reg_eq, reg_eq, hl, ← stn_xor]
  congr 1
  rw [Nat.xor_assoc, xor_self_left]

/-- Turned over. -/
def ov (c : Nat) : Nat := 4294967295 - c
theorem ov_lt (c : Nat) : ov c < 4294967296 := by unfold ov; omega
theorem ov_ov {c : Nat} (h : c < 4294967296) : ov (ov c) = c := by unfold ov; omega
theorem ov_xor {c : Nat} (h : c < 4294967296) : ov c = 4294967295 ^^^ c := by
  unfold ov
  refine Nat.eq_of_testBit_eq fun i => ?_
  rw [show 4294967295 - c = 2 ^ 32 - (c + 1) from by omega, Nat.testBit_two_pow_sub_succ (by omega), Nat.testBit_xor, show (4294967295 : Nat) = 2 ^ 32 - 1 from rfl, Nat.testBit_two_pow_sub_one]
  by_cases hi : i < 32
  · simp [hi]
  · have : c.testBit i = false := Nat.testBit_lt_two_pow (Nat.lt_of_lt_of_le (show c < 2 ^ 32 by omega) (Nat.pow_le_pow_right (by decide) (by omega)))
    simp [hi, this]
theorem ov_diff {a d : Nat} (ha : a < 4294967296) (hd : d < 4294967296) : ov (a ^^^ d) = ov a ^^^ d := by
  rw [ov_xor ha, ov_xor (Nat.xor_lt_two_pow (n := 32) ha hd), Nat.xor_assoc]

/-- The check of bytes, and one that goes on. -/
def more (c : Nat) (xs : List Int) : Nat := ov (reg (ov c) xs)
theorem more_lt (c : Nat) (xs : List Int) : more c xs < 4294967296 := ov_lt _
def ck (xs : List Int) : Nat := more 0 xs
theorem ck_lt (xs : List Int) : ck xs < 4294967296 := ov_lt _
theorem more_app (c : Nat) (xs ys : List Int) (hx : ∀ x ∈ xs, 0 ≤ x ∧ x ≤ 255) : more (more c xs) ys = more c (xs ++ ys) := by
  unfold more
  rw [ov_ov (reg_lt xs (ov_lt c) hx), reg_app]
theorem more_nil (c : Nat) (h : c < 4294967296) : more c [] = c := ov_ov h
theorem ck_diff (xs ys : List Int) (hl : ys.length = xs.length) (hx : ∀ x ∈ xs, 0 ≤ x ∧ x ≤ 255) (hd : stn (8 * xs.length) (Ntb xs ^^^ Ntb ys) < 4294967296) : ck ys = ck xs ^^^ stn (8 * xs.length) (Ntb xs ^^^ Ntb ys) := by
  unfold ck more
  rw [reg_diff _ xs ys hl, ov_diff (reg_lt xs (ov_lt 0) hx) hd]
/-- What differs, from a bit on, by less than 32 bits. -/
theorem ck_burst (xs ys : List Int) (k d : Nat) (hl : ys.length = xs.length) (hx : ∀ x ∈ xs, 0 ≤ x ∧ x ≤ 255) (hk : k ≤ 8 * xs.length) (hd : d < 4294967296) (h : Ntb ys = Ntb xs ^^^ (2 ^ k * d)) :
    ck ys = ck xs ^^^ stn (8 * xs.length - k) d := by
  have e : stn (8 * xs.length) (Ntb xs ^^^ Ntb ys) = stn (8 * xs.length - k) d := by
    rw [h, xor_self_left]
    obtain ⟨j, hj⟩ : ∃ j, 8 * xs.length = k + j := ⟨8 * xs.length - k, by omega⟩
    rw [hj, stn_late, show k + j - k = j from by omega]
  rw [ck_diff xs ys hl hx (by rw [e]; exact stn_lt _ hd), e]
theorem ck_burst_iff (xs ys : List Int) (k d : Nat) (hl : ys.length = xs.length) (hx : ∀ x ∈ xs, 0 ≤ x ∧ x ≤ 255) (hk : k ≤ 8 * xs.length) (hd : d < 4294967296) (h : Ntb ys = Ntb xs ^^^ (2 ^ k * d)) :
    ck ys = ck xs ↔ d = 0 := by
  rw [ck_burst xs ys k d hl hx hk hd h]
  constructor
  · intro e
    have : stn (8 * xs.length - k) d = 0 := by
      have := xor_self_left (ck xs) (stn (8 * xs.length - k) d)
      rw [e, Nat.xor_self] at this
      exact this.symm
    exact stn_zero _ hd this
  · rintro rfl
    rw [stn_at0, Nat.xor_zero]

/-- Bytes 0 that go in. -/
def zr : Nat → Nat → Nat
  | 0, c => c
  | k + 1, c => en (zr k c) 0
theorem zr_lt (k : Nat) {c : Nat} (h : c < 4294967296) : zr k c < 4294967296 := by
  induction k with
  | zero => exact h
  | succ k ih => exact en_lt ih (by decide)
theorem zr_succ (k : Nat) : ∀ c, zr k (en c 0) = zr (k + 1) c := by
  induction k with
  | zero => intro c; rfl
  | succ k ih => intro c; rw [zr, ih]; rfl
theorem zr_stn (k c : Nat) : zr k c = stn (8 * k) c := by
  induction k with
  | zero => rfl
  | succ k ih => rw [zr, ih, en, Nat.xor_zero, show 8 * (k + 1) = 8 * k + 8 from by omega, stn_add]

theorem xor_mul (k a b : Nat) : 2 ^ k * (a ^^^ b) = (2 ^ k * a) ^^^ (2 ^ k * b) := by
  refine Nat.eq_of_testBit_eq fun i => ?_
  rw [Nat.testBit_xor, Nat.testBit_two_pow_mul, Nat.testBit_two_pow_mul, Nat.testBit_two_pow_mul, Nat.testBit_xor]
  by_cases h : i ≥ k <;> simp [h]
theorem xor_mul256 (a b : Nat) : 256 * (a ^^^ b) = (256 * a) ^^^ (256 * b) := xor_mul 8 a b
/-- One byte is another one. -/
theorem Nt_set (xs : List Int) (d : Nat) : ∀ j, j < xs.length → Ntb (xs.set j (((xs.getD j 0).toNat ^^^ d : Nat) : Int)) = Ntb xs ^^^ (2 ^ (8 * j) * d) := by
  induction xs with
  | nil => intro j h; simp at h
  | cons x r ih =>
    intro j h
    rcases j with _ | j
    · simp only [List.set_cons_zero, Ntb, List.getD_cons_zero, Int.toNat_natCast, Nat.mul_zero, Nat.pow_zero, Nat.one_mul]
      rw [Nat.xor_assoc, Nat.xor_comm d, ← Nat.xor_assoc]
    · simp only [List.set_cons_succ, Ntb, List.getD_cons_succ]
      rw [ih j (by simpa using h), xor_mul256, ← Nat.xor_assoc, show 8 * (j + 1) = 8 + 8 * j from by omega, Nat.pow_add, Nat.mul_assoc]
theorem Nt_app (xs ys : List Int) : Ntb (xs ++ ys) = Ntb xs ^^^ (2 ^ (8 * xs.length) * Ntb ys) := by
  induction xs with
  | nil => simp [Ntb]
  | cons x r ih => rw [List.cons_append, Ntb, ih, Ntb, xor_mul256, ← Nat.xor_assoc, List.length_cons, show 8 * (r.length + 1) = 8 + 8 * r.length from by omega, Nat.pow_add, Nat.mul_assoc]
theorem Nt_lt (xs : List Int) (hx : ∀ x ∈ xs, 0 ≤ x ∧ x ≤ 255) : Ntb xs < 2 ^ (8 * xs.length) := by
  induction xs with
  | nil => simp [Ntb]
  | cons x r ih =>
    have h1 := ih fun y hy => hx y (List.mem_cons_of_mem _ hy)
    have h2 := hx x (List.mem_cons_self ..)
    rw [List.length_cons, show 8 * (r.length + 1) = 8 + 8 * r.length from by omega, Ntb]
    have h3 : (2 : Nat) ^ 8 ≤ 2 ^ (8 + 8 * r.length) := Nat.pow_le_pow_right (by decide) (by omega)
    refine Nat.xor_lt_two_pow (by omega) ?_
    rw [Nat.pow_add]
    omega
theorem Nt_inj (xs : List Int) : ∀ ys : List Int, xs.length = ys.length → (∀ x ∈ xs, 0 ≤ x ∧ x ≤ 255) → (∀ y ∈ ys, 0 ≤ y ∧ y ≤ 255) → Ntb xs = Ntb ys → xs = ys := by
  induction xs with
  | nil => intro ys hl _ _ _; exact (List.eq_nil_of_length_eq_zero hl.symm).symm
  | cons x r ih =>
    intro ys hl hx hy h
    rcases ys with _ | ⟨y, s⟩
    · simp at hl
    · have h1 := hx x (List.mem_cons_self ..)
      have h2 := hy y (List.mem_cons_self ..)
      simp only [Ntb] at h
      have e1 := congrArg (· % 2 ^ 8) h
      have e2 := congrArg (· / 2 ^ 8) h
      simp only [Nat.xor_mod_two_pow, Nat.xor_div_two_pow] at e1 e2
      rw [show (2 : Nat) ^ 8 = 256 from rfl, Nat.mul_mod_right, Nat.mul_mod_right, Nat.xor_zero, Nat.xor_zero, Nat.mod_eq_of_lt (by omega), Nat.mod_eq_of_lt (by omega)] at e1
      rw [show (2 : Nat) ^ 8 = 256 from rfl, Nat.mul_div_cancel_left _ (by decide), Nat.mul_div_cancel_left _ (by decide), Nat.div_eq_of_lt (by omega), Nat.div_eq_of_lt (by omega), Nat.zero_xor, Nat.zero_xor] at e2
      rw [ih s (by simpa using hl) (fun z hz => hx z (List.mem_cons_of_mem _ hz)) (fun z hz => hy z (List.mem_cons_of_mem _ hz)) e2, show x = y from by omega]
/-- Bytes that are exclusive-or'd, three and three. -/
def three (a b c : Int) : Int := ((a.toNat ^^^ b.toNat ^^^ c.toNat : Nat) : Int)
theorem Nt_three (as : List Int) : ∀ bs cs : List Int, bs.length = as.length → cs.length = as.length → ∀ xs : List Int, xs.length = as.length → (∀ j, j < as.length → xs.getD j 0 = three (as.getD j 0) (bs.getD j 0) (cs.getD j 0)) → Ntb xs = Ntb as ^^^ Ntb bs ^^^ Ntb cs := by
  induction as with
  | nil =>
    intro bs cs hb hc xs hx _
    have hb := List.eq_nil_of_length_eq_zero hb
    have hc := List.eq_nil_of_length_eq_zero hc
    have hx := List.eq_nil_of_length_eq_zero hx
    subst hb hc hx
    rfl
  | cons a as ih =>
    intro bs cs hb hc xs hx h
    rcases bs with _ | ⟨b, bs⟩
    · simp at hb
    · rcases cs with _ | ⟨c, cs⟩
      · simp at hc
      · rcases xs with _ | ⟨x, xs⟩
        · simp at hx
        · have h0 := h 0 (by simp)
          simp only [List.getD_cons_zero] at h0
          have hr := ih bs cs (by simpa using hb) (by simpa using hc) xs (by simpa using hx) fun j hj => by
            have := h (j + 1) (by simpa using hj)
            simpa only [List.getD_cons_succ] using this
          subst h0
          simp only [Ntb, hr, three, Int.toNat_natCast, xor_mul256]
          generalize a.toNat = a
          generalize b.toNat = b
          generalize c.toNat = c
          generalize 256 * Ntb as = p
          generalize 256 * Ntb bs = q
          generalize 256 * Ntb cs = r
          rw [xor_swap a p b q, xor_swap (a ^^^ b) (p ^^^ q) c r]
/-- Three texts of one length. -/
theorem ck_three (as bs cs xs : List Int) (hb : bs.length = as.length) (hc : cs.length = as.length) (hx : xs.length = as.length) (ba : ∀ x ∈ as, 0 ≤ x ∧ x ≤ 255) (bb : ∀ x ∈ bs, 0 ≤ x ∧ x ≤ 255) (bc : ∀ x ∈ cs, 0 ≤ x ∧ x ≤ 255)
    (h : ∀ j, j < as.length → xs.getD j 0 = three (as.getD j 0) (bs.getD j 0) (cs.getD j 0)) (bx : ∀ x ∈ xs, 0 ≤ x ∧ x ≤ 255) : ck xs = ck as ^^^ ck bs ^^^ ck cs := by
  have e := Nt_three as bs cs hb hc xs hx h
  unfold ck more
  rw [ov_xor (reg_lt xs (ov_lt 0) bx), ov_xor (reg_lt as (ov_lt 0) ba), ov_xor (reg_lt bs (ov_lt 0) bb), ov_xor (reg_lt cs (ov_lt 0) bc)]
  rw [reg_eq, reg_eq, reg_eq, reg_eq, hb, hc, hx, e]
  simp only [stn_xor]
  generalize stn _ (Ntb as) = p
  generalize stn _ (Ntb bs) = q
  generalize stn _ (Ntb cs) = r
  generalize stn _ (ov 0) = o
  generalize 4294967295 = f
  rw [xor_swap f (o ^^^ p) f (o ^^^ q), Nat.xor_self, Nat.zero_xor, xor_swap o p o q, Nat.xor_self, Nat.zero_xor]
  rw [xor_left (p ^^^ q) f (o ^^^ r), xor_left (p ^^^ q) o r]
end Go.Proofs.YtggmdgdgljlddaaGreatDoor

/-
  Plain facts: what differs within 32 bits in a row, in bytes with their check behind them. Nothing of Go is named here.
-/
namespace Go.Proofs.YtggmdgdgljlddaaGreatDoor

/-- Within 32 bits in a row. -/
def Win (W : Nat) : Prop := ∃ k d, d < 4294967296 ∧ W = 2 ^ k * d
theorem Win.zero : Win 0 := ⟨0, 0, by omega, by simp⟩
theorem Win.mod {W : Nat} (h : Win W) (m : Nat) : Win (W % 2 ^ m) := by
  obtain ⟨k, d, hd, rfl⟩ := h
  by_cases hk : k ≤ m
  · obtain ⟨j, rfl⟩ : ∃ j, m = k + j := ⟨m - k, by omega⟩
    rw [Nat.pow_add, Nat.mul_mod_mul_left]
    exact ⟨k, d % 2 ^ j, Nat.lt_of_le_of_lt (Nat.mod_le _ _) hd, rfl⟩
  · obtain ⟨j, rfl⟩ : ∃ j, k = m + j := ⟨k - m, by omega⟩
    rw [Nat.pow_add, Nat.mul_assoc, Nat.mul_mod_right]
    exact Win.zero
theorem Win.div {W : Nat} (h : Win W) (m : Nat) : Win (W / 2 ^ m) := by
  obtain ⟨k, d, hd, rfl⟩ := h
  by_cases hk : m ≤ k
  · obtain ⟨j, rfl⟩ : ∃ j, k = m + j := ⟨k - m, by omega⟩
    rw [Nat.pow_add, Nat.mul_assoc, Nat.mul_div_cancel_left _ (Nat.two_pow_pos m)]
    exact ⟨j, d, hd, rfl⟩
  · obtain ⟨j, rfl⟩ : ∃ j, m = k + j := ⟨m - k, by omega⟩
    rw [Nat.pow_add, ← Nat.div_div_eq_div_mul, Nat.mul_div_cancel_left _ (Nat.two_pow_pos k)]
    exact ⟨0, d / 2 ^ j, Nat.lt_of_le_of_lt (Nat.div_le_self _ _) hd, by simp⟩
/-- A number of which the register makes nothing. -/
theorem Win.none {W n : Nat} (h : Win W) (h0 : stn n W = 0) : W % 2 ^ n = 0 := by
  obtain ⟨k, d, hd, rfl⟩ := h
  by_cases hk : k ≤ n
  · obtain ⟨j, rfl⟩ : ∃ j, n = k + j := ⟨n - k, by omega⟩
    rw [stn_late] at h0
    rw [stn_zero j hd h0]
    simp
  · obtain ⟨j, rfl⟩ : ∃ j, k = n + j := ⟨k - n, by omega⟩
    rw [Nat.pow_add, Nat.mul_assoc, Nat.mul_mod_right]

abbrev Bs (xs : List Int) : Prop := ∀ x ∈ xs, 0 ≤ x ∧ x ≤ 255
theorem Bs.app {xs ys : List Int} (hx : Bs xs) (hy : Bs ys) : Bs (xs ++ ys) := fun z hz => (List.mem_append.1 hz).elim (hx z) (hy z)
theorem Bs.left {xs ys : List Int} (h : Bs (xs ++ ys)) : Bs xs := fun z hz => h z (List.mem_append_left _ hz)
theorem Bs.right {xs ys : List Int} (h : Bs (xs ++ ys)) : Bs ys := fun z hz => h z (List.mem_append_right _ hz)
theorem Nt_mod {xs ys : List Int} (hx : Bs xs) : Ntb (xs ++ ys) % 2 ^ (8 * xs.length) = Ntb xs := by
  rw [Nt_app, Nat.xor_mod_two_pow, Nat.mul_mod_right, Nat.xor_zero, Nat.mod_eq_of_lt (Nt_lt xs hx)]
theorem Nt_div {xs ys : List Int} (hx : Bs xs) : Ntb (xs ++ ys) / 2 ^ (8 * xs.length) = Ntb ys := by
  rw [Nt_app, Nat.xor_div_two_pow, Nat.mul_div_cancel_left _ (Nat.two_pow_pos _), Nat.div_eq_of_lt (Nt_lt xs hx), Nat.zero_xor]
theorem win_left {xs ys xs' ys' : List Int} (hx : Bs xs) (hx' : Bs xs') (hl : xs'.length = xs.length) (h : Win (Ntb (xs ++ ys) ^^^ Ntb (xs' ++ ys'))) : Win (Ntb xs ^^^ Ntb xs') := by
  have := h.mod (8 * xs.length)
  rw [Nat.xor_mod_two_pow, Nt_mod hx, ← hl, Nt_mod hx'] at this
  exact this
theorem win_right {xs ys xs' ys' : List Int} (hx : Bs xs) (hx' : Bs xs') (hl : xs'.length = xs.length) (h : Win (Ntb (xs ++ ys) ^^^ Ntb (xs' ++ ys'))) : Win (Ntb ys ^^^ Ntb ys') := by
  have := h.div (8 * xs.length)
  rw [Nat.xor_div_two_pow, Nt_div hx, ← hl, Nt_div hx'] at this
  exact this
theorem ck_stn {xs ys : List Int} (hl : ys.length = xs.length) (hx : Bs xs) (hy : Bs ys) : ck ys = ck xs ^^^ stn (8 * xs.length) (Ntb xs ^^^ Ntb ys) := by
  have h1 : ck xs = 4294967295 ^^^ (stn (8 * xs.length) (ov 0) ^^^ stn (8 * xs.length) (Ntb xs)) := by
    unfold ck more
    rw [ov_xor (reg_lt xs (ov_lt 0) hx), reg_eq, stn_xor]
  have h2 : ck ys = 4294967295 ^^^ (stn (8 * xs.length) (ov 0) ^^^ stn (8 * xs.length) (Ntb ys)) := by
    unfold ck more
    rw [ov_xor (reg_lt ys (ov_lt 0) hy), reg_eq, stn_xor, hl]
  rw [h1, h2, stn_xor]
  generalize stn _ (Ntb xs) = p
  generalize stn _ (Ntb ys) = q
  generalize stn _ (ov 0) = o
  generalize 4294967295 = f
  rw [Nat.xor_assoc f, Nat.xor_assoc o, xor_self_left p q]
/-- Bytes within a window that have one check are the same. -/
theorem win_ck {xs ys : List Int} (hl : ys.length = xs.length) (hx : Bs xs) (hy : Bs ys) (hw : Win (Ntb xs ^^^ Ntb ys)) (hc : ck ys = ck xs) : xs = ys := by
  have e := ck_stn hl hx hy
  rw [hc] at e
  have h0 : stn (8 * xs.length) (Ntb xs ^^^ Ntb ys) = 0 := by
    have := xor_self_left (ck xs) (stn (8 * xs.length) (Ntb xs ^^^ Ntb ys))
    rw [← e, Nat.xor_self] at this
    exact this.symm
  have hm := hw.none h0
  rw [Nat.mod_eq_of_lt (Nat.xor_lt_two_pow (Nt_lt xs hx) (by rw [← hl]; exact Nt_lt ys hy))] at hm
  exact Nt_inj xs ys hl.symm hx hy (xor_zero_eq hm)

/-- A check as four bytes. -/
def ck4 (xs : List Int) : List Int := dg (ck xs : Nat) 4
theorem ck4_len (xs : List Int) : (ck4 xs).length = 4 := dg_len 4 _
theorem ck4_bs (xs : List Int) : Bs (ck4 xs) := dg_bytes 4 _
theorem Nt_dg (k : Nat) : ∀ n : Nat, Ntb (dg (n : Int) k) = n % 256 ^ k := by
  induction k with
  | zero => intro n; simp [dg, Ntb, Nat.mod_one]
  | succ k ih =>
    intro n
    have e1 : ((n : Int) % 256).toNat = n % 256 := by omega
    have e2 : (n : Int) / 256 = ((n / 256 : Nat) : Int) := by omega
    rw [dg, Ntb, e1, e2, ih, Nat.pow_succ, Nat.mul_comm (256 ^ k) 256, Nat.mod_mul]
    have hlt : n % 256 < 2 ^ 8 := by omega
    have := Nat.two_pow_add_eq_or_of_lt hlt (n / 256 % 256 ^ k)
    rw [show (2 : Nat) ^ 8 = 256 from rfl] at this
    rw [Nat.add_comm (n % 256), this]
    refine Nat.eq_of_testBit_eq fun i => ?_
    rw [Nat.testBit_xor, Nat.testBit_or, show (256 : Nat) = 2 ^ 8 from rfl, Nat.testBit_two_pow_mul]
    by_cases hi : 8 ≤ i
    · have h0 : (n % 2 ^ 8).testBit i = false := by rw [Nat.testBit_mod_two_pow]; simp; omega
      rw [h0]
      simp
    · simp [hi]
theorem Nt_ck4 (xs : List Int) : Ntb (ck4 xs) = ck xs := by
  unfold ck4
  rw [Nt_dg, Nat.mod_eq_of_lt (ck_lt xs)]
theorem ck4_inj {xs ys : List Int} (h : ck4 xs = ck4 ys) : ck xs = ck ys := by rw [← Nt_ck4, ← Nt_ck4, h]
/-- Bytes with their checks behind them, within a window, are the same. -/
theorem win_word {xs ys : List Int} (hl : ys.length = xs.length) (hx : Bs xs) (hy : Bs ys) (hw : Win (Ntb (xs ++ ck4 xs) ^^^ Ntb (ys ++ ck4 ys))) : xs = ys := by
  have e := ck_stn hl hx hy
  have hW : Ntb (xs ++ ck4 xs) ^^^ Ntb (ys ++ ck4 ys) = (Ntb xs ^^^ Ntb ys) ^^^ (2 ^ (8 * xs.length) * stn (8 * xs.length) (Ntb xs ^^^ Ntb ys)) := by
    rw [Nt_app, Nt_app, Nt_ck4, Nt_ck4, hl, xor_swap, ← xor_mul, e, xor_self_left]
  rw [hW] at hw
  have h0 : stn (8 * xs.length) ((Ntb xs ^^^ Ntb ys) ^^^ (2 ^ (8 * xs.length) * stn (8 * xs.length) (Ntb xs ^^^ Ntb ys))) = 0 := by
    rw [stn_xor, stn_pow, Nat.xor_self]
  have hm := hw.none h0
  rw [Nat.xor_mod_two_pow, Nat.mul_mod_right, Nat.xor_zero, Nat.mod_eq_of_lt (Nat.xor_lt_two_pow (Nt_lt xs hx) (by rw [← hl]; exact Nt_lt ys hy))] at hm
  exact Nt_inj xs ys hl.symm hx hy (xor_zero_eq hm)
end Go.Proofs.YtggmdgdgljlddaaGreatDoor

/-
  Plain facts: the image of sections, and what any bytes are read as. Nothing of Go is named here.
-/
namespace Go.Proofs.YtggmdgdgljlddaaGreatDoor

/-- A section. -/
structure Sn where
  kind : Int
  body : List Int
instance decSn (a b : Sn) : Decidable (a = b) := decidable_of_iff (a.kind = b.kind ∧ a.body = b.body) ⟨fun h => by
  cases a
  cases b
  simp only at h
  rw [h.1, h.2], fun h => by rw [h]; exact ⟨rfl, rfl⟩⟩
/-- What is wrong with sections: more than 16; a kind; a body. -/
def risen : Int → List Sn → Bool
  | _, [] => true
  | last, s :: l => decide (1 ≤ s.kind) && decide (s.kind ≤ 255) && decide (last < s.kind) && risen s.kind l
def wrong (l : List Sn) : Int := if 16 < l.length then 7 else if risen 0 l = false then 21 else if l.all (fun s => decide (s.body.length ≤ 65535)) = false then 22 else 0

def hdr (n : Nat) : List Int := [68, 80, 90, 49, (n : Int)]
/-- A section's place in the table. -/
def ent (s : Sn) : List Int := s.kind :: (dg (s.body.length : Int) 2 ++ ck4 s.body)
def tabl (l : List Sn) : List Int := l.flatMap ent
def front (l : List Sn) : List Int := hdr l.length ++ ck4 (hdr l.length) ++ tabl l
def bods (l : List Sn) : List Int := l.flatMap Sn.body
def image (l : List Sn) : List Int := front l ++ ck4 (front l) ++ bods l

theorem ent_len (s : Sn) : (ent s).length = 7 := by simp [ent, dg_len, ck4_len]
theorem tabl_len (l : List Sn) : (tabl l).length = 7 * l.length := by
  induction l with
  | nil => rfl
  | cons s l ih => rw [tabl, List.flatMap_cons, List.length_append, ent_len, ← tabl, ih, List.length_cons]; omega
theorem front_len (l : List Sn) : (front l).length = 9 + 7 * l.length := by
  unfold front
  rw [List.length_append, List.length_append, tabl_len, ck4_len]
  rfl
theorem bods_len (l : List Sn) : (bods l).length = (l.map fun s => s.body.length).sum := by
  induction l with
  | nil => rfl
  | cons s l ih => rw [bods, List.flatMap_cons, List.length_append, ← bods, ih]; simp
theorem image_len (l : List Sn) : (image l).length = 13 + 7 * l.length + (l.map fun s => s.body.length).sum := by
  unfold image
  rw [List.length_append, List.length_append, front_len, ck4_len, bods_len]
  omega

/-- A place in the table, read: a kind, how long, a check. -/
structure En where
  k : Int
  n : Nat
  c : List Int
def enOf (s : Sn) : En := ⟨s.kind, s.body.length, ck4 s.body⟩
def entAt (b : List Int) (i : Nat) : En := ⟨b.getD (9 + 7 * i) 0, (b.getD (10 + 7 * i) 0 + 256 * b.getD (11 + 7 * i) 0).toNat, (b.drop (12 + 7 * i)).take 4⟩
def ents (b : List Int) (many : Nat) : List En := (List.range many).map (entAt b)
def kinds : Int → List En → Bool
  | _, [] => true
  | last, e :: l => decide (last < e.k) && kinds e.k l
def total (l : List En) : Nat := (l.map En.n).sum
/-- The bodies, read by the table: none, if a check is another one. -/
def bodU : List En → List Int → Option (List Sn)
  | [], _ => some []
  | e :: l, r => if ck4 (r.take e.n) = e.c then (bodU l (r.drop e.n)).map fun m => ⟨e.k, r.take e.n⟩ :: m else none
/-- What bytes are read as. -/
def unp (b : List Int) : Int × List Sn :=
  if b.length < 9 then (2, []) else
  if b.take 4 ≠ [68, 80, 90, 49] then (20, []) else
  if (b.drop 5).take 4 ≠ ck4 (b.take 5) then (4, []) else
  if 16 < b.getD 4 0 then (7, []) else
  let m := (b.getD 4 0).toNat
  if b.length < 13 + 7 * m then (2, []) else
  if (b.drop (9 + 7 * m)).take 4 ≠ ck4 (b.take (9 + 7 * m)) then (4, []) else
  if kinds 0 (ents b m) = false then (21, []) else
  if b.length - (13 + 7 * m) < total (ents b m) then (2, []) else
  if total (ents b m) < b.length - (13 + 7 * m) then (3, []) else
  match bodU (ents b m) (b.drop (13 + 7 * m)) with
  | none => (4, [])
  | some l => (0, l)

structure Can (l : List Sn) : Prop where
  len : l.length ≤ 16
  rise : risen 0 l = true
  long : ∀ s ∈ l, s.body.length ≤ 65535
theorem can_iff (l : List Sn) : wrong l = 0 ↔ Can l := by
  unfold wrong
  constructor
  · intro h
    by_cases h1 : 16 < l.length
    · rw [if_pos h1] at h; omega
    · rw [if_neg h1] at h
      by_cases h2 : risen 0 l = false
      · rw [if_pos h2] at h; omega
      · rw [if_neg h2] at h
        by_cases h3 : l.all (fun s => decide (s.body.length ≤ 65535)) = false
        · rw [if_pos h3] at h; omega
        · refine ⟨by omega, by simpa using h2, fun s hs => ?_⟩
          have h3 : l.all (fun s => decide (s.body.length ≤ 65535)) = true := by simpa using h3
          exact of_decide_eq_true (List.all_eq_true.1 h3 s hs)
  · rintro ⟨h1, h2, h3⟩
    rw [if_neg (by omega), if_neg (by simp [h2]), if_neg]
    have : l.all (fun s => decide (s.body.length ≤ 65535)) = true := List.all_eq_true.2 fun s hs => decide_eq_true (h3 s hs)
    simp [this]
theorem risen_kinds {l : List Sn} : ∀ {last : Int}, risen last l = true → kinds last (l.map enOf) = true := by
  induction l with
  | nil => intro _ _; rfl
  | cons s l ih =>
    intro last h
    simp only [risen, Bool.and_eq_true] at h
    simp only [List.map_cons, kinds, Bool.and_eq_true]
    exact ⟨h.1.2, ih h.2⟩
theorem risen_rg {l : List Sn} : ∀ {last : Int}, risen last l = true → ∀ s ∈ l, 1 ≤ s.kind ∧ s.kind ≤ 255 := by
  induction l with
  | nil => intro _ _ s hs; cases hs
  | cons a l ih =>
    intro last h s hs
    simp only [risen, Bool.and_eq_true, decide_eq_true_eq] at h
    rcases List.mem_cons.1 hs with rfl | hs
    · exact h.1.1
    · exact ih h.2 s hs
theorem kinds_risen {l : List Sn} : ∀ {last : Int}, 0 ≤ last → kinds last (l.map enOf) = true → (∀ s ∈ l, s.kind ≤ 255) → risen last l = true := by
  induction l with
  | nil => intro _ _ _ _; rfl
  | cons s l ih =>
    intro last h0 h hk
    simp only [List.map_cons, kinds, Bool.and_eq_true, decide_eq_true_eq, enOf] at h
    simp only [risen, Bool.and_eq_true, decide_eq_true_eq]
    have := hk s (List.mem_cons_self ..)
    exact ⟨⟨⟨by omega, this⟩, h.1⟩, ih (by omega) h.2 fun x hx => hk x (List.mem_cons_of_mem _ hx)⟩

/-- The table, place by place. -/
theorem tabl_drop (l : List Sn) : ∀ i, (tabl l).drop (7 * i) = tabl (l.drop i) := by
  induction l with
  | nil => intro i; simp [tabl]
  | cons s l ih =>
    intro i
    cases i with
    | zero => rfl
    | succ i =>
      rw [tabl, List.flatMap_cons, show 7 * (i + 1) = (ent s).length + 7 * i by rw [ent_len]; omega, ← List.drop_drop, List.drop_left, List.drop_succ_cons]
      exact ih i
theorem two_bytes {n : Nat} (h : n ≤ 65535) : dg (n : Int) 2 = [((n % 256 : Nat) : Int), ((n / 256 : Nat) : Int)] := by
  simp only [dg, List.cons.injEq, and_true]
  omega
/-- Bytes that begin with an image's front. -/
theorem ents_front {l : List Sn} (h : ∀ s ∈ l, s.body.length ≤ 65535) (r : List Int) : ents (front l ++ r) l.length = l.map enOf := by
  refine List.ext_getElem (by simp [ents]) fun i h1 h2 => ?_
  have hi : i < l.length := by simpa using h2
  simp only [ents, List.getElem_map, List.getElem_range]
  have hd : (front l ++ r).drop (9 + 7 * i) = ent l[i] ++ (tabl (l.drop (i + 1)) ++ r) := by
    have e1 : front l ++ r = (hdr l.length ++ ck4 (hdr l.length)) ++ (tabl l ++ r) := by unfold front; rw [List.append_assoc]
    have e2 : (hdr l.length ++ ck4 (hdr l.length)).length = 9 := by rw [List.length_append, ck4_len]; rfl
    have e3 : tabl (l.drop i) = ent l[i] ++ tabl (l.drop (i + 1)) := by rw [List.drop_eq_getElem_cons hi]; rfl
    rw [e1, ← e2, ← List.drop_drop, List.drop_left, List.drop_append_of_le_length (by rw [tabl_len]; omega), tabl_drop, e3, List.append_assoc]
  have hat : ∀ j, (front l ++ r).getD (9 + 7 * i + j) 0 = (ent l[i] ++ (tabl (l.drop (i + 1)) ++ r)).getD j 0 := fun j => by
    rw [← hd, List.getD_eq_getElem?_getD, List.getD_eq_getElem?_getD, List.getElem?_drop]
  have hb := h l[i] (List.getElem_mem hi)
  have e0 := hat 0
  have e1 := hat 1
  have e2 := hat 2
  simp only [ent, two_bytes hb] at e0 e1 e2
  simp at e0 e1 e2
  have e3 : ((front l ++ r).drop (12 + 7 * i)).take 4 = ck4 l[i].body := by
    rw [show 12 + 7 * i = (9 + 7 * i) + 3 by omega, ← List.drop_drop, hd]
    simp only [ent, two_bytes hb, List.cons_append, List.nil_append, List.drop_succ_cons, List.drop_zero]
    rw [List.take_append_of_le_length (by rw [ck4_len]; omega), List.take_of_length_le (by rw [ck4_len]; omega)]
  unfold entAt enOf
  rw [e3, show 10 + 7 * i = 9 + 7 * i + 1 by omega, show 11 + 7 * i = 9 + 7 * i + 2 by omega]
  simp only [En.mk.injEq, List.getD_eq_getElem?_getD, and_true]
  refine ⟨by simpa using e0, ?_⟩
  rw [e1, e2]
  omega
theorem total_en (l : List Sn) : total (l.map enOf) = (bods l).length := by
  rw [bods_len, total, List.map_map]
  rfl
theorem bodU_bods (l : List Sn) (r : List Int) : bodU (l.map enOf) (bods l ++ r) = some l := by
  induction l with
  | nil => rfl
  | cons s l ih =>
    have e : bods (s :: l) ++ r = s.body ++ (bods l ++ r) := by rw [bods, List.flatMap_cons, List.append_assoc]; rfl
    have e1 : (s.body ++ (bods l ++ r)).take (enOf s).n = s.body := List.take_left
    have e2 : (s.body ++ (bods l ++ r)).drop (enOf s).n = bods l ++ r := List.drop_left
    rw [List.map_cons, e, bodU, e1, e2, if_pos (show ck4 s.body = (enOf s).c from rfl), ih]
    rfl
/-- What begins with a front and its check. -/
theorem unp_front {l : List Sn} (h : Can l) (r : List Int) : unp (front l ++ ck4 (front l) ++ r) =
    (if r.length < (bods l).length then (2, []) else if (bods l).length < r.length then (3, []) else match bodU (l.map enOf) r with | none => (4, []) | some k => (0, k) : Int × List Sn) := by
  have hlen : (front l ++ ck4 (front l) ++ r).length = 13 + 7 * l.length + r.length := by
    rw [List.length_append, List.length_append, front_len, ck4_len]
    omega
  have hf : front l ++ ck4 (front l) ++ r = hdr l.length ++ (ck4 (hdr l.length) ++ (tabl l ++ (ck4 (front l) ++ r))) := by
    simp [front]
  have t4 : (front l ++ ck4 (front l) ++ r).take 4 = [68, 80, 90, 49] := by rw [hf]; rfl
  have t5 : (front l ++ ck4 (front l) ++ r).take 5 = hdr l.length := by rw [hf]; rfl
  have d5 : ((front l ++ ck4 (front l) ++ r).drop 5).take 4 = ck4 (hdr l.length) := by
    rw [hf, show (5 : Nat) = (hdr l.length).length from rfl, List.drop_left, List.take_append_of_le_length (by rw [ck4_len]; omega), List.take_of_length_le (by rw [ck4_len]; omega)]
  have g4 : (front l ++ ck4 (front l) ++ r).getD 4 0 = (l.length : Int) := by rw [hf]; rfl
  have te : (front l ++ ck4 (front l) ++ r).take (9 + 7 * l.length) = front l := by rw [← front_len, List.append_assoc, List.take_left]
  have de : ((front l ++ ck4 (front l) ++ r).drop (9 + 7 * l.length)).take 4 = ck4 (front l) := by
    rw [← front_len, List.append_assoc, List.drop_left, List.take_append_of_le_length (by rw [ck4_len]; omega), List.take_of_length_le (by rw [ck4_len]; omega)]
  have dr : (front l ++ ck4 (front l) ++ r).drop (13 + 7 * l.length) = r := by
    have : 13 + 7 * l.length = (front l ++ ck4 (front l)).length := by rw [List.length_append, front_len, ck4_len]; omega
    rw [this, List.drop_left]
  have en := ents_front h.long (ck4 (front l) ++ r)
  rw [← List.append_assoc] at en
  unfold unp
  simp only [hlen, t4, t5, d5, g4, Int.toNat_natCast, te, de, dr, en, total_en, risen_kinds h.rise]
  have hn := h.len
  rw [if_neg (by omega), if_neg (by simp), if_neg (by simp), if_neg (by omega), if_neg (by omega), if_neg (by simp), if_neg (by simp), show 13 + 7 * l.length + r.length - (13 + 7 * l.length) = r.length by omega]
/-- What was packed is unpacked. -/
theorem unp_image {l : List Sn} (h : Can l) : unp (image l) = (0, l) := by
  unfold image
  rw [unp_front h, if_neg (Nat.lt_irrefl _), if_neg (Nat.lt_irrefl _)]
  have := bodU_bods l []
  rw [List.append_nil] at this
  rw [this]
/-- More behind it. -/
theorem unp_tail {l : List Sn} (h : Can l) {r : List Int} (hr : 0 < r.length) : unp (image l ++ r) = (3, []) := by
  have : image l ++ r = front l ++ ck4 (front l) ++ (bods l ++ r) := by unfold image; rw [List.append_assoc]
  rw [this, unp_front h, List.length_append, if_neg (by omega), if_pos (by omega)]
/-- Cut off. -/
theorem unp_cut {l : List Sn} (h : Can l) {c : Nat} (hc : c < (image l).length) : unp ((image l).take c) = (2, []) := by
  have hlen : ((image l).take c).length = c := by rw [List.length_take]; omega
  by_cases h1 : 13 + 7 * l.length ≤ c
  · have e : (image l).take c = front l ++ ck4 (front l) ++ (bods l).take (c - (13 + 7 * l.length)) := by
      unfold image
      have : (front l ++ ck4 (front l)).length = 13 + 7 * l.length := by rw [List.length_append, front_len, ck4_len]; omega
      rw [List.take_append, this, List.take_of_length_le (by rw [this]; exact h1)]
    have hb : (image l).length = 13 + 7 * l.length + (bods l).length := by rw [image_len, bods_len]
    rw [e, unp_front h, List.length_take, if_pos (by omega)]
  · by_cases h9 : c < 9
    · unfold unp
      rw [if_pos (by rw [hlen]; exact h9)]
    · have hf : image l = hdr l.length ++ (ck4 (hdr l.length) ++ (tabl l ++ (ck4 (front l) ++ bods l))) := by simp [image, front]
      have e9 : (image l).take 9 = hdr l.length ++ ck4 (hdr l.length) := by
        rw [hf, ← List.append_assoc, show (9 : Nat) = (hdr l.length ++ ck4 (hdr l.length)).length by rw [List.length_append, ck4_len]; rfl, List.take_left]
      have tt : ∀ j, j ≤ 9 → ((image l).take c).take j = (hdr l.length ++ ck4 (hdr l.length)).take j := fun j hj => by
        rw [← e9, List.take_take, List.take_take, Nat.min_eq_left (by omega), Nat.min_eq_left hj]
      have t4 : ((image l).take c).take 4 = [68, 80, 90, 49] := by rw [tt 4 (by omega)]; rfl
      have t5 : ((image l).take c).take 5 = hdr l.length := by rw [tt 5 (by omega)]; rfl
      have d5 : (((image l).take c).drop 5).take 4 = ck4 (hdr l.length) := by
        have : (((image l).take c).drop 5).take 4 = (((image l).take c).take 9).drop 5 := by rw [List.take_drop]
        rw [this, tt 9 (Nat.le_refl _), show (hdr l.length ++ ck4 (hdr l.length)).take 9 = hdr l.length ++ ck4 (hdr l.length) from List.take_of_length_le (by rw [List.length_append, ck4_len]; exact Nat.le_refl 9), show (5 : Nat) = (hdr l.length).length from rfl, List.drop_left]
      have g4 : ((image l).take c).getD 4 0 = (l.length : Int) := by
        have := congrArg (fun x : List Int => x.getD 4 0) t5
        simp only [List.getD_eq_getElem?_getD, List.getElem?_take_of_lt (show 4 < 5 by omega)] at this
        rw [List.getD_eq_getElem?_getD, this]
        rfl
      unfold unp
      simp only [hlen, t4, t5, d5, g4, Int.toNat_natCast]
      have hn := h.len
      rw [if_neg h9, if_neg (by simp), if_neg (by simp), if_neg (by omega), if_pos (by omega)]
end Go.Proofs.YtggmdgdgljlddaaGreatDoor

/-
  Plain facts: what is unpacked, packed, is the same bytes; what differs within 32 bits isn't unpacked. Nothing of Go is named here.
-/
namespace Go.Proofs.YtggmdgdgljlddaaGreatDoor

theorem bodU_inv {es : List En} : ∀ {r : List Int} {l : List Sn}, bodU es r = some l → total es = r.length → bods l = r ∧ l.map enOf = es := by
  induction es with
  | nil =>
    intro r l h ht
    have : r = [] := List.eq_nil_of_length_eq_zero (by simpa [total] using ht.symm)
    subst this
    cases h
    exact ⟨rfl, rfl⟩
  | cons e es ih =>
    intro r l h ht
    have ht : e.n + total es = r.length := by simpa [total] using ht
    unfold bodU at h
    by_cases hc : ck4 (r.take e.n) = e.c
    · rw [if_pos hc, Option.map_eq_some_iff] at h
      obtain ⟨m, hm, rfl⟩ := h
      obtain ⟨h1, h2⟩ := ih hm (by rw [List.length_drop]; omega)
      refine ⟨?_, ?_⟩
      · rw [bods, List.flatMap_cons, ← bods, h1]
        exact List.take_append_drop _ _
      · rw [List.map_cons, h2]
        have : enOf ⟨e.k, r.take e.n⟩ = e := by
          unfold enOf
          have hl : (r.take e.n).length = e.n := by rw [List.length_take]; omega
          simp only [hl, hc]
        rw [this]
    · rw [if_neg hc] at h
      cases h
theorem tabl_take {l : List Sn} : ∀ {c : List Int}, (∀ i (h : i < l.length), ent l[i] = (c.drop (7 * i)).take 7) → tabl l = c.take (7 * l.length) := by
  induction l with
  | nil => intro c _; rfl
  | cons s l ih =>
    intro c h
    have h0 : ent s = c.take 7 := by
      have := h 0 (by simp)
      rw [Nat.mul_zero, List.drop_zero] at this
      exact this
    have h1 : tabl l = (c.drop 7).take (7 * l.length) := ih fun i hi => by
      have := h (i + 1) (by simpa using hi)
      rw [List.drop_drop, show 7 + 7 * i = 7 * (i + 1) by omega]
      simpa using this
    rw [List.length_cons, show 7 * (l.length + 1) = 7 + 7 * l.length by omega, List.take_add, tabl, List.flatMap_cons, ← tabl, h0, h1]
theorem getD_rg {b : List Int} (hb : Bs b) (i : Nat) : 0 ≤ b.getD i 0 ∧ b.getD i 0 ≤ 255 := by
  rw [List.getD_eq_getElem?_getD]
  cases h : b[i]? with
  | none => simp
  | some x => exact hb x (List.mem_of_getElem? h)
theorem drop_getD {b : List Int} {i : Nat} (h : i < b.length) : b.drop i = b.getD i 0 :: b.drop (i + 1) := by
  rw [List.drop_eq_getElem_cons h, List.getD_eq_getElem?_getD, List.getElem?_eq_getElem h]
  rfl
theorem ent_at {b : List Int} (hb : Bs b) {i : Nat} (h : 16 + 7 * i ≤ b.length) {s : Sn} (he : enOf s = entAt b i) : ent s = (b.drop (9 + 7 * i)).take 7 := by
  unfold enOf entAt at he
  simp only [En.mk.injEq] at he
  obtain ⟨hk, hn, hc⟩ := he
  have h1 := getD_rg hb (10 + 7 * i)
  have h2 := getD_rg hb (11 + 7 * i)
  have h65 : s.body.length ≤ 65535 := by omega
  rw [drop_getD (i := 9 + 7 * i) (by omega), show 9 + 7 * i + 1 = 10 + 7 * i by omega, drop_getD (i := 10 + 7 * i) (by omega), show 10 + 7 * i + 1 = 11 + 7 * i by omega, drop_getD (i := 11 + 7 * i) (by omega), show 11 + 7 * i + 1 = 12 + 7 * i by omega]
  rw [ent, two_bytes h65, hk, hc]
  have e1 : ((s.body.length % 256 : Nat) : Int) = b.getD (10 + 7 * i) 0 := by omega
  have e2 : ((s.body.length / 256 : Nat) : Int) = b.getD (11 + 7 * i) 0 := by omega
  rw [e1, e2]
  rfl
/-- What is unpacked is an image. -/
theorem unp_zero {b : List Int} (hb : Bs b) {l : List Sn} (h : unp b = (0, l)) : Can l ∧ image l = b := by
  unfold unp at h
  by_cases c1 : b.length < 9
  · rw [if_pos c1] at h; cases h
  rw [if_neg c1] at h
  by_cases c2 : b.take 4 ≠ [68, 80, 90, 49]
  · rw [if_pos c2] at h; cases h
  rw [if_neg c2] at h
  by_cases c3 : (b.drop 5).take 4 ≠ ck4 (b.take 5)
  · rw [if_pos c3] at h; cases h
  rw [if_neg c3] at h
  by_cases c4 : 16 < b.getD 4 0
  · rw [if_pos c4] at h; cases h
  rw [if_neg c4] at h
  have g4 := getD_rg hb 4
  obtain ⟨m, hm⟩ : ∃ m : Nat, b.getD 4 0 = (m : Int) := ⟨(b.getD 4 0).toNat, by omega⟩
  simp only [hm, Int.toNat_natCast] at h
  by_cases c5 : b.length < 13 + 7 * m
  · rw [if_pos c5] at h; cases h
  rw [if_neg c5] at h
  by_cases c6 : (b.drop (9 + 7 * m)).take 4 ≠ ck4 (b.take (9 + 7 * m))
  · rw [if_pos c6] at h; cases h
  rw [if_neg c6] at h
  by_cases c7 : kinds 0 (ents b m) = false
  · rw [if_pos c7] at h; cases h
  rw [if_neg c7] at h
  by_cases c8 : b.length - (13 + 7 * m) < total (ents b m)
  · rw [if_pos c8] at h; cases h
  rw [if_neg c8] at h
  by_cases c9 : total (ents b m) < b.length - (13 + 7 * m)
  · rw [if_pos c9] at h; cases h
  rw [if_neg c9] at h
  have hu : bodU (ents b m) (b.drop (13 + 7 * m)) = some l := by
    cases hu : bodU (ents b m) (b.drop (13 + 7 * m)) with
    | none => rw [hu] at h; cases h
    | some k => rw [hu] at h; cases h; rfl
  obtain ⟨hb1, hb2⟩ := bodU_inv hu (by rw [List.length_drop]; omega)
  have hlen : l.length = m := by
    have := congrArg List.length hb2
    simpa [ents] using this
  have hat : ∀ i (h : i < l.length), enOf l[i] = entAt b i := fun i hi => by
    have e1 : (l.map enOf)[i]'(by simpa using hi) = (ents b m)[i]'(by simp [ents]; omega) := by
      congr 1
    simpa [ents] using e1
  have ht : tabl l = (b.drop 9).take (7 * l.length) := tabl_take fun i hi => by
    rw [ent_at hb (by omega) (hat i hi), List.drop_drop]
  have hh : hdr l.length = b.take 5 := by
    rw [show (5 : Nat) = 4 + 1 from rfl, List.take_add, Decidable.not_not.1 c2, drop_getD (by omega : 4 < b.length), hm, hlen]
    rfl
  have hf : front l = b.take (9 + 7 * m) := by
    unfold front
    rw [ht, hlen, List.take_add, ← hlen, hh, ← Decidable.not_not.1 c3, show (9 : Nat) = 5 + 4 from rfl, List.take_add]
  refine ⟨⟨by omega, kinds_risen (Int.le_refl 0) (by rw [hb2]; simpa using c7) ?_, ?_⟩, ?_⟩
  · intro s hs
    obtain ⟨i, hi, rfl⟩ := List.getElem_of_mem hs
    have := congrArg En.k (hat i hi)
    have h1 := getD_rg hb (9 + 7 * i)
    simp only [enOf, entAt] at this
    omega
  · intro s hs
    obtain ⟨i, hi, rfl⟩ := List.getElem_of_mem hs
    have := congrArg En.n (hat i hi)
    have h1 := getD_rg hb (10 + 7 * i)
    have h2 := getD_rg hb (11 + 7 * i)
    simp only [enOf, entAt] at this
    omega
  · unfold image
    have e : b.drop (13 + 7 * m) = (b.drop (9 + 7 * m)).drop 4 := by rw [List.drop_drop, show 9 + 7 * m + 4 = 13 + 7 * m by omega]
    rw [hf, ← Decidable.not_not.1 c6, hb1, e, List.append_assoc, List.take_append_drop, List.take_append_drop]

/-- Unlike sections have unlike images. -/
theorem image_inj {l k : List Sn} (hl : Can l) (hk : Can k) (h : image l = image k) : l = k := by
  have h1 := unp_image hl
  rw [h, unp_image hk] at h1
  exact (Prod.mk.inj h1).2.symm

theorem Bs.ents {l : List Sn} (h : risen 0 l = true) : Bs (tabl l) := by
  intro x hx
  obtain ⟨s, hs, hx⟩ := List.mem_flatMap.1 hx
  have hr := risen_rg h s hs
  rcases List.mem_cons.1 hx with rfl | hx
  · exact ⟨by omega, hr.2⟩
  rcases List.mem_append.1 hx with hx | hx
  · exact dg_bytes 2 _ x hx
  · exact ck4_bs _ x hx
theorem Bs.hdr {n : Nat} (h : n ≤ 16) : Bs (hdr n) := by
  intro x hx
  simp only [Proofs.YtggmdgdgljlddaaGreatDoor.hdr, List.mem_cons, List.not_mem_nil, or_false] at hx
  omega
theorem Bs.front {l : List Sn} (h : Can l) : Bs (front l) := ((Bs.hdr h.len).app (ck4_bs _)).app (Bs.ents h.rise)
theorem Bs.image {l : List Sn} (h : Can l) (hb : ∀ s ∈ l, Bs s.body) : Bs (image l) := ((Bs.front h).app (ck4_bs _)).app fun x hx => by
  obtain ⟨s, hs, hx⟩ := List.mem_flatMap.1 hx
  exact hb s hs x hx

theorem bods_win {l : List Sn} : ∀ {k : List Sn}, k.map enOf = l.map enOf → (∀ s ∈ l, Bs s.body) → (∀ s ∈ k, Bs s.body) → Win (Ntb (bods l) ^^^ Ntb (bods k)) → l = k := by
  induction l with
  | nil =>
    intro k hk _ _ _
    rw [List.map_nil, List.map_eq_nil_iff] at hk
    exact hk.symm
  | cons s l ih =>
    intro k hk hl hb hw
    cases k with
    | nil => cases hk
    | cons t k =>
      rw [List.map_cons, List.map_cons, List.cons.injEq] at hk
      obtain ⟨h1, h2⟩ := hk
      unfold enOf at h1
      simp only [En.mk.injEq] at h1
      obtain ⟨hk1, hk2, hk3⟩ := h1
      have bs := hl s (List.mem_cons_self ..)
      have bt := hb t (List.mem_cons_self ..)
      rw [bods, bods, List.flatMap_cons, List.flatMap_cons, ← bods, ← bods] at hw
      have e := win_ck hk2 bs bt (win_left bs bt hk2 hw) (ck4_inj hk3)
      have e2 := ih h2 (fun x hx => hl x (List.mem_cons_of_mem _ hx)) (fun x hx => hb x (List.mem_cons_of_mem _ hx)) (win_right bs bt hk2 hw)
      rw [e2]
      congr 1
      cases s
      cases t
      simp only at hk1 e
      rw [hk1, e]
/-- Two images within a window are one. -/
theorem image_win {l k : List Sn} (hl : Can l) (hk : Can k) (bl : ∀ s ∈ l, Bs s.body) (bk : ∀ s ∈ k, Bs s.body) (hw : Win (Ntb (image l) ^^^ Ntb (image k))) : l = k := by
  have e1 : ∀ m : List Sn, image m = (hdr m.length ++ ck4 (hdr m.length)) ++ (tabl m ++ (ck4 (front m) ++ bods m)) := fun m => by simp [image, front]
  have b9 : ∀ m : List Sn, Can m → Bs (hdr m.length ++ ck4 (hdr m.length)) := fun m hm => (Bs.hdr hm.len).app (ck4_bs _)
  have n9 : ∀ m : List Sn, (hdr m.length ++ ck4 (hdr m.length)).length = 9 := fun m => by rw [List.length_append, ck4_len]; rfl
  have hh : hdr l.length = hdr k.length := by
    have hw := hw
    rw [e1 l, e1 k] at hw
    exact win_word rfl (Bs.hdr hl.len) (Bs.hdr hk.len) (win_left (b9 l hl) (b9 k hk) (by rw [n9, n9]) hw)
  have hlen : k.length = l.length := by
    have := congrArg (fun x : List Int => x.getD 4 0) hh
    simp only [hdr] at this
    simp at this
    omega
  have hfl : (front k).length = (front l).length := by rw [front_len, front_len, hlen]
  have hfc : (front k ++ ck4 (front k)).length = (front l ++ ck4 (front l)).length := by rw [List.length_append, List.length_append, ck4_len, ck4_len, hfl]
  have bf : ∀ m : List Sn, Can m → Bs (front m ++ ck4 (front m)) := fun m hm => (Bs.front hm).app (ck4_bs _)
  have hf : front l = front k := win_word hfl (Bs.front hl) (Bs.front hk) (win_left (bf l hl) (bf k hk) hfc hw)
  have he : k.map enOf = l.map enOf := by
    have h1 := ents_front hl.long []
    have h2 := ents_front hk.long []
    rw [← hf, hlen, h1] at h2
    exact h2.symm
  exact bods_win he bl bk (win_right (bf l hl) (bf k hk) hfc hw)
/-- What differs within 32 bits in a row isn't unpacked. -/
theorem unp_burst {l : List Sn} (hl : Can l) (bl : ∀ s ∈ l, Bs s.body) {ys : List Int} (by' : Bs ys) {k d : Nat} (hd : d < 4294967296) (hx : Ntb ys = Ntb (image l) ^^^ 2 ^ k * d) (hne : d ≠ 0) : (unp ys).1 ≠ 0 := by
  intro h0
  have hu : unp ys = (0, (unp ys).2) := by rw [← h0]
  obtain ⟨hc, hi⟩ := unp_zero by' hu
  have bk : ∀ s ∈ (unp ys).2, Bs s.body := fun s hs x hx => by
    refine by' x ?_
    rw [← hi]
    exact List.mem_append_right _ (List.mem_flatMap.2 ⟨s, hs, hx⟩)
  have e := image_win hl hc bl bk ⟨k, d, hd, by rw [hi, hx, xor_self_left]⟩
  rw [← e] at hi
  rw [hi] at hx
  have : 2 ^ k * d = 0 := by
    have := xor_self_left (Ntb ys) (2 ^ k * d)
    rw [← hx, Nat.xor_self] at this
    exact this.symm
  rcases Nat.mul_eq_zero.1 this with h | h
  · have := Nat.two_pow_pos k; omega
  · exact hne h

/-- What is found: the first of its kind. -/
def find (l : List Sn) (k : Int) : Option (List Int) := (l.find? fun s => s.kind = k).map Sn.body
theorem risen_gt {l : List Sn} : ∀ {last : Int}, risen last l = true → ∀ s ∈ l, last < s.kind := by
  induction l with
  | nil => intro _ _ s hs; cases hs
  | cons a l ih =>
    intro last h s hs
    simp only [risen, Bool.and_eq_true, decide_eq_true_eq] at h
    rcases List.mem_cons.1 hs with rfl | hs
    · exact h.1.2
    · have := ih h.2 s hs
      omega
theorem find_mem {l : List Sn} : ∀ {last : Int}, risen last l = true → ∀ s ∈ l, find l s.kind = some s.body := by
  induction l with
  | nil => intro _ _ s hs; cases hs
  | cons a l ih =>
    intro last h s hs
    simp only [risen, Bool.and_eq_true, decide_eq_true_eq] at h
    unfold find
    rcases List.mem_cons.1 hs with rfl | hs
    · rw [List.find?_cons_of_pos (by simp)]
      rfl
    · have := risen_gt h.2 s hs
      rw [List.find?_cons_of_neg (by simp; omega)]
      exact ih h.2 s hs
theorem find_none {l : List Sn} {k : Int} : find l k = none ↔ ∀ s ∈ l, s.kind ≠ k := by
  unfold find
  rw [Option.map_eq_none_iff, List.find?_eq_none]
  simp
end Go.Proofs.YtggmdgdgljlddaaGreatDoor
