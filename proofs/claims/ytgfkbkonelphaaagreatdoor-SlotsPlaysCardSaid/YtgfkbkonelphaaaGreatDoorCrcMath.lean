/-
  Plain facts on the register of a check: nothing of Go is named here. A step halves a number of any size and, if it was odd, exclusive-ors it; so bytes that go in one by one are one number that goes in at once.
-/
namespace Go.Proofs.YtgfkbkonelphaaaGreatDoor

theorem xor_self_left (a b : Nat) : a ^^^ (a ^^^ b) = b := by rw [← Nat.xor_assoc, Nat.xor_self, Nat.zero_xor]
theorem xor_zero_eq {a b : Nat} (h : a ^^^ b = 0) : a = b := by
  have := xor_self_left a b
  rw [h, Nat.xor_zero] at this
  exact this
theorem xor_swap (a b c d : Nat) : (a ^^^ b) ^^^ (c ^^^ d) = (a ^^^ c) ^^^ (b ^^^ d) := by
  rw [Nat.xor_assoc, Nat.xor_assoc, ← Nat.xor_assoc b c d, Nat.xor_comm b c, Nat.xor_assoc c b d]

theorem xor_left (a b c : Nat) : a ^^^ (b ^^^ c) = b ^^^ (a ^^^ c) := by rw [← Nat.xor_assoc, Nat.xor_comm a b, Nat.xor_assoc]

/-- A step of the register. -/
def st (c : Nat) : Nat := (c / 2) ^^^ (if c % 2 = 1 then 3988292384 else 0)
theorem st_xor (a b : Nat) : st (a ^^^ b) = st a ^^^ st b := by
  unfold st
  rw [Nat.xor_div_two, xor_swap]
  congr 1
  have h := @Nat.xor_mod_two_eq_one a b
  by_cases ha : a % 2 = 1 <;> by_cases hb : b % 2 = 1 <;> simp [ha, hb, h]
theorem st_even (c : Nat) : st (2 * c) = c := by
  unfold st
  rw [if_neg (by omega), Nat.xor_zero]
  omega
theorem st_lt {c : Nat} (h : c < 4294967296) : st c < 4294967296 := by
  unfold st
  refine Nat.xor_lt_two_pow (n := 32) (by omega) ?_
  split <;> omega
theorem st_zero {c : Nat} (h : c < 4294967296) (h0 : st c = 0) : c = 0 := by
  unfold st at h0
  have := xor_zero_eq h0
  split at this <;> omega

/-- So many steps. -/
def stn : Nat → Nat → Nat
  | 0, c => c
  | k + 1, c => stn k (st c)
theorem stn_xor (k : Nat) : ∀ a b, stn k (a ^^^ b) = stn k a ^^^ stn k b := by
  induction k with
  | zero => intro a b; rfl
  | succ k ih => intro a b; simp only [stn, st_xor, ih]
theorem stn_add (j k : Nat) : ∀ c, stn (j + k) c = stn k (stn j c) := by
  induction j with
  | zero => intro c; simp [stn]
  | succ j ih => intro c; rw [show j + 1 + k = (j + k) + 1 from by omega]; simp only [stn, ih]
theorem stn_succ (k c : Nat) : stn (k + 1) c = st (stn k c) := by rw [stn_add]; rfl
theorem stn_pow (k : Nat) : ∀ c, stn k (2 ^ k * c) = c := by
  induction k with
  | zero => intro c; simp [stn]
  | succ k ih =>
    intro c
    rw [stn, show 2 ^ (k + 1) * c = 2 * (2 ^ k * c) from by rw [Nat.pow_succ, Nat.mul_comm (2 ^ k) 2, Nat.mul_assoc], st_even, ih]
theorem stn_lt (k : Nat) : ∀ {c : Nat}, c < 4294967296 → stn k c < 4294967296 := by
  induction k with
  | zero => intro c h; exact h
  | succ k ih => intro c h; exact ih (st_lt h)
theorem stn_at0 (k : Nat) : stn k 0 = 0 := by
  induction k with
  | zero => rfl
  | succ k ih => simpa [stn, st] using ih
theorem stn_zero (k : Nat) : ∀ {c : Nat}, c < 4294967296 → stn k c = 0 → c = 0 := by
  induction k with
  | zero => intro c _ h; exact h
  | succ k ih => intro c h h0; exact st_zero h (ih (st_lt h) h0)
/-- What lies higher comes later. -/
theorem stn_late (j k c : Nat) : stn (j + k) (2 ^ j * c) = stn k c := by rw [stn_add, stn_pow]

/-- What four bits make of a register. -/
def tb : Nat → Nat := fun i => [0, 498536548, 997073096, 651767980, 1994146192, 1802195444, 1303535960, 1342533948, 3988292384, 4027552580, 3604390888, 3412177804, 2607071920, 2262029012, 2685067896, 3183342108].getD i 0
theorem tb_lt (i : Nat) (h : i < 16) : tb i < 4294967296 := by
  have : ∀ i : Fin 16, tb i < 4294967296 := by decide +kernel
  exact this ⟨i, h⟩
theorem split4 (r : Nat) : r = (2 ^ 4 * (r / 2 ^ 4)) ^^^ (r % 2 ^ 4) := by
  refine Nat.eq_of_testBit_eq fun i => ?_
  rw [Nat.testBit_xor, Nat.testBit_two_pow_mul, Nat.testBit_div_two_pow, Nat.testBit_mod_two_pow]
  by_cases h : i < 4
  · have h' : ¬ (4 ≤ i) := by omega
    simp [h, h']
  · have h' : 4 ≤ i := by omega
    simp [h, h', Nat.sub_add_cancel h']
theorem st4 (r : Nat) : stn 4 r = (r / 16) ^^^ tb (r % 16) := by
  have e := split4 r
  have h := stn_xor 4 (2 ^ 4 * (r / 2 ^ 4)) (r % 2 ^ 4)
  rw [← e, stn_pow] at h
  have ht : ∀ i : Fin 16, stn 4 i = tb i := by decide +kernel
  have := ht ⟨r % 16, Nat.mod_lt _ (by decide)⟩
  simp only at this
  rw [h, show (2 : Nat) ^ 4 = 16 from rfl, this]

/-- A register into which a byte went. -/
def en (c b : Nat) : Nat := stn 8 (c ^^^ b)
theorem en_lt {c b : Nat} (h : c < 4294967296) (hb : b < 256) : en c b < 4294967296 := stn_lt 8 (Nat.xor_lt_two_pow (n := 32) h (by omega))
theorem en_tb (c b : Nat) : en c b = (((c ^^^ b) / 16 ^^^ tb ((c ^^^ b) % 16)) / 16) ^^^ tb (((c ^^^ b) / 16 ^^^ tb ((c ^^^ b) % 16)) % 16) := by
  unfold en
  rw [show 8 = 4 + 4 from rfl, stn_add, st4 (c ^^^ b), st4]

/-- A register into which bytes went. -/
def reg (c : Nat) (xs : List Int) : Nat := xs.foldl (fun c x => en c x.toNat) c
theorem reg_nil (c : Nat) : reg c [] = c := rfl
theorem reg_app (c : Nat) (xs ys : List Int) : reg c (xs ++ ys) = reg (reg c xs) ys := by unfold reg; rw [List.foldl_append]
theorem reg_snoc (c : Nat) (xs : List Int) (y : Int) : reg c (xs ++ [y]) = en (reg c xs) y.toNat := by rw [reg_app]; rfl
theorem reg_lt (xs : List Int) : ∀ {c : Nat}, c < 4294967296 → (∀ x ∈ xs, 0 ≤ x ∧ x ≤ 255) → reg c xs < 4294967296 := by
  induction xs with
  | nil => intro c h _; exact h
  | cons x r ih =>
    intro c h hx
    have := hx x (List.mem_cons_self ..)
    exact ih (c := en c x.toNat) (en_lt h (by omega)) fun y hy => hx y (List.mem_cons_of_mem _ hy)
/-- Bytes as one number, the first one lowest. -/
def Nt : List Int → Nat
  | [] => 0
  | x :: r => x.toNat ^^^ (256 * Nt r)
theorem reg_eq (xs : List Int) : ∀ c, reg c xs = stn (8 * xs.length) (c ^^^ Nt xs) := by
  induction xs with
  | nil => intro c; simp [reg, Nt, stn]
  | cons x r ih =>
    intro c
    show reg (en c x.toNat) r = _
    rw [ih, List.length_cons, show 8 * (r.length + 1) = 8 + 8 * r.length from by omega, stn_add, Nt, ← Nat.xor_assoc, stn_xor 8 (c ^^^ x.toNat)]
    have h := stn_pow 8 (Nt r)
    rw [show (2 : Nat) ^ 8 = 256 from rfl] at h
    rw [h]
    rfl
/-- Registers that differ by their bytes alone. -/
theorem reg_diff (c : Nat) (xs ys : List Int) (hl : ys.length = xs.length) : reg c ys = reg c xs ^^^ stn (8 * xs.length) (Nt xs ^^^ Nt ys) := by
  rw [reg_eq, reg_eq, hl, ← stn_xor]
  congr 1
  rw [Nat.xor_assoc, xor_self_left]

/-- Turned over. -/
def ov (c : Nat) : Nat := 4294967295 - c
theorem ov_lt (c : Nat) : ov c < 4294967296 := by unfold ov; omega
theorem ov_ov {c : Nat} (h : c < 4294967296) : ov (ov c) = c := by unfold ov; omega
theorem ov_xor {c : Nat} (h : c < 4294967296) : ov c = 4294967295 ^^^ c := by
  unfold ov
  refine Nat.eq_of_testBit_eq fun i => ?_
  rw [show 4294967295 - c = 2 ^ 32 - (c + 1) from by omega, Nat.testBit_two_pow_sub_succ (by omega), Nat.testBit_xor, show (4294967295 : Nat) = 2 ^ 32 - 1 from rfl, Nat.testBit_two_pow_sub_one]
  by_cases hi : i < 32
  · simp [hi]
  · have : c.testBit i = false := Nat.testBit_lt_two_pow (Nat.lt_of_lt_of_le (show c < 2 ^ 32 by omega) (Nat.pow_le_pow_right (by decide) (by omega)))
    simp [hi, this]
theorem ov_diff {a d : Nat} (ha : a < 4294967296) (hd : d < 4294967296) : ov (a ^^^ d) = ov a ^^^ d := by
  rw [ov_xor ha, ov_xor (Nat.xor_lt_two_pow (n := 32) ha hd), Nat.xor_assoc]

/-- The check of bytes, and one that goes on. -/
def more (c : Nat) (xs : List Int) : Nat := ov (reg (ov c) xs)
theorem more_lt (c : Nat) (xs : List Int) : more c xs < 4294967296 := ov_lt _
def ck (xs : List Int) : Nat := more 0 xs
theorem ck_lt (xs : List Int) : ck xs < 4294967296 := ov_lt _
theorem more_app (c : Nat) (xs ys : List Int) (hx : ∀ x ∈ xs, 0 ≤ x ∧ x ≤ 255) : more (more c xs) ys = more c (xs ++ ys) := by
  unfold more
  rw [ov_ov (reg_lt xs (ov_lt c) hx), reg_app]
theorem more_nil (c : Nat) (h : c < 4294967296) : more c [] = c := ov_ov h
theorem ck_diff (xs ys : List Int) (hl : ys.length = xs.length) (hx : ∀ x ∈ xs, 0 ≤ x ∧ x ≤ 255) (hd : stn (8 * xs.length) (Nt xs ^^^ Nt ys) < 4294967296) : ck ys = ck xs ^^^ stn (8 * xs.length) (Nt xs ^^^ Nt ys) := by
  unfold ck more
  rw [reg_diff _ xs ys hl, ov_diff (reg_lt xs (ov_lt 0) hx) hd]
/-- What differs, from a bit on, by less than 32 bits. -/
theorem ck_burst (xs ys : List Int) (k d : Nat) (hl : ys.length = xs.length) (hx : ∀ x ∈ xs, 0 ≤ x ∧ x ≤ 255) (hk : k ≤ 8 * xs.length) (hd : d < 4294967296) (h : Nt ys = Nt xs ^^^ (2 ^ k * d)) :
    ck ys = ck xs ^^^ stn (8 * xs.length - k) d := by
  have e : stn (8 * xs.length) (Nt xs ^^^ Nt ys) = stn (8 * xs.length - k) d := by
    rw [h, xor_self_left]
    obtain ⟨j, hj⟩ : ∃ j, 8 * xs.length = k + j := ⟨8 * xs.length - k, by omega⟩
    rw [hj, stn_late, show k + j - k = j from by omega]
  rw [ck_diff xs ys hl hx (by rw [e]; exact stn_lt _ hd), e]
theorem ck_burst_iff (xs ys : List Int) (k d : Nat) (hl : ys.length = xs.length) (hx : ∀ x ∈ xs, 0 ≤ x ∧ x ≤ 255) (hk : k ≤ 8 * xs.length) (hd : d < 4294967296) (h : Nt ys = Nt xs ^^^ (2 ^ k * d)) :
    ck ys = ck xs ↔ d = 0 := by
  rw [ck_burst xs ys k d hl hx hk hd h]
  constructor
  · intro e
    have : stn (8 * xs.length - k) d = 0 := by
      have := xor_self_left (ck xs) (stn (8 * xs.length - k) d)
      rw [e, Nat.xor_self] at this
      exact this.symm
    exact stn_zero _ hd this
  · rintro rfl
    rw [stn_at0, Nat.xor_zero]

/-- Bytes 0 that go in. -/
def zr : Nat → Nat → Nat
  | 0, c => c
  | k + 1, c => en (zr k c) 0
theorem zr_lt (k : Nat) {c : Nat} (h : c < 4294967296) : zr k c < 4294967296 := by
  induction k with
  | zero => exact h
  | succ k ih => exact en_lt ih (by decide)
theorem zr_succ (k : Nat) : ∀ c, zr k (en c 0) = zr (k + 1) c := by
  induction k with
  | zero => intro c; rfl
  | succ k ih => intro c; rw [zr, ih]; rfl
theorem zr_stn (k c : Nat) : zr k c = stn (8 * k) c := by
  induction k with
  | zero => rfl
  | succ k ih => rw [zr, ih, en, Nat.xor_zero, show 8 * (k + 1) = 8 * k + 8 from by omega, stn_add]

theorem xor_mul (k a b : Nat) : 2 ^ k * (a ^^^ b) = (2 ^ k * a) ^^^ (2 ^ k * b) := by
  refine Nat.eq_of_testBit_eq fun i => ?_
  rw [Nat.testBit_xor, Nat.testBit_two_pow_mul, Nat.testBit_two_pow_mul, Nat.testBit_two_pow_mul, Nat.testBit_xor]
  by_cases h : i ≥ k <;> simp [h]
theorem xor_mul256 (a b : Nat) : 256 * (a ^^^ b) = (256 * a) ^^^ (256 * b) := xor_mul 8 a b
/-- One byte is another one. -/
theorem Nt_set (xs : List Int) (d : Nat) : ∀ j, j < xs.length → Nt (xs.set j (((xs.getD j 0).toNat ^^^ d : Nat) : Int)) = Nt xs ^^^ (2 ^ (8 * j) * d) := by
  induction xs with
  | nil => intro j h; simp at h
  | cons x r ih =>
    intro j h
    rcases j with _ | j
    · simp only [List.set_cons_zero, Nt, List.getD_cons_zero, Int.toNat_natCast, Nat.mul_zero, Nat.pow_zero, Nat.one_mul]
      rw [Nat.xor_assoc, Nat.xor_comm d, ← Nat.xor_assoc]
    · simp only [List.set_cons_succ, Nt, List.getD_cons_succ]
      rw [ih j (by simpa using h), xor_mul256, ← Nat.xor_assoc, show 8 * (j + 1) = 8 + 8 * j from by omega, Nat.pow_add, Nat.mul_assoc]
theorem Nt_app (xs ys : List Int) : Nt (xs ++ ys) = Nt xs ^^^ (2 ^ (8 * xs.length) * Nt ys) := by
  induction xs with
  | nil => simp [Nt]
  | cons x r ih => rw [List.cons_append, Nt, ih, Nt, xor_mul256, ← Nat.xor_assoc, List.length_cons, show 8 * (r.length + 1) = 8 + 8 * r.length from by omega, Nat.pow_add, Nat.mul_assoc]
theorem Nt_lt (xs : List Int) (hx : ∀ x ∈ xs, 0 ≤ x ∧ x ≤ 255) : Nt xs < 2 ^ (8 * xs.length) := by
  induction xs with
  | nil => simp [Nt]
  | cons x r ih =>
    have h1 := ih fun y hy => hx y (List.mem_cons_of_mem _ hy)
    have h2 := hx x (List.mem_cons_self ..)
    rw [List.length_cons, show 8 * (r.length + 1) = 8 + 8 * r.length from by omega, Nt]
    have h3 : (2 : Nat) ^ 8 ≤ 2 ^ (8 + 8 * r.length) := Nat.pow_le_pow_right (by decide) (by omega)
    refine Nat.xor_lt_two_pow (by omega) ?_
    rw [Nat.pow_add]
    omega
theorem Nt_inj (xs : List Int) : ∀ ys : List Int, xs.length = ys.length → (∀ x ∈ xs, 0 ≤ x ∧ x ≤ 255) → (∀ y ∈ ys, 0 ≤ y ∧ y ≤ 255) → Nt xs = Nt ys → xs = ys := by
  induction xs with
  | nil => intro ys hl _ _ _; exact (List.eq_nil_of_length_eq_zero hl.symm).symm
  | cons x r ih =>
    intro ys hl hx hy h
    rcases ys with _ | ⟨y, s⟩
    · simp at hl
    · have h1 := hx x (List.mem_cons_self ..)
      have h2 := hy y (List.mem_cons_self ..)
      simp only [Nt] at h
      have e1 := congrArg (· % 2 ^ 8) h
      have e2 := congrArg (· / 2 ^ 8) h
      simp only [Nat.xor_mod_two_pow, Nat.xor_div_two_pow] at e1 e2
      rw [show (2 : Nat) ^ 8 = 256 from rfl, Nat.mul_mod_right, Nat.mul_mod_right, Nat.xor_zero, Nat.xor_zero, Nat.mod_eq_of_lt (by omega), Nat.mod_eq_of_lt (by omega)] at e1
      rw [show (2 : Nat) ^ 8 = 256 from rfl, Nat.mul_div_cancel_left _ (by decide), Nat.mul_div_cancel_left _ (by decide), Nat.div_eq_of_lt (by omega), Nat.div_eq_of_lt (by omega), Nat.zero_xor, Nat.zero_xor] at e2
      rw [ih s (by simpa using hl) (fun z hz => hx z (List.mem_cons_of_mem _ hz)) (fun z hz => hy z (List.mem_cons_of_mem _ hz)) e2, show x = y from by omega]
/-- Bytes that are exclusive-or'd, three and three. -/
def three (a b c : Int) : Int := ((a.toNat ^^^ b.toNat ^^^ c.toNat : Nat) : Int)
theorem Nt_three (as : List Int) : ∀ bs cs : List Int, bs.length = as.length → cs.length = as.length → ∀ xs : List Int, xs.length = as.length → (∀ j, j < as.length → xs.getD j 0 = three (as.getD j 0) (bs.getD j 0) (cs.getD j 0)) → Nt xs = Nt as ^^^ Nt bs ^^^ Nt cs := by
  induction as with
  | nil =>
    intro bs cs hb hc xs hx _
    have hb := List.eq_nil_of_length_eq_zero hb
    have hc := List.eq_nil_of_length_eq_zero hc
    have hx := List.eq_nil_of_length_eq_zero hx
    subst hb hc hx
    rfl
  | cons a as ih =>
    intro bs cs hb hc xs hx h
    rcases bs with _ | ⟨b, bs⟩
    · simp at hb
    · rcases cs with _ | ⟨c, cs⟩
      · simp at hc
      · rcases xs with _ | ⟨x, xs⟩
        · simp at hx
        · have h0 := h 0 (by simp)
          simp only [List.getD_cons_zero] at h0
          have hr := ih bs cs (by simpa using hb) (by simpa using hc) xs (by simpa using hx) fun j hj => by
            have := h (j + 1) (by simpa using hj)
            simpa only [List.getD_cons_succ] using this
          subst h0
          simp only [Nt, hr, three, Int.toNat_natCast, xor_mul256]
          generalize a.toNat = a
          generalize b.toNat = b
          generalize c.toNat = c
          generalize 256 * Nt as = p
          generalize 256 * Nt bs = q
          generalize 256 * Nt cs = r
          rw [xor_swap a p b q, xor_swap (a ^^^ b) (p ^^^ q) c r]
/-- Three texts of one length. -/
theorem ck_three (as bs cs xs : List Int) (hb : bs.length = as.length) (hc : cs.length = as.length) (hx : xs.length = as.length) (ba : ∀ x ∈ as, 0 ≤ x ∧ x ≤ 255) (bb : ∀ x ∈ bs, 0 ≤ x ∧ x ≤ 255) (bc : ∀ x ∈ cs, 0 ≤ x ∧ x ≤ 255)
    (h : ∀ j, j < as.length → xs.getD j 0 = three (as.getD j 0) (bs.getD j 0) (cs.getD j 0)) (bx : ∀ x ∈ xs, 0 ≤ x ∧ x ≤ 255) : ck xs = ck as ^^^ ck bs ^^^ ck cs := by
  have e := Nt_three as bs cs hb hc xs hx h
  unfold ck more
  rw [ov_xor (reg_lt xs (ov_lt 0) bx), ov_xor (reg_lt as (ov_lt 0) ba), ov_xor (reg_lt bs (ov_lt 0) bb), ov_xor (reg_lt cs (ov_lt 0) bc)]
  rw [reg_eq, reg_eq, reg_eq, reg_eq, hb, hc, hx, e]
  simp only [stn_xor]
  generalize stn _ (Nt as) = p
  generalize stn _ (Nt bs) = q
  generalize stn _ (Nt cs) = r
  generalize stn _ (ov 0) = o
  generalize 4294967295 = f
  rw [xor_swap f (o ^^^ p) f (o ^^^ q), Nat.xor_self, Nat.zero_xor, xor_swap o p o q, Nat.xor_self, Nat.zero_xor]
  rw [xor_left (p ^^^ q) f (o ^^^ r), xor_left (p ^^^ q) o r]
end Go.Proofs.YtgfkbkonelphaaaGreatDoor
