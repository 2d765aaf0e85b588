/-
  Texts of sets: plain facts on runs, and what a text spells; nothing of a program is named here.
-/
import Derived.Test.YtjmnclneopofhaaDoorMaskB
import Derived.Lib.Join
import Derived.Lib.IndexMore
import Derived.Lib.ItoaNum
import Derived.Lib.AtoiAll
namespace Go.Proofs.YtjmnclneopofhaaDoor

/-- The last core of the run from f on. -/
def lstF (s : Nat) : Nat → Nat → Nat
  | 0, f => f
  | n + 1, f => if s.testBit (f + 1) then lstF s n (f + 1) else f
def lst (s f : Nat) : Nat := lstF s (64 - f) f
theorem lst_end (s f : Nat) (h : s.testBit (f + 1) = false) : lst s f = f := by
  unfold lst
  cases 64 - f with
  | zero => rfl
  | succ n => show (if _ then _ else _) = _; rw [if_neg (by rw [h]; decide)]
theorem lst_on {s f : Nat} (hs : U64 s) (h : s.testBit (f + 1) = true) : lst s f = lst s (f + 1) := by
  have hf : f + 1 < 64 := by
    rcases Nat.lt_or_ge (f + 1) 64 with h1 | h1
    · exact h1
    · rw [hs.bit h1] at h; cases h
  unfold lst
  rw [show 64 - f = (64 - (f + 1)) + 1 by omega]
  show (if _ then _ else _) = _
  rw [if_pos h]
theorem lst_ge {s : Nat} (hs : U64 s) (n : Nat) : ∀ f, 64 - f ≤ n → f ≤ lst s f := by
  induction n with
  | zero => intro f hf; unfold lst; rw [show 64 - f = 0 by omega]; exact Nat.le_refl _
  | succ n ih =>
    intro f hf
    cases hb : s.testBit (f + 1) with
    | false => rw [lst_end s f hb]; exact Nat.le_refl _
    | true => rw [lst_on hs hb]; have := ih (f + 1) (by omega); omega
theorem lst_le {s : Nat} (hs : U64 s) (f : Nat) : f ≤ lst s f := lst_ge hs 64 f (by omega)
/-- All of a run is in the set, and the next core isn't. -/
theorem lst_run {s : Nat} (hs : U64 s) (n : Nat) : ∀ f, 64 - f ≤ n → s.testBit f = true → (∀ j, f ≤ j → j ≤ lst s f → s.testBit j = true) ∧ s.testBit (lst s f + 1) = false := by
  induction n with
  | zero => intro f hf hb; rw [hs.bit (by omega)] at hb; cases hb
  | succ n ih =>
    intro f hf hb
    cases hb1 : s.testBit (f + 1) with
    | false =>
      rw [lst_end s f hb1]
      exact ⟨fun j h1 h2 => by rw [show j = f by omega]; exact hb, hb1⟩
    | true =>
      rw [lst_on hs hb1]
      obtain ⟨h1, h2⟩ := ih (f + 1) (by omega) hb1
      refine ⟨fun j h3 h4 => ?_, h2⟩
      rcases Nat.eq_or_lt_of_le h3 with rfl | h3
      · exact hb
      · exact h1 j h3 h4
theorem lst_in {s : Nat} (hs : U64 s) {f : Nat} (hb : s.testBit f = true) {j : Nat} (h1 : f ≤ j) (h2 : j ≤ lst s f) : s.testBit j = true := (lst_run hs 64 f (by omega) hb).1 j h1 h2
theorem lst_out {s : Nat} (hs : U64 s) {f : Nat} (hb : s.testBit f = true) : s.testBit (lst s f + 1) = false := (lst_run hs 64 f (by omega) hb).2
theorem lst_lt' {s : Nat} (hs : U64 s) (n : Nat) : ∀ f, 64 - f ≤ n → f < 64 → lst s f < 64 := by
  induction n with
  | zero => intro f h1 h2; omega
  | succ n ih =>
    intro f h1 h2
    cases hb : s.testBit (f + 1) with
    | false => rw [lst_end s f hb]; exact h2
    | true =>
      rw [lst_on hs hb]
      have hf : f + 1 < 64 := by
        rcases Nat.lt_or_ge (f + 1) 64 with h3 | h3
        · exact h3
        · rw [hs.bit h3] at hb; cases hb
      exact ih (f + 1) (by omega) hf
theorem lst_lt {s : Nat} (hs : U64 s) {f : Nat} (hf : f < 64) : lst s f < 64 := lst_lt' hs 64 f (by omega) hf
/-- A core that all of from f on are in the set is no further than the run's last. -/
theorem lst_far {s : Nat} (hs : U64 s) {f i : Nat} (h : ∀ j, f ≤ j → j ≤ i → s.testBit j = true) (hb : s.testBit f = true) : i ≤ lst s f := by
  rcases Nat.lt_or_ge (lst s f) i with h1 | h1
  · have h2 := h (lst s f + 1) (by have := lst_le hs f; omega) (by omega)
    rw [lst_out hs hb] at h2
    cases h2
  · exact h1

theorem bg_nat {s : Nat} (hs : U64 s) (i : Nat) : bg s (i : Int) = (s.testBit i && (i == 0 || !s.testBit (i - 1))) := by
  unfold bg
  rw [isIn_big hs]
  cases i with
  | zero => rw [isIn_out _ _ (by omega)]; rfl
  | succ i =>
    rw [show ((i + 1 : Nat) : Int) - 1 = (i : Int) by omega, isIn_big hs, Nat.add_sub_cancel]
    rfl
/-- Each core lies in a run. -/
theorem run_of {s : Nat} (hs : U64 s) : ∀ i, s.testBit i = true → ∃ f, f ≤ i ∧ bg s (f : Int) = true ∧ ∀ j, f ≤ j → j ≤ i → s.testBit j = true := by
  intro i
  induction i with
  | zero => exact fun h => ⟨0, Nat.le_refl _, by rw [bg_nat hs, h]; rfl, fun j _ h2 => by rw [show j = 0 by omega]; exact h⟩
  | succ i ih =>
    intro h
    cases hb : s.testBit i with
    | false => exact ⟨i + 1, Nat.le_refl _, by rw [bg_nat hs, h, Nat.add_sub_cancel, hb]; rfl, fun j h1 h2 => by rw [show j = i + 1 by omega]; exact h⟩
    | true =>
      obtain ⟨f, h1, h2, h3⟩ := ih hb
      refine ⟨f, by omega, h2, fun j h4 h5 => ?_⟩
      rcases Nat.lt_or_ge i j with h6 | h6
      · rw [show j = i + 1 by omega]; exact h
      · exact h3 j h4 h6
theorem bg_in {s : Nat} (hs : U64 s) {i : Nat} (h : bg s (i : Int) = true) : s.testBit i = true := by
  rw [bg_nat hs, Bool.and_eq_true] at h
  exact h.1

/-- The runs' first cores. -/
def fst (s : Nat) : List (Fin 64) := cs (fun i => bg s (i : Int)) 64
theorem cs_mem (p : Nat → Bool) (k : Nat) (i : Fin 64) (hk : k ≤ 64) : i ∈ cs p k ↔ i.val < k ∧ p i.val = true := by
  unfold cs
  rw [List.mem_filter, List.mem_take_iff_getElem]
  constructor
  · rintro ⟨⟨j, hj, rfl⟩, hp⟩
    rw [List.getElem_finRange] at hp ⊢
    exact ⟨by simpa using (Nat.lt_min.1 hj).1, hp⟩
  · rintro ⟨h, hp⟩
    exact ⟨⟨i.val, by rw [List.length_finRange]; omega, by rw [List.getElem_finRange]; rfl⟩, hp⟩
theorem fst_mem {s : Nat} (i : Fin 64) : i ∈ fst s ↔ bg s (i.val : Int) = true := by
  unfold fst
  rw [cs_mem _ _ _ (Nat.le_refl _)]
  exact ⟨fun h => h.2, fun h => ⟨i.isLt, h⟩⟩

def rt (f l : Nat) : List UInt8 := if f = l then Lib.decDigits f else Lib.decDigits f ++ 45 :: Lib.decDigits l
def rtx (s : Nat) (i : Fin 64) : List UInt8 := rt i.val (lst s i.val)
def txl (s : Nat) : List (List UInt8) := (fst s).map (rtx s)
/-- The document's text of a set. -/
def txt (s : Nat) : List UInt8 := if s = 0 then [45] else Lib.join (txl s) [44]

theorem fst_ne {s : Nat} (hs : U64 s) (h : s ≠ 0) : fst s ≠ [] := by
  intro h0
  apply h
  apply hs.ext U64.zero
  intro i hi
  rw [Nat.zero_testBit]
  cases hb : s.testBit i with
  | false => rfl
  | true =>
    obtain ⟨f, h1, h2, _⟩ := run_of hs i hb
    have : (⟨f, by omega⟩ : Fin 64) ∈ fst s := (fst_mem _).2 h2
    rw [h0] at this
    cases this

/-- The decimal digits of a number below 100. -/
def dg (n : Nat) : List UInt8 := if n < 10 then [UInt8.ofNat (48 + n)] else [UInt8.ofNat (48 + n / 10), UInt8.ofNat (48 + n % 10)]
theorem dec_dg (n : Nat) (h : n < 64) : Lib.decDigits n = dg n := by
  unfold dg
  split
  · rename_i h1
    rw [Lib.decDigits, dif_pos h1]
  · rename_i h1
    rw [Lib.decDigits, dif_neg h1, Lib.decDigits, dif_pos (by omega)]
    rfl
theorem dg_ok : ∀ n, n < 64 → Lib.atoiAll (dg n) = .ok (n : Int) := by decide
theorem dg_plain : ∀ n, n < 64 → ¬ (45 : UInt8) ∈ dg n ∧ ¬ (44 : UInt8) ∈ dg n ∧ (dg n).length ≤ 2 := by decide
theorem dec_ok (n : Nat) (h : n < 64) : Lib.atoiAll (Lib.decDigits n) = .ok (n : Int) := by rw [dec_dg n h]; exact dg_ok n h
theorem dec_no (n : Nat) (h : n < 64) : ¬ (45 : UInt8) ∈ Lib.decDigits n ∧ ¬ (44 : UInt8) ∈ Lib.decDigits n ∧ (Lib.decDigits n).length ≤ 2 := by rw [dec_dg n h]; exact dg_plain n h
theorem rt_no (f l : Nat) (hf : f < 64) (hl : l < 64) : ¬ (44 : UInt8) ∈ rt f l ∧ (rt f l).length ≤ 5 := by
  obtain ⟨_, h1, h2⟩ := dec_no f hf
  obtain ⟨_, h3, h4⟩ := dec_no l hl
  unfold rt
  split
  · exact ⟨h1, by omega⟩
  · rw [List.length_append, List.length_cons]
    refine ⟨fun h => ?_, by omega⟩
    rcases List.mem_append.1 h with h | h
    · exact h1 h
    · rcases List.mem_cons.1 h with h | h
      · revert h; decide
      · exact h3 h

theorem index_hit (c : UInt8) (b : List UInt8) : ∀ a : List UInt8, c ∉ a → Lib.index (a ++ c :: b) [c] = a.length := by
  intro a
  induction a with
  | nil => intro _; simp [Lib.index]
  | cons x a ih =>
    intro h
    have hx : ¬ c = x := fun e => h (by rw [e]; exact List.mem_cons_self)
    have ha := ih fun e => h (List.mem_cons_of_mem _ e)
    show (if [c].isPrefixOf (x :: (a ++ c :: b)) then (0 : Int) else if Lib.index (a ++ c :: b) [c] == -1 then -1 else Lib.index (a ++ c :: b) [c] + 1) = _
    rw [ha, if_neg (by simp [List.isPrefixOf, hx]), if_neg (by simp), List.length_cons]
    omega
theorem index_miss (c : UInt8) : ∀ a : List UInt8, c ∉ a → Lib.index a [c] = -1 := by
  intro a
  induction a with
  | nil => intro _; simp [Lib.index]
  | cons x a ih =>
    intro h
    have hx : ¬ c = x := fun e => h (by rw [e]; exact List.mem_cons_self)
    have ha := ih fun e => h (List.mem_cons_of_mem _ e)
    show (if [c].isPrefixOf (x :: a) then (0 : Int) else if Lib.index a [c] == -1 then -1 else Lib.index a [c] + 1) = _
    rw [ha, if_neg (by simp [List.isPrefixOf, hx]), if_pos (by simp)]
theorem cut_hit (c : UInt8) (a b : List UInt8) (h : c ∉ a) : Lib.cut (a ++ c :: b) [c] = (a, b, true) := by
  unfold Lib.cut
  rw [index_hit c b a h, if_pos (by omega), Int.toNat_natCast, List.take_left, List.length_singleton]
  congr 2
  rw [← List.drop_drop, List.drop_left]
  rfl
theorem cut_miss (c : UInt8) (a : List UInt8) (h : c ∉ a) : Lib.cut a [c] = (a, [], false) := by
  unfold Lib.cut
  rw [index_miss c a h, if_neg (by omega)]
/-- What is cut is no longer, and what is behind it shorter. -/
theorem cut_len (a : List UInt8) (c : UInt8) : (Lib.cut a [c]).1.length ≤ a.length ∧ (Lib.cut a [c]).2.1.length ≤ a.length ∧ ((Lib.cut a [c]).2.2 = true → (Lib.cut a [c]).2.1.length < a.length) := by
  by_cases h : c ∈ a
  · obtain ⟨x, y, rfl, hx⟩ : ∃ x y, a = x ++ c :: y ∧ c ∉ x := List.eq_append_cons_of_mem h
    rw [cut_hit c x y hx]
    simp only [List.length_append, List.length_cons]
    exact ⟨by omega, by omega, fun _ => by omega⟩
  · rw [cut_miss c a h]
    exact ⟨Nat.le_refl _, by simp, fun h => by cases h⟩

theorem join_two (x y : List UInt8) (r : List (List UInt8)) (c : UInt8) : Lib.join (x :: y :: r) [c] = x ++ c :: Lib.join (y :: r) [c] := by
  rw [Lib.join_cons, Lib.join_cons]
  simp [Lib.joinTail]
theorem join_len (c : UInt8) (n : Nat) : ∀ xs : List (List UInt8), (∀ x ∈ xs, x.length ≤ n) → (Lib.join xs [c]).length ≤ (n + 1) * xs.length := by
  intro xs
  induction xs with
  | nil => intro _; simp [Lib.join_nil]
  | cons x xs ih =>
    intro h
    have hx := h x List.mem_cons_self
    have hi := ih fun y hy => h y (List.mem_cons_of_mem _ hy)
    cases xs with
    | nil => rw [Lib.join_one]; simp; omega
    | cons y r =>
      rw [join_two, List.length_append, List.length_cons, List.length_cons, Nat.mul_add]
      omega
theorem join_snoc (c : UInt8) (y : List UInt8) : ∀ xs : List (List UInt8), xs ≠ [] → Lib.join (xs ++ [y]) [c] = Lib.join xs [c] ++ c :: y := by
  intro xs
  induction xs with
  | nil => intro h; exact absurd rfl h
  | cons x xs ih =>
    intro _
    cases xs with
    | nil => rw [List.singleton_append, join_two, Lib.join_one, Lib.join_one]
    | cons z r =>
      have := ih (by simp)
      rw [List.cons_append, List.cons_append, join_two, ← List.cons_append, this, join_two, List.append_assoc, List.cons_append]

theorem rtx_len {s : Nat} (hs : U64 s) (i : Fin 64) : (rtx s i).length ≤ 5 ∧ (44 : UInt8) ∉ rtx s i := ⟨(rt_no _ _ i.isLt (lst_lt hs i.isLt)).2, (rt_no _ _ i.isLt (lst_lt hs i.isLt)).1⟩
theorem fst_len (s : Nat) : (fst s).length ≤ 64 := cs_len _ _
theorem txl_len (s : Nat) : (txl s).length ≤ 64 := by unfold txl; rw [List.length_map]; exact fst_len s
theorem txl_join {s : Nat} (hs : U64 s) : (Lib.join (txl s) [44]).length ≤ 384 := by
  have h1 := join_len 44 5 (txl s) (fun x hx => by
    unfold txl at hx
    obtain ⟨i, _, rfl⟩ := List.mem_map.1 hx
    exact (rtx_len hs i).1)
  have h2 := txl_len s
  omega
theorem txt_len {s : Nat} (hs : U64 s) : (txt s).length ≤ 384 := by
  unfold txt
  split
  · decide
  · exact txl_join hs
end Go.Proofs.YtjmnclneopofhaaDoor
