/-
  Plain facts of a quicksort and a heap sort: over functions from places to ints.
-/
import Derived.Test.YtoeeighfjoplhaaLoU
namespace Go.Proofs.Ytoeeighfjoplhaa

/-- A strict order on some ints, each two of which it parts, and a comparison that tells it. -/
structure Tot (R : Int → Int → Prop) (V : Int → Prop) (c : Int → Int → Int) : Prop where
  ord : Ord R
  irr : ∀ x, ¬ R x x
  tri : ∀ {x y}, V x → V y → x = y ∨ R x y ∨ R y x
  lt : ∀ {x y}, V x → V y → (c x y < 0 ↔ R x y)
/-- No int stands twice. -/
def Dis (n : Nat) (f : Nat → Int) : Prop := ∀ i j, i < n → j < n → f i = f j → i = j
theorem Dis.swp {n x y : Nat} {f : Nat → Int} (h : Dis n f) (hx : x < n) (hy : y < n) : Dis n (swp2 x y f) := by
  intro i j hi hj e
  unfold swp2 at e
  have hh := fun p q (hp : p < n) (hq : q < n) (e : f p = f q) => h p q hp hq e
  by_cases h1 : i = x
  · by_cases h2 : j = x
    · omega
    · by_cases h3 : j = y
      · rw [if_pos h1, if_neg h2, if_pos h3] at e
        have := hh _ _ hy hx e
        omega
      · rw [if_pos h1, if_neg h2, if_neg h3] at e
        have := hh _ _ hy hj e
        omega
  · by_cases h1y : i = y
    · by_cases h2 : j = x
      · rw [if_neg h1, if_pos h1y, if_pos h2] at e
        have := hh _ _ hx hy e
        omega
      · by_cases h3 : j = y
        · omega
        · rw [if_neg h1, if_pos h1y, if_neg h2, if_neg h3] at e
          have := hh _ _ hx hj e
          omega
    · by_cases h2 : j = x
      · rw [if_neg h1, if_neg h1y, if_pos h2] at e
        have := hh _ _ hi hy e
        omega
      · by_cases h3 : j = y
        · rw [if_neg h1, if_neg h1y, if_neg h2, if_pos h3] at e
          have := hh _ _ hi hx e
          omega
        · rw [if_neg h1, if_neg h1y, if_neg h2, if_neg h3] at e
          exact hh _ _ hi hj e
theorem Pm.dis {a b n : Nat} {f g : Nat → Int} (p : Pm a b f g) (hb : b ≤ n) (h : Dis n f) : Dis n g := by
  induction p with
  | rfl' => exact h
  | sw _ h1 h2 h3 h4 ih => exact ih.swp (by omega) (by omega)
theorem swp2_same (x : Nat) (f : Nat → Int) : swp2 x x f = f := by
  funext k
  unfold swp2
  by_cases h : k = x
  · rw [if_pos h, h]
  · rw [if_neg h, if_neg h]
theorem swp2_l (x y : Nat) (f : Nat → Int) : swp2 x y f x = f y := by unfold swp2; rw [if_pos rfl]
theorem swp2_r (x y : Nat) (f : Nat → Int) : swp2 x y f y = f x := by
  unfold swp2
  split
  · rename_i h; rw [h]
  · rw [if_pos rfl]
theorem swp2_o {x y k : Nat} (f : Nat → Int) (h1 : k ≠ x) (h2 : k ≠ y) : swp2 x y f k = f k := by unfold swp2; rw [if_neg h1, if_neg h2]
section
variable {R : Int → Int → Prop} {V : Int → Prop} {c : Int → Int → Int} {a b n : Nat} {f g : Nat → Int}
theorem Tot.nle (h : Tot R V c) {x y : Int} (hx : V x) (hy : V y) (h1 : ¬ c x y < 0) (hne : x ≠ y) : R y x := by
  rcases h.tri hx hy with e | e | e
  · exact absurd e hne
  · exact absurd ((h.lt hx hy).2 e) h1
  · exact e
theorem Tot.asym (h : Tot R V c) {x y : Int} (h1 : R x y) (h2 : R y x) : False := h.irr _ (h.ord.tr h1 h2)
/-- What it says of a row without twins. -/
theorem Tot.says (h : Tot R V c) (hV : ∀ k, k < n → V (f k)) (hd : Dis n f) (hb : b ≤ n) : Says c R a b f := fun i p h1 h2 h3 => by
  by_cases hc : c (f i) (f p) < 0
  · exact .inl ⟨hc, (h.lt (hV i (by omega)) (hV p (by omega))).1 hc⟩
  · refine .inr ⟨hc, h.nle (hV i (by omega)) (hV p (by omega)) hc fun e => ?_⟩
    have := hd i p (by omega) (by omega) e
    omega
/-- In order, where none stands below one ahead of it. -/
theorem Tot.srt (h : Tot R V c) (hV : ∀ k, k < n → V (f k)) (hd : Dis n f) (hb : b ≤ n) (hs : ∀ i j, a ≤ i → i < j → j < b → ¬ R (f j) (f i)) : Srt R a b f := fun i j h1 h2 h3 => by
  rcases h.tri (hV i (by omega)) (hV j (by omega)) with e | e | e
  · have := hd i j (by omega) (by omega) e
    omega
  · exact e
  · exact absurd e (hs i j h1 h2 h3)
/-- In order, where each next two are. -/
theorem Srt.next (hR : Ord R) (h : ∀ i, a < i → i < b → R (f (i - 1)) (f i)) : Srt R a b f := by
  intro i j hi hij hj
  induction j with
  | zero => omega
  | succ j ih =>
    have hs := h (j + 1) (by omega) hj
    rw [Nat.add_sub_cancel] at hs
    by_cases he : i = j
    · rw [he]; exact hs
    · exact hR.tr (ih (by omega) (by omega)) hs
end
/-! ### The quicksort's step -/
/-- About the place m all lie as they shall. -/
structure Part (R : Int → Int → Prop) (a b m : Nat) (f : Nat → Int) : Prop where
  am : a ≤ m
  mb : m < b
  left : ∀ k, a ≤ k → k < m → R (f k) (f m)
  right : ∀ k, m < k → k < b → R (f m) (f k)
section
variable {R : Int → Int → Prop} {a b m : Nat} {f g h : Nat → Int}
/-- When the left side has been put in order, and then the right one is. -/
theorem Part.goRight (hR : Ord R) (hp : Part R a b m f) (p : Pm a m f g) (s : Srt R a m g) (q : Pm (m + 1) b g h) (t : Srt R (m + 1) b h) : Srt R a b h := by
  have e1 : ∀ k, k ≤ m → h k = g k := fun k hk => q.out (.inl (by omega))
  have e2 : ∀ k, m ≤ k → g k = f k := fun k hk => p.out (.inr hk)
  have l1 : ∀ k, a ≤ k → k < m → R (h k) (h m) := fun k h1 h2 => by
    rw [e1 k (by omega), e1 m (Nat.le_refl _), e2 m (Nat.le_refl _)]
    exact p.all (P := fun x => R x (f m)) (fun k h1 h2 => hp.left k h1 h2) k h1 h2
  have l2 : ∀ k, m < k → k < b → R (h m) (h k) := fun k h1 h2 => by
    rw [e1 m (Nat.le_refl _), e2 m (Nat.le_refl _)]
    exact q.all (P := fun x => R (f m) x) (fun k h1 h2 => by rw [e2 k (by omega)]; exact hp.right k (by omega) h2) k (by omega) h2
  intro i j hi hij hj
  by_cases h1 : j < m
  · rw [e1 i (by omega), e1 j (by omega)]
    exact s i j hi hij h1
  · by_cases h2 : j = m
    · subst h2
      exact l1 i hi hij
    · by_cases h3 : i < m
      · exact hR.tr (l1 i hi h3) (l2 j (by omega) hj)
      · by_cases h4 : i = m
        · subst h4
          exact l2 j hij hj
        · exact t i j (by omega) hij hj
/-- When the right side has been put in order, and then the left one is. -/
theorem Part.goLeft (hR : Ord R) (hp : Part R a b m f) (p : Pm (m + 1) b f g) (s : Srt R (m + 1) b g) (q : Pm a m g h) (t : Srt R a m h) : Srt R a b h := by
  have e1 : ∀ k, m ≤ k → h k = g k := fun k hk => q.out (.inr hk)
  have e2 : ∀ k, k ≤ m → g k = f k := fun k hk => p.out (.inl (by omega))
  have l1 : ∀ k, a ≤ k → k < m → R (h k) (h m) := fun k h1 h2 => by
    rw [e1 m (Nat.le_refl _), e2 m (Nat.le_refl _)]
    exact q.all (P := fun x => R x (f m)) (fun k h1 h2 => by rw [e2 k (by omega)]; exact hp.left k h1 h2) k h1 h2
  have l2 : ∀ k, m < k → k < b → R (h m) (h k) := fun k h1 h2 => by
    rw [e1 m (Nat.le_refl _), e2 m (Nat.le_refl _), e1 k (by omega)]
    exact p.all (P := fun x => R (f m) x) (fun k h1 h2 => hp.right k (by omega) h2) k (by omega) h2
  intro i j hi hij hj
  by_cases h1 : j < m
  · exact t i j hi hij h1
  · by_cases h2 : j = m
    · subst h2
      exact l1 i hi hij
    · by_cases h3 : i < m
      · exact hR.tr (l1 i hi h3) (l2 j (by omega) hj)
      · by_cases h4 : i = m
        · subst h4
          exact l2 j hij hj
        · rw [e1 i (by omega), e1 j (by omega)]
          exact s i j (by omega) hij hj
/-- What stands ahead of a stretch stands ahead of it, however it is permuted. -/
def Ahead (R : Int → Int → Prop) (a b : Nat) (f : Nat → Int) : Prop := a = 0 ∨ ∀ k, a ≤ k → k < b → R (f (a - 1)) (f k)
theorem Ahead.pm (ha : Ahead R a b f) (p : Pm a b f g) : Ahead R a b g := by
  rcases ha with ha | ha
  · exact .inl ha
  · by_cases h0 : a = 0
    · exact .inl h0
    · refine .inr fun k h1 h2 => ?_
      rw [p.out (.inl (by omega))]
      exact p.all (P := fun x => R (f (a - 1)) x) ha k h1 h2
theorem Ahead.left (ha : Ahead R a b f) (hm : m ≤ b) : Ahead R a m f := ha.imp id fun h k h1 h2 => h k h1 (by omega)
theorem Part.ahead (hp : Part R a b m f) : Ahead R (m + 1) b f := .inr fun k h1 h2 => by
  rw [Nat.add_sub_cancel]
  exact hp.right k h1 h2
end
/-! ### A heap -/
/-- Each place from r on but one stands not below those below it. -/
def HpB (R : Int → Int → Prop) (a hi lo r : Nat) (f : Nat → Int) : Prop := ∀ i, lo ≤ i → i ≠ r → ∀ k, k = 2 * i + 1 ∨ k = 2 * i + 2 → k < hi → ¬ R (f (a + i)) (f (a + k))
/-- What lies below r does not stand above what r lies below. -/
def HpU (R : Int → Int → Prop) (a hi lo r : Nat) (f : Nat → Int) : Prop := ∀ p, lo ≤ p → (r = 2 * p + 1 ∨ r = 2 * p + 2) → ∀ k, k = 2 * r + 1 ∨ k = 2 * r + 2 → k < hi → ¬ R (f (a + p)) (f (a + k))
/-- A heap from lo on. -/
def Hp (R : Int → Int → Prop) (a hi lo : Nat) (f : Nat → Int) : Prop := ∀ i, lo ≤ i → ∀ k, k = 2 * i + 1 ∨ k = 2 * i + 2 → k < hi → ¬ R (f (a + i)) (f (a + k))
section
variable {R : Int → Int → Prop} {V : Int → Prop} {c : Int → Int → Int} {a hi lo r n : Nat} {f : Nat → Int}
theorem Hp.start (h : Hp R a hi (lo + 1) f) : HpB R a hi lo lo f ∧ HpU R a hi lo lo f :=
  ⟨fun i h1 h2 k hk hkh => h i (by omega) k hk hkh, fun p h1 h2 => by omega⟩
theorem HpB.stop (h : HpB R a hi lo r f) (hr : ∀ k, k = 2 * r + 1 ∨ k = 2 * r + 2 → k < hi → ¬ R (f (a + r)) (f (a + k))) : Hp R a hi lo f := fun i h1 k hk hkh => by
  by_cases he : i = r
  · rw [he] at hk ⊢
    exact hr k hk hkh
  · exact h i h1 he k hk hkh
theorem Hp.none (h : hi ≤ 2 * lo + 1) : Hp R a hi lo f := fun i h1 k hk hkh => by omega
/-- Down to that child that does not stand below the other one. -/
theorem HpB.down (ht : Tot R V c) (hlr : lo ≤ r) (hB : HpB R a hi lo r f) (hU : HpU R a hi lo r f) {m : Nat} (hm : m = 2 * r + 1 ∨ m = 2 * r + 2) (hmh : m < hi) (hlt : R (f (a + r)) (f (a + m)))
    (hbig : ∀ k, k = 2 * r + 1 ∨ k = 2 * r + 2 → k < hi → ¬ R (f (a + m)) (f (a + k))) :
    HpB R a hi lo m (swp2 (a + r) (a + m) f) ∧ HpU R a hi lo m (swp2 (a + r) (a + m) f) := by
  have er : swp2 (a + r) (a + m) f (a + r) = f (a + m) := swp2_l _ _ _
  have em : swp2 (a + r) (a + m) f (a + m) = f (a + r) := swp2_r _ _ _
  have eo : ∀ k, k ≠ r → k ≠ m → swp2 (a + r) (a + m) f (a + k) = f (a + k) := fun k h1 h2 => swp2_o f (by omega) (by omega)
  refine ⟨fun i h1 h2 k hk hkh => ?_, fun p h1 h2 k hk hkh => ?_⟩
  · by_cases hir : i = r
    · subst hir
      rw [er]
      by_cases hkm : k = m
      · subst hkm
        rw [em]
        exact fun h => ht.asym h hlt
      · rw [eo k (by omega) hkm]
        exact hbig k hk hkh
    · rw [eo i hir h2]
      by_cases hkr : k = r
      · subst hkr
        rw [er]
        exact hU i h1 hk m hm hmh
      · have hkm : k ≠ m := by
          rintro rfl
          omega
        rw [eo k hkr hkm]
        exact hB i h1 hir k hk hkh
  · have hpr : p = r := by omega
    subst hpr
    rw [er, eo k (by omega) (by omega)]
    exact hB m (by omega) (by omega) k hk hkh
/-- The first one of a heap stands below none. -/
theorem Hp.top (ht : Tot R V c) (hV : ∀ k, k < n → V (f k)) (hn : a + hi ≤ n) (h : Hp R a hi 0 f) : ∀ k, k < hi → ¬ R (f a) (f (a + k)) := by
  intro k
  induction k using Nat.strongRecOn with
  | ind k ih =>
    intro hk
    by_cases h0 : k = 0
    · subst h0
      exact ht.irr _
    · have hp := ih ((k - 1) / 2) (by omega) (by omega)
      have hq := h ((k - 1) / 2) (Nat.zero_le _) k (by omega) hk
      intro hlt
      rcases ht.tri (hV (a + (k - 1) / 2) (by omega)) (hV (a + k) (by omega)) with e | e | e
      · rw [e] at hp
        exact hp hlt
      · exact hq e
      · exact hp (ht.ord.tr hlt e)
/-- What is in order behind place i, and not below what lies ahead of it. -/
structure Tail (R : Int → Int → Prop) (a i hi : Nat) (f : Nat → Int) : Prop where
  srt : ∀ p q, i ≤ p → p < q → q < hi → ¬ R (f (a + q)) (f (a + p))
  ab : ∀ p q, p < i → i ≤ q → q < hi → ¬ R (f (a + q)) (f (a + p))
/-- The greatest one is taken off. -/
theorem Tail.pop (ht : Tot R V c) (hV : ∀ k, k < n → V (f k)) {i : Nat} (hn : a + hi ≤ n) (hi' : i < hi) (hH : Hp R a (i + 1) 0 f) (hT : Tail R a (i + 1) hi f) {g : Nat → Int} (p : Pm a (a + i) (swp2 a (a + i) f) g) : Tail R a i hi g := by
  have ht0 := hH.top ht hV (by omega)
  have e0 : g (a + i) = f a := by rw [p.out (.inr (Nat.le_refl _)), swp2_r]
  have e1 : ∀ q, i < q → g (a + q) = f (a + q) := fun q hq => by rw [p.out (.inr (by omega)), swp2_o f (by omega) (by omega)]
  have e2 : ∀ (P : Int → Prop), (∀ q, q ≤ i → P (f (a + q))) → ∀ q, q < i → P (g (a + q)) := fun P hP q hq => p.all (P := P) (fun k h1 h2 => by
    obtain ⟨j, rfl⟩ : ∃ j, k = a + j := ⟨k - a, by omega⟩
    by_cases hj : j = 0
    · subst hj
      rw [Nat.add_zero, swp2_l]
      exact hP i (Nat.le_refl _)
    · rw [swp2_o f (by omega) (by omega)]
      exact hP j (by omega)) (a + q) (by omega) (by omega)
  refine ⟨fun p' q h1 h2 h3 => ?_, fun p' q h1 h2 h3 => ?_⟩
  · by_cases hp : p' = i
    · subst hp
      rw [e0, e1 q h2]
      have := hT.ab 0 q (by omega) (by omega) h3
      rwa [Nat.add_zero] at this
    · rw [e1 p' (by omega), e1 q (by omega)]
      exact hT.srt p' q (by omega) h2 h3
  · by_cases hq : q = i
    · subst hq
      rw [e0]
      exact e2 (fun x => ¬ R (f a) x) (fun q hq => ht0 q (by omega)) p' h1
    · rw [e1 q (by omega)]
      exact e2 (fun x => ¬ R (f (a + q)) x) (fun q' hq' => hT.ab q' q (by omega) (by omega) h3) p' h1
end
end Go.Proofs.Ytoeeighfjoplhaa
