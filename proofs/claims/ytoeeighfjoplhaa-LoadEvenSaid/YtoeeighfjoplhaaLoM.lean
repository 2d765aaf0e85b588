/-
  Plain facts of a stable sort by merging in place.
-/
import Derived.Test.YtoeeighfjoplhaaLoP
namespace Go.Proofs.Ytoeeighfjoplhaa

/-- What the comparison says of two, of which x stood ahead at first. -/
def Sy (c : Int → Int → Int) (R : Int → Int → Prop) (x y : Int) : Prop := (c y x < 0 ∧ R y x) ∨ (¬ c y x < 0 ∧ R x y)
/-- Between the two sides of m. -/
def Crs (c : Int → Int → Int) (R : Int → Int → Prop) (a m b : Nat) (f : Nat → Int) : Prop := ∀ i j, a ≤ i → i < m → m ≤ j → j < b → Sy c R (f i) (f j)
section
variable {R : Int → Int → Prop} {c : Int → Int → Int} {a m b s e mid n : Nat} {f g h : Nat → Int}
theorem Says.crs (h : Says c R a b f) : Crs c R a m b f := fun i j h1 h2 h3 h4 => h j i h1 (by omega) h4
theorem Crs.mono (h : Crs c R a m b f) {a' b' : Nat} (ha : a ≤ a') (hb : b' ≤ b) : Crs c R a' m b' f := fun i j h1 h2 h3 h4 => h i j (by omega) h2 h3 (by omega)
theorem Pm.fromP (p : Pm a b f g) : ∀ k, a ≤ k → k < b → ∃ q, a ≤ q ∧ q < b ∧ g k = f q := p.all (P := fun x => ∃ q, a ≤ q ∧ q < b ∧ x = f q) fun k h1 h2 => ⟨k, h1, h2, rfl⟩
/-- Whatever is permuted on one side of t. -/
theorem Crs.pm {t x y : Nat} (h : Crs c R a t b f) (p : Pm x y f g) (hx : a ≤ x) (hy : y ≤ b) (ht : t ≤ x ∨ y ≤ t) : Crs c R a t b g := fun i j h1 h2 h3 h4 => by
  obtain ⟨i', g1, g2, e1⟩ : ∃ i', a ≤ i' ∧ i' < t ∧ g i = f i' := by
    by_cases hi : x ≤ i ∧ i < y
    · obtain ⟨q, q1, q2, q3⟩ := p.fromP i hi.1 hi.2
      exact ⟨q, by omega, by omega, q3⟩
    · exact ⟨i, h1, h2, p.out (by omega)⟩
  obtain ⟨j', g3, g4, e2⟩ : ∃ j', t ≤ j' ∧ j' < b ∧ g j = f j' := by
    by_cases hj : x ≤ j ∧ j < y
    · obtain ⟨q, q1, q2, q3⟩ := p.fromP j hj.1 hj.2
      exact ⟨q, by omega, by omega, q3⟩
    · exact ⟨j, h3, h4, p.out (by omega)⟩
  rw [e1, e2]
  exact h i' j' g1 g2 g3 g4
theorem rot_id1 : rotF m m e f = f := by
  funext k
  unfold rotF
  (repeat' split) <;> first | (exfalso; omega) | (congr 1; omega) | rfl
theorem rot_id2 : rotF s m m f = f := by
  funext k
  unfold rotF
  (repeat' split) <;> first | (exfalso; omega) | (congr 1; omega) | rfl
/-- One goes up, step by step. -/
theorem rot_up {k : Nat} (h : a ≤ k) : swp2 k (k + 1) (rotF a (a + 1) (k + 1) f) = rotF a (a + 1) (k + 2) f := by
  funext j
  unfold swp2 rotF
  (repeat' split) <;> first | (exfalso; omega) | (congr 1; omega) | rfl
/-- One goes down, step by step. -/
theorem rot_dn {k : Nat} (h : k + 1 ≤ m) : swp2 (k + 1) k (rotF (k + 1) m (m + 1) f) = rotF k m (m + 1) f := by
  funext j
  unfold swp2 rotF
  (repeat' split) <;> first | (exfalso; omega) | (congr 1; omega) | rfl
/-- The one on the left goes to its place. -/
theorem one_up (hr : Srt R (a + 1) b f) {i : Nat} (hi : a + 1 ≤ i) (hib : i ≤ b) (h1 : ∀ j, a + 1 ≤ j → j < i → R (f j) (f a)) (h2 : ∀ j, i ≤ j → j < b → R (f a) (f j)) : Srt R a b (rotF a (a + 1) i f) := by
  have e1 : ∀ k, a ≤ k → k + 1 < i → rotF a (a + 1) i f k = f (k + 1) := fun k g1 g2 => by rw [rot_one g1 (by omega)]; congr 1; omega
  have e2 : rotF a (a + 1) i f (i - 1) = f a := by rw [rot_two (by omega) (by omega)]; congr 1; omega
  have e3 : ∀ k, i ≤ k → rotF a (a + 1) i f k = f k := fun k g => rot_right (by omega) hi g
  intro x y hx hxy hy
  by_cases c1 : y + 1 < i
  · rw [e1 x hx (by omega), e1 y (by omega) c1]
    exact hr _ _ (by omega) (by omega) (by omega)
  · by_cases c2 : y + 1 = i
    · obtain rfl : y = i - 1 := by omega
      rw [e1 x hx (by omega), e2]
      exact h1 _ (by omega) (by omega)
    · rw [e3 y (by omega)]
      by_cases c3 : x + 1 < i
      · rw [e1 x hx c3]
        exact hr _ _ (by omega) (by omega) (by omega)
      · by_cases c4 : x + 1 = i
        · obtain rfl : x = i - 1 := by omega
          rw [e2]
          exact h2 _ (by omega) hy
        · rw [e3 x (by omega)]
          exact hr _ _ (by omega) hxy hy
/-- The one on the right goes to its place. -/
theorem one_dn (hl : Srt R a m f) {i : Nat} (hi : a ≤ i) (him : i ≤ m) (h1 : ∀ j, a ≤ j → j < i → R (f j) (f m)) (h2 : ∀ j, i ≤ j → j < m → R (f m) (f j)) : Srt R a (m + 1) (rotF i m (m + 1) f) := by
  have e1 : ∀ k, k < i → rotF i m (m + 1) f k = f k := fun k g => rot_left g
  have e2 : rotF i m (m + 1) f i = f m := by rw [rot_one (Nat.le_refl _) (by omega)]; congr 1; omega
  have e3 : ∀ k, i < k → k ≤ m → rotF i m (m + 1) f k = f (k - 1) := fun k g1 g2 => by rw [rot_two (by omega) (by omega)]; congr 1; omega
  intro x y hx hxy hy
  by_cases c1 : y < i
  · rw [e1 x (by omega), e1 y c1]
    exact hl _ _ hx hxy (by omega)
  · by_cases c2 : y = i
    · subst c2
      rw [e1 x hxy, e2]
      exact h1 _ hx hxy
    · rw [e3 y (by omega) (by omega)]
      by_cases c3 : x < i
      · rw [e1 x c3]
        exact hl _ _ hx (by omega) (by omega)
      · by_cases c4 : x = i
        · subst c4
          rw [e2]
          exact h2 _ (by omega) (by omega)
        · rw [e3 x (by omega) (by omega)]
          exact hl _ _ (by omega) (by omega) (by omega)
/-- The two smaller merges have their two sides. -/
theorem Crs.rotL (h : Crs c R a m b f) (hs : s ≤ m) (hm : m ≤ e) (he : e ≤ b) (hd : s + (e - m) = mid) : Crs c R a s mid (rotF s m e f) := fun i j h1 h2 h3 h4 => by
  rw [rot_left h2, rot_one h3 (by omega)]
  exact h i _ h1 (by omega) (by omega) (by omega)
theorem Crs.rotR (h : Crs c R a m b f) (ha : a ≤ s) (hs : s ≤ m) (hm : m ≤ e) (hd : s + (e - m) = mid) : Crs c R mid e b (rotF s m e f) := fun i j h1 h2 h3 h4 => by
  rw [rot_two (by omega) h2, rot_right hs hm h3]
  exact h _ j (by omega) (by omega) (by omega) h4
/-- Both smaller merges done. -/
theorem merged (hx : ∀ i j, a ≤ i → i < mid → mid ≤ j → j < b → R (f i) (f j)) (p : Pm a mid f g) (s : Srt R a mid g) (q : Pm mid b g h) (t : Srt R mid b h) : Srt R a b h := by
  have hx2 : ∀ i j, a ≤ i → i < mid → mid ≤ j → j < b → R (g i) (g j) := fun i j h1 h2 h3 h4 => by
    rw [p.out (k := j) (.inr h3)]
    exact p.all (P := fun x => R x (f j)) (fun k g1 g2 => hx k j g1 g2 h3 h4) i h1 h2
  have hx3 : ∀ i j, a ≤ i → i < mid → mid ≤ j → j < b → R (h i) (h j) := fun i j h1 h2 h3 h4 => by
    rw [q.out (k := i) (.inl h2)]
    exact q.all (P := fun x => R (g i) x) (fun k g1 g2 => hx2 i k h1 h2 g1 g2) j h3 h4
  exact Srt.join (fun i j h1 h2 h3 => by rw [q.out (k := i) (.inl (by omega)), q.out (k := j) (.inl h3)]; exact s i j h1 h2 h3) t hx3
end
end Go.Proofs.Ytoeeighfjoplhaa
