/-
  Plain facts: a merge in place by rotations (the stable sort's). Nothing of Go is named here.
-/
import Derived.Test.YtoeeighfjoplhaaWords
namespace Go.Proofs.Ytoeeighfjoplhaa

/-- A strict order, as far as it is needed. -/
structure Ord (R : Int → Int → Prop) : Prop where
  tr : ∀ {x y z}, R x y → R y z → R x z
def Srt (R : Int → Int → Prop) (a b : Nat) (f : Nat → Int) : Prop := ∀ i j, a ≤ i → i < j → j < b → R (f i) (f j)
/-- What stands in [s, e) turned about m: the right part first. -/
def rotF (s m e : Nat) (f : Nat → Int) : Nat → Int := fun k => if s ≤ k ∧ k < s + (e - m) then f (m + (k - s)) else if s + (e - m) ≤ k ∧ k < e then f (s + (k - (s + (e - m)))) else f k
section
variable {R : Int → Int → Prop} {a b m s e mid : Nat} {f : Nat → Int}
theorem Srt.le (h : Srt R a b f) {i j : Nat} (hi : a ≤ i) (hij : i ≤ j) (hj : j < b) : f i = f j ∨ R (f i) (f j) := by
  rcases Nat.lt_or_eq_of_le hij with h1 | h1
  · exact .inr (h i j hi h1 hj)
  · exact .inl (by rw [h1])
theorem Srt.mono (h : Srt R a b f) {a' b' : Nat} (ha : a ≤ a') (hb : b' ≤ b) : Srt R a' b' f := fun i j h1 h2 h3 => h i j (by omega) h2 (by omega)
theorem rot_left {k : Nat} (h : k < s) : rotF s m e f k = f k := by unfold rotF; rw [if_neg (by omega), if_neg (by omega)]
theorem rot_right {k : Nat} (hm : s ≤ m) (he : m ≤ e) (h : e ≤ k) : rotF s m e f k = f k := by unfold rotF; rw [if_neg (by omega), if_neg (by omega)]
theorem rot_one {k : Nat} (h : s ≤ k) (h2 : k < s + (e - m)) : rotF s m e f k = f (m + (k - s)) := by unfold rotF; rw [if_pos ⟨h, h2⟩]
theorem rot_two {k : Nat} (h : s + (e - m) ≤ k) (h2 : k < e) : rotF s m e f k = f (s + (k - (s + (e - m)))) := by unfold rotF; rw [if_neg (by omega), if_pos ⟨h, h2⟩]
/-- Behind the search, and the rotation: each half is two rows in order, and all of the first half stands ahead of all of the second. -/
theorem sym_cross (hR : Ord R) (hl : Srt R a m f) (hr : Srt R m b f) (has : a ≤ s) (hsm : s ≤ m) (hsd : s ≤ mid) (hme : m ≤ e) (heb : e ≤ b) (hed : e = mid + m - s)
    (h1 : a < s → e < b → R (f (s - 1)) (f e)) (h2 : s < m → m < e → R (f (e - 1)) (f s)) :
    (∀ i j, a ≤ i → i < mid → mid ≤ j → j < b → R (rotF s m e f i) (rotF s m e f j)) ∧ Srt R a s (rotF s m e f) ∧ Srt R s mid (rotF s m e f) ∧ Srt R mid e (rotF s m e f) ∧ Srt R e b (rotF s m e f) := by
  have hmid : s + (e - m) = mid := by omega
  refine ⟨fun i j hi him hj hjb => ?_, fun i j hi hij hj => ?_, fun i j hi hij hj => ?_, fun i j hi hij hj => ?_, fun i j hi hij hj => ?_⟩
  · by_cases his : i < s
    · rw [rot_left his]
      by_cases hje : j < e
      · rw [rot_two (by omega) hje]
        exact hl _ _ hi (by omega) (by omega)
      · rw [rot_right hsm hme (by omega)]
        have h := h1 (by omega) (by omega)
        have hx : R (f i) (f e) := by
          rcases hl.le (i := i) (j := s - 1) hi (by omega) (by omega) with h3 | h3
          · rw [h3]; exact h
          · exact hR.tr h3 h
        rcases hr.le (i := e) (j := j) hme (by omega) hjb with h3 | h3
        · rw [← h3]; exact hx
        · exact hR.tr hx h3
    · rw [rot_one (by omega) (by omega)]
      by_cases hje : j < e
      · rw [rot_two (by omega) hje]
        have h := h2 (by omega) (by omega)
        have hx : R (f (m + (i - s))) (f s) := by
          rcases hr.le (i := m + (i - s)) (j := e - 1) (by omega) (by omega) (by omega) with h3 | h3
          · rw [h3]; exact h
          · exact hR.tr h3 h
        rcases hl.le (i := s) (j := s + (j - (s + (e - m)))) has (by omega) (by omega) with h3 | h3
        · rw [← h3]; exact hx
        · exact hR.tr hx h3
      · rw [rot_right hsm hme (by omega)]
        exact hr _ _ (by omega) (by omega) hjb
  · rw [rot_left (by omega), rot_left hj]
    exact hl _ _ hi hij (by omega)
  · rw [rot_one hi (by omega), rot_one (by omega) (by omega)]
    exact hr _ _ (by omega) (by omega) (by omega)
  · rw [rot_two (by omega) (by omega), rot_two (by omega) hj]
    exact hl _ _ (by omega) (by omega) (by omega)
  · rw [rot_right hsm hme hi, rot_right hsm hme (by omega)]
    exact hr _ _ (by omega) hij hj
/-- Two halves in order, the first ahead of the second, are a row in order. -/
theorem Srt.join (h1 : Srt R a mid f) (h2 : Srt R mid b f) (h : ∀ i j, a ≤ i → i < mid → mid ≤ j → j < b → R (f i) (f j)) : Srt R a b f := fun i j hi hij hj => by
  by_cases hjm : j < mid
  · exact h1 i j hi hij hjm
  · by_cases him : i < mid
    · exact h i j hi him (by omega) hj
    · exact h2 i j (by omega) hij hj
end
end Go.Proofs.Ytoeeighfjoplhaa
