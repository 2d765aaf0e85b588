/-
  Sorted lists: ranks, what is put and dropped, their members; small contracts of shelf.
-/
import Derived.Test.YtpbnmfoecmhnnaaSQ
namespace Go.Proofs.Ytpbnmfoecmhnnaa
open Go.RowKit

/-- Of a sorted list those with a lesser rank are less, all others are not. -/
theorem rnk_le (l : List It) (x : It) : rnk l x ≤ l.length := List.countP_le_length
theorem rnk_split {l : List It} (h : Sorted l) (x : It) {k : Nat} (hk : k < l.length) : ltB (l.getD k it0) x = decide (k < rnk l x) := by
  induction l generalizing k with
  | nil => simp at hk
  | cons a l ih =>
    unfold Sorted at h
    rw [List.pairwise_cons] at h
    cases ha : ltB a x with
    | true =>
      have hr : rnk (a :: l) x = rnk l x + 1 := by simp [rnk, ha]
      rw [hr]
      cases k with
      | zero => simp [List.getD, ha]
      | succ k =>
        have := ih h.2 (k := k) (by simpa using hk)
        simp only [List.getD, List.getElem?_cons_succ] at this ⊢
        rw [this]
        simp
    | false =>
      have h0 : ∀ y ∈ l, ltB y x = false := fun y hy => by
        cases hy2 : ltB y x with
        | false => rfl
        | true => rw [ltB_trans (h.1 y hy) hy2] at ha; cases ha
      have hr : rnk (a :: l) x = 0 := by
        unfold rnk
        rw [List.countP_eq_zero]
        intro y hy
        rcases List.mem_cons.1 hy with rfl | hy
        · simp [ha]
        · simp [h0 y hy]
      rw [hr]
      simp only [Nat.not_lt_zero, decide_false]
      cases k with
      | zero => simpa [List.getD] using ha
      | succ k =>
        have hk' : k < l.length := by simpa using hk
        have : (a :: l).getD (k + 1) it0 = l[k] := by simp [List.getD, hk']
        rw [this]
        exact h0 _ (List.getElem_mem hk')

theorem sorted_split {l : List It} {x : It} (hs : Sorted l) (hx : x ∉ l) : l.filter (fun y => ltB y x) ++ l.filter (fun y => ltB x y) = l := by
  induction l with
  | nil => rfl
  | cons a l ih =>
    unfold Sorted at hs
    rw [List.pairwise_cons] at hs
    have hx' : x ∉ l := fun h => hx (List.mem_cons.2 (.inr h))
    rcases ltB_tri a x with h | h | h
    · rw [List.filter_cons, if_pos h, List.filter_cons, if_neg (by rw [ltB_asymm h]; simp), List.cons_append, ih hs.2 hx']
    · exact absurd (List.mem_cons.2 (.inl h.symm)) hx
    · rw [List.filter_eq_nil_iff.2, List.filter_eq_self.2, List.nil_append]
      · intro y hy
        rcases List.mem_cons.1 hy with rfl | hy
        · exact h
        · exact ltB_trans h (hs.1 y hy)
      · intro y hy
        rcases List.mem_cons.1 hy with rfl | hy
        · rw [ltB_asymm h]; simp
        · rw [ltB_asymm (ltB_trans h (hs.1 y hy))]; simp

theorem putL_old {m : List It} {x : It} (h : x ∈ m) : putL m x = m := by unfold putL; rw [if_pos h]
structure BackM (l : List It) (x : It) : Prop where
  mem : x ∈ putL l x
  drop : dropL (putL l x) x = dropL l x
  len : (putL l x).length = (dropL l x).length + 1
  out : x ∉ dropL l x
  again : dropL (dropL l x) x = dropL l x
  more : x ∉ l → (putL l x).length = l.length + 1
theorem back_m {l : List It} {x : It} (hs : Sorted l) (hs' : Sorted (putL l x)) : BackM l x := by
  have out : x ∉ dropL l x := by
    unfold dropL
    simp
  have mid : ∃ A B, putL l x = A ++ x :: B ∧ dropL l x = A ++ B := by
    by_cases hx : x ∈ l
    · obtain ⟨A, B, rfl⟩ := List.append_of_mem hx
      exact ⟨A, B, by unfold putL; rw [if_pos hx], dropL_mid hs⟩
    · exact ⟨_, _, by unfold putL; rw [if_neg hx], by rw [dropL_not hx]; exact (sorted_split hs hx).symm⟩
  obtain ⟨A, B, e1, e2⟩ := mid
  refine ⟨by rw [e1]; simp, ?_, by rw [e1, e2]; simp; omega, out, dropL_not out, fun hx => ?_⟩
  · rw [e1, e2]
    rw [e1] at hs'
    exact dropL_mid hs'
  · rw [e1]
    rw [dropL_not hx] at e2
    rw [e2]
    simp
    omega

section
variable {w w' : World} {g : Nat} {S : Nat → Prop}
/-- A shelf's blocks, beside what was made in between. -/
def Gap (a b c : Nat) : Nat → Prop := fun k => (a ≤ k ∧ k < b) ∨ c ≤ k
theorem put_gap {a b c : Nat} {l l' : List It} {v : Bool} (h : Shf w g (Gap a b c) l) (hl : l.length < 1000000) (hc : c ≤ w.heap.size) (x : It) (hv : (!decide (x ∈ l)) = v) (hl' : putL l x = l') :
    Calls Try.prog 22 #[.pointer (some ⟨g, 0, none⟩), .agg #[.int .i64 x.key, .int .i64 x.id]] w fun e w' => e = .returned (.bool v) ∧ Kp (Gap a b c) w w' ∧ Shf w' g (Gap a b c) l' :=
  (Put_any h hl x).mono fun e w' ⟨h1, h2, h3⟩ => ⟨by rw [h1, hv], h2, by rw [← hl']; exact h3.mono fun i _ hi => hi.elim id fun h => .inr (Nat.le_trans hc h)⟩
theorem drop_gap {a b c : Nat} {l l' : List It} {v : Bool} (h : Shf w g (Gap a b c) l) (x : It) (hv : decide (x ∈ l) = v) (hl' : dropL l x = l') :
    Calls Try.prog 20 #[.pointer (some ⟨g, 0, none⟩), .agg #[.int .i64 x.key, .int .i64 x.id]] w fun e w' => e = .returned (.bool v) ∧ Kp (Gap a b c) w w' ∧ Shf w' g (Gap a b c) l' :=
  (Drop_any h x).mono fun e w' ⟨h1, h2, h3⟩ => ⟨by rw [h1, hv], h2, by rw [← hl']; exact h3⟩
theorem has_is {l : List It} (h : Shf w g S l) (x : It) {v : Bool} (hv : decide (x ∈ l) = v) :
    Calls Try.prog 25 #[.pointer (some ⟨g, 0, none⟩), .agg #[.int .i64 x.key, .int .i64 x.id]] w fun e w' => e = .returned (.bool v) ∧ Kp No w w' :=
  (Has_any h x).mono fun e w' ⟨h1, h2⟩ => ⟨by rw [h1, hv], h2⟩
theorem len_is {l : List It} (h : Shf w g S l) {m : Nat} (hm : l.length = m) :
    Calls Try.prog 24 #[.pointer (some ⟨g, 0, none⟩)] w fun e w' => e = .returned (.int .i64 (m : Int)) ∧ w = w' := by
  subst hm
  exact Len_any h
end

theorem ltB_self (x : It) : ltB x x = false := by
  cases e : ltB x x with
  | false => rfl
  | true => rw [ltB_asymm e] at e; exact e.symm

/-- Two sorted lists with the same members are one. -/
theorem sorted_ext {a b : List It} (ha : Sorted a) (hb : Sorted b) (h : ∀ x, x ∈ a ↔ x ∈ b) : a = b := by
  induction a generalizing b with
  | nil =>
    cases b with
    | nil => rfl
    | cons y b => exact absurd ((h y).2 (by simp)) (by simp)
  | cons x a ih =>
    cases b with
    | nil => exact absurd ((h x).1 (by simp)) (by simp)
    | cons y b =>
      unfold Sorted at ha hb
      rw [List.pairwise_cons] at ha hb
      have hxy : x = y := by
        rcases List.mem_cons.1 ((h x).1 (by simp)) with e | e
        · exact e
        · rcases List.mem_cons.1 ((h y).2 (by simp)) with f | f
          · exact f.symm
          · have h1 := hb.1 x e
            have h2 := ha.1 y f
            rw [ltB_asymm h1] at h2
            exact absurd h2 (by simp)
      subst hxy
      congr 1
      refine ih ha.2 hb.2 fun z => ⟨fun hz => ?_, fun hz => ?_⟩
      · rcases List.mem_cons.1 ((h z).1 (List.mem_cons.2 (.inr hz))) with e | e
        · subst e
          have := ha.1 z hz
          rw [ltB_self] at this
          exact absurd this (by simp)
        · exact e
      · rcases List.mem_cons.1 ((h z).2 (List.mem_cons.2 (.inr hz))) with e | e
        · subst e
          have := hb.1 z hz
          rw [ltB_self] at this
          exact absurd this (by simp)
        · exact e

theorem mem_putL {l : List It} {x y : It} : y ∈ putL l x ↔ y = x ∨ y ∈ l := by
  unfold putL
  split
  · rename_i h
    exact ⟨.inr, fun e => e.elim (fun e => e ▸ h) id⟩
  · rename_i h
    simp only [List.mem_append, List.mem_cons, List.mem_filter]
    constructor
    · rintro (⟨e, _⟩ | e | ⟨e, _⟩)
      · exact .inr e
      · exact .inl e
      · exact .inr e
    · rintro (e | e)
      · exact .inr (.inl e)
      · rcases ltB_tri y x with f | f | f
        · exact .inl ⟨e, f⟩
        · exact .inr (.inl f)
        · exact .inr (.inr ⟨e, f⟩)
theorem mem_dropL {l : List It} {x y : It} : y ∈ dropL l x ↔ y ∈ l ∧ y ≠ x := by
  unfold dropL
  simp

/-- Every place is come to, going round from b on. -/
theorem round_all {n : Nat} (b : Nat) {j : Nat} (hj : j < n) : ∃ i, i < n ∧ (i + b) % n = j := by
  refine ⟨(j + (n - b % n)) % n, Nat.mod_lt _ (by omega), ?_⟩
  have h1 : b % n < n := Nat.mod_lt _ (by omega)
  rw [Nat.add_mod, Nat.mod_mod, ← Nat.add_mod]
  have h2 : j + (n - b % n) + b = j + n * (b / n + 1) := by
    have := Nat.div_add_mod b n
    rw [Nat.mul_add, Nat.mul_one]
    omega
  rw [h2, Nat.add_mul_mod_self_left, Nat.mod_eq_of_lt hj]
theorem sorted_at {l : List It} (h : Sorted l) {i j : Nat} (hij : i < j) (hj : j < l.length) : ltB (l.getD i it0) (l.getD j it0) = true := by
  unfold Sorted at h
  have := List.pairwise_iff_getElem.1 h i j (by omega) hj hij
  rw [List.getD_eq_getElem?_getD, List.getD_eq_getElem?_getD, List.getElem?_eq_getElem hj, List.getElem?_eq_getElem (show i < l.length by omega)]
  exact this
theorem rnk_at {l : List It} (h : Sorted l) {k : Nat} (hk : k < l.length) : rnk l (l.getD k it0) = k := by
  have h1 := rnk_split h (l.getD k it0) hk
  have h2 : ltB (l.getD k it0) (l.getD k it0) = false := by
    cases e : ltB (l.getD k it0) (l.getD k it0) with
    | false => rfl
    | true => rw [ltB_asymm e] at e; exact e.symm
  rw [h2] at h1
  have h1 := of_decide_eq_false h1.symm
  by_cases h0 : k = 0
  · omega
  · have h3 := rnk_split h (l.getD k it0) (show k - 1 < l.length by omega)
    rw [sorted_at h (show k - 1 < k by omega) hk] at h3
    have := of_decide_eq_true h3.symm
    omega
theorem mem_at {l : List It} {k : Nat} (hk : k < l.length) : l.getD k it0 ∈ l := by
  rw [List.getD_eq_getElem?_getD, List.getElem?_eq_getElem hk]
  exact List.getElem_mem hk

end Go.Proofs.Ytpbnmfoecmhnnaa
