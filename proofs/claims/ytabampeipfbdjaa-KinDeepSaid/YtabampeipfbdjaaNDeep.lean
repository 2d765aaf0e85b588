/-
  Plain facts on trees of groups: two chains, one below the other one's foot. Nothing of Go is named here.
-/
import Derived.Test.YtabampeipfbdjaaNMovB
namespace Go.Proofs.Ytabampeipfbdjaa

section
variable {T : Tre} {D : Int → Nat} {id p : Int}
theorem par_hang {q : Int × List Int} (hp : T p = some q) (hn : T id = none) (x : Int) : par (hangT T id p []) x = if x = id then p else par T x := by
  have h := hang_at (ks := []) (id := id) hp x
  by_cases e1 : x = p
  · rw [if_pos e1] at h
    have e2 : x ≠ id := fun e => by rw [← e1, e, hn] at hp; cases hp
    rw [par_some h, if_neg e2, e1, par_some hp]
  · rw [if_neg e1] at h
    by_cases e2 : x = id
    · rw [if_pos e2] at h
      rw [par_some h, if_pos e2]
    · rw [if_neg e2] at h
      rw [if_neg e2]
      unfold par
      rw [h]
theorem some_hang {q : Int × List Int} (hp : T p = some q) (x : Int) : (∃ a, hangT T id p [] x = some a) ↔ (∃ a, T x = some a) ∨ x = id := by
  rw [hang_at hp]
  by_cases e1 : x = p
  · rw [if_pos e1]
    exact ⟨fun _ => .inl ⟨q, by rw [e1]; exact hp⟩, fun _ => ⟨_, rfl⟩⟩
  · rw [if_neg e1]
    by_cases e2 : x = id
    · rw [if_pos e2]
      exact ⟨fun _ => .inr e2, fun _ => ⟨_, rfl⟩⟩
    · rw [if_neg e2]
      exact ⟨fun h => .inl h, fun h => h.resolve_right e2⟩
/-- Groups below one another from 1 to m, and i more from 100 on. -/
structure Ch (T : Tre) (D : Int → Nat) (m i : Nat) : Prop where
  w : WT T D
  ex : ∀ x, (∃ a, T x = some a) ↔ (0 ≤ x ∧ x ≤ (m : Int)) ∨ (100 ≤ x ∧ x < 100 + (i : Int))
  d1 : ∀ x : Int, 0 ≤ x → x ≤ (m : Int) → (D x : Int) = x
  d2 : ∀ x : Int, 100 ≤ x → x < 100 + (i : Int) → (D x : Int) = x - 99
  p1 : ∀ x : Int, 1 ≤ x → x ≤ (m : Int) → par T x = x - 1
  p2 : ∀ x : Int, 100 ≤ x → x < 100 + (i : Int) → par T x = if x = 100 then 0 else x - 1
  hm : m ≤ 16
  hi : i ≤ 8
theorem Ch.new : Ch newT (fun _ => 0) 0 0 where
  w := WT.new
  ex := fun x => by
    unfold newT
    by_cases h : x = 0
    · rw [if_pos h]; exact ⟨fun _ => .inl (by omega), fun _ => ⟨_, rfl⟩⟩
    · rw [if_neg h]; exact ⟨fun ⟨_, e⟩ => (by cases e), fun e => (by omega)⟩
  d1 := fun x h1 h2 => by omega
  d2 := fun x h1 h2 => by omega
  p1 := fun x h1 h2 => by omega
  p2 := fun x h1 h2 => by omega
  hm := by omega
  hi := by omega
section
variable {m i : Nat}
theorem Ch.is (h : Ch T D m i) {x : Int} (hx : (0 ≤ x ∧ x ≤ (m : Int)) ∨ (100 ≤ x ∧ x < 100 + (i : Int))) : ∃ a, T x = some a := (h.ex x).2 hx
theorem Ch.no (h : Ch T D m i) {x : Int} (hx : ¬ ((0 ≤ x ∧ x ≤ (m : Int)) ∨ (100 ≤ x ∧ x < 100 + (i : Int)))) : T x = none := by
  cases e : T x with
  | none => rfl
  | some a => exact absurd ((h.ex x).1 ⟨a, e⟩) hx
theorem add_is (W : WT T D) {q : Int × List Int} (hp : T p = some q) (hn : T id = none) (hr : 1 ≤ id ∧ id ≤ 1048576) (hd : D p + 1 ≤ 16) : addE T id p = 0 := by
  unfold addE
  rw [if_neg (by omega), hn, hp, path_len W hp]
  simp only [Option.isSome_none, Option.isSome_some, Bool.false_eq_true, if_false, if_true]
  rw [if_neg (by omega)]
theorem Ch.up (h : Ch T D m 0) (hm : m < 16) : addE T ((m : Int) + 1) (m : Int) = 0 ∧ ∃ q, T (m : Int) = some q ∧ T ((m : Int) + 1) = none ∧ ∃ D', Ch (hangT T ((m : Int) + 1) (m : Int) []) D' (m + 1) 0 := by
  obtain ⟨q, hq⟩ := h.is (x := (m : Int)) (.inl (by omega))
  have hn := h.no (x := (m : Int) + 1) (by omega)
  have hd := h.d1 (m : Int) (by omega) (by omega)
  have hd2 : D (m : Int) + 1 ≤ 16 := by omega
  have hr : 1 ≤ (m : Int) + 1 ∧ (m : Int) + 1 ≤ 1048576 := by omega
  refine ⟨add_is h.w hq hn hr hd2, q, hq, hn, _, ⟨h.w.add hq hn hr hd2, fun x => ?_, fun x h1 h2 => ?_, fun x h1 h2 => by omega, fun x h1 h2 => ?_, fun x h1 h2 => by omega, by omega, by omega⟩⟩
  · rw [some_hang hq, h.ex]
    omega
  · split
    · omega
    · exact h.d1 x h1 (by omega)
  · rw [par_hang hq hn]
    split
    · omega
    · exact h.p1 x h1 (by omega)
theorem Ch.add (h : Ch T D m i) (hi : i < 8) {u : Int} (hu : u = if i = 0 then 0 else 100 + (i : Int) - 1) : addE T (100 + (i : Int)) u = 0 ∧ ∃ q, T u = some q ∧ T (100 + (i : Int)) = none ∧ ∃ D', Ch (hangT T (100 + (i : Int)) u []) D' m (i + 1) := by
  have hm := h.hm
  have hur : (0 ≤ u ∧ u ≤ (m : Int)) ∨ (100 ≤ u ∧ u < 100 + (i : Int)) := by
    by_cases e : i = 0
    · rw [if_pos e] at hu; omega
    · rw [if_neg e] at hu; omega
  obtain ⟨q, hq⟩ := h.is hur
  have hn := h.no (x := 100 + (i : Int)) (by omega)
  have hdu : (D u : Int) = (i : Int) := by
    by_cases e : i = 0
    · rw [if_pos e] at hu
      have := h.d1 u (by omega) (by omega)
      omega
    · rw [if_neg e] at hu
      have := h.d2 u (by omega) (by omega)
      omega
  have hd2 : D u + 1 ≤ 16 := by omega
  have hr : 1 ≤ 100 + (i : Int) ∧ 100 + (i : Int) ≤ 1048576 := by omega
  refine ⟨add_is h.w hq hn hr hd2, q, hq, hn, _, ⟨h.w.add hq hn hr hd2, fun x => ?_, fun x h1 h2 => ?_, fun x h1 h2 => ?_, fun x h1 h2 => ?_, fun x h1 h2 => ?_, hm, by omega⟩⟩
  · rw [some_hang hq, h.ex]
    omega
  · rw [if_neg (by omega)]
    exact h.d1 x h1 h2
  · split
    · omega
    · exact h.d2 x h1 (by omega)
  · rw [par_hang hq hn, if_neg (by omega)]
    exact h.p1 x h1 h2
  · rw [par_hang hq hn]
    split
    · rename_i e
      by_cases e0 : i = 0
      · rw [if_pos e0] at hu
        rw [if_pos (by omega), hu]
      · rw [if_neg e0] at hu
        rw [if_neg (by omega), hu, e]
    · exact h.p2 x h1 (by omega)
theorem Ch.deep (h : Ch T D 16 0) : addE T 17 16 = 10 := by
  obtain ⟨q, hq⟩ := h.is (x := 16) (.inl (by omega))
  have hn := h.no (x := 17) (by omega)
  have hd := h.d1 16 (by omega) (by omega)
  unfold addE
  rw [if_neg (by omega), hn, hq, path_len h.w hq]
  simp only [Option.isSome_none, Option.isSome_some, Bool.false_eq_true, if_false, if_true]
  rw [if_pos (by omega)]
theorem Ch.far (h : Ch T D 16 0) {x : Int} (h1 : 18 ≤ x) (h2 : x ≤ 1048576) : addE T x (x - 1) = 8 := by
  have hn := h.no (x := x) (by omega)
  have hn2 := h.no (x := x - 1) (by omega)
  unfold addE
  rw [if_neg (by omega), hn, hn2]
  simp
/-- Who is on whose path. -/
theorem Ch.off (h : Ch T D m i) : ∀ x : Nat, x ≤ m → (100 : Int) ∉ path T (x : Int) := by
  intro x
  induction x with
  | zero =>
    intro _
    rw [show ((0 : Nat) : Int) = 0 from rfl, path_nil h.w (.inr rfl)]
    simp
  | succ x ih =>
    intro hx hm
    obtain ⟨a, ha⟩ := h.is (x := ((x + 1 : Nat) : Int)) (.inl (by omega))
    have hp := h.p1 ((x + 1 : Nat) : Int) (by omega) (by omega)
    rw [par_some ha] at hp
    have := h.hm
    rw [path_cons h.w ha (by omega), hp] at hm
    rcases List.mem_cons.1 hm with e | e
    · omega
    · exact ih (by omega) (by rw [show ((x + 1 : Nat) : Int) - 1 = (x : Int) by omega] at e; exact e)
theorem Ch.on (h : Ch T D m i) : ∀ k : Nat, k < i → (100 : Int) ∈ path T (100 + (k : Int)) := by
  intro k
  induction k with
  | zero =>
    intro hk
    obtain ⟨a, ha⟩ := h.is (x := 100 + ((0 : Nat) : Int)) (.inr (by omega))
    exact path_self h.w ha (by omega)
  | succ k ih =>
    intro hk
    obtain ⟨a, ha⟩ := h.is (x := 100 + ((k + 1 : Nat) : Int)) (.inr (by omega))
    have hp := h.p2 (100 + ((k + 1 : Nat) : Int)) (by omega) (by omega)
    rw [par_some ha, if_neg (by omega)] at hp
    rw [path_cons h.w ha (by omega), hp, show 100 + ((k + 1 : Nat) : Int) - 1 = 100 + (k : Int) by omega]
    exact List.mem_cons_of_mem _ (ih (by omega))
theorem Ch.tall (h : Ch T D m (i + 1)) : tall T 100 = (i : Int) := by
  obtain ⟨q, hq⟩ := h.is (x := 100) (.inr (by omega))
  obtain ⟨_, _, h3, y, hy, ht⟩ := tall_is h.w hq
  have hd := h.d2 100 (by omega) (by omega)
  obtain ⟨a, ha⟩ := h.is (x := 100 + (i : Int)) (.inr (by omega))
  have h4 := h3 (100 + (i : Int)) ((mem_under h.w hq).2 ⟨⟨a, ha⟩, .inr (h.on i (by omega))⟩)
  have h5 := h.d2 (100 + (i : Int)) (by omega) (by omega)
  obtain ⟨hy1, hy2⟩ := (mem_under h.w hq).1 hy
  rcases (h.ex y).1 hy1 with e | e
  · rcases hy2 with e2 | e2
    · omega
    · refine absurd e2 ?_
      have := h.off y.toNat (by omega)
      rwa [show ((y.toNat : Nat) : Int) = y by omega] at this
  · have := h.d2 y e.1 e.2
    omega
theorem Ch.moved (h : Ch T D m (i + 1)) {t : Int} (h0 : 0 ≤ t) (h1 : t ≤ (m : Int)) : movE T 100 t = (if t + 1 + (i : Int) ≤ 16 then 0 else 10) := by
  obtain ⟨q, hq⟩ := h.is (x := t) (.inl ⟨h0, h1⟩)
  have hd := h.d1 t h0 h1
  have hp := h.p2 100 (by omega) (by omega)
  rw [if_pos rfl] at hp
  have hoff := h.off t.toNat (by omega)
  rw [show ((t.toNat : Nat) : Int) = t by omega] at hoff
  unfold movE
  rw [hp, hq, if_neg (by simp), if_neg hoff, h.tall, path_len h.w hq]
  by_cases e : t + 1 + (i : Int) ≤ 16
  · rw [if_pos e, if_neg (by omega)]
  · rw [if_neg e, if_pos (by omega)]
theorem Ch.tall2 (h : Ch T D m (i + 1)) {t : Int} (he : movE T 100 t = 0) : Go.Proofs.Ytabampeipfbdjaa.tall (movT T 100 t) 100 = (i : Int) := by
  obtain ⟨q, q2, hq, hx, hp, hl, _⟩ := mov_ok h.w he
  rw [← h.tall]
  unfold Go.Proofs.Ytabampeipfbdjaa.tall
  rw [mov_places h.w hq hx hp hl]
theorem Ch.after (h : Ch T D m (i + 1)) {t : Int} : ∃ D', WT (if movE T 100 t = 0 then movT T 100 t else T) D' := by
  split
  · rename_i he
    obtain ⟨q, q2, hq, hx, hp, hl, ht⟩ := mov_ok h.w he
    exact ⟨_, h.w.move hq hx hp hl ht⟩
  · exact ⟨D, h.w⟩
end
end
end Go.Proofs.Ytabampeipfbdjaa
