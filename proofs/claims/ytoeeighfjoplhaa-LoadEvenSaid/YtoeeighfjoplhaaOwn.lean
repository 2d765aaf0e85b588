/-
  Rw Own: texts laid into one.
-/
import Derived.Test.YtoeeighfjoplhaaWords

/-
  Slices of structs that came in, or were made: how they read. Nothing of a program is named here.
-/
namespace Go.Proofs.Ytoeeighfjoplhaa
open Go.RowKit

/-- A slice that reads as a list, each element in n cells. -/
def Rw {α : Type} (n : Nat) (f : α → Nat → Value) (d : α) (w : World) (P : Nat → Prop) (v : Value) (xs : List α) : Prop :=
  ∃ A c, v = .slice A xs.length c ∧ xs.length ≤ c ∧ c ≤ maxLen ∧
    (0 < xs.length → ∃ b o, A = some ⟨b, o, none⟩ ∧ b < w.heap.size ∧ P b ∧ ∀ j i, j < xs.length → i < n → w.cell? ⟨b, o + (j * n + i), none⟩ = some (f (xs.getD j d) i))

section
variable {α : Type} {n : Nat} {f : α → Nat → Value} {d : α} {S P : Nat → Prop} {a w : World} {v : Value} {xs : List α}
theorem Rw.nil (n : Nat) (f : α → Nat → Value) (d : α) (w : World) (P : Nat → Prop) : Rw n f d w P (.slice none 0 0) [] := ⟨none, 0, rfl, by simp, by simp, by simp⟩
theorem Rw.kp (h : Rw n f d a P v xs) (k : Kp S a w) (hn : ∀ i, i < a.heap.size → P i → ¬ S i) : Rw n f d w P v xs := by
  obtain ⟨A, c, rfl, hc, hm, h⟩ := h
  refine ⟨A, c, rfl, hc, hm, fun h0 => ?_⟩
  obtain ⟨b, o, rfl, hb, hp, hcell⟩ := h h0
  exact ⟨b, o, rfl, Nat.lt_of_lt_of_le hb k.size, hp, fun j i hj hi => (k.cell (p := ⟨b, o + (j * n + i), none⟩) hb (hn b hb hp)).trans (hcell j i hj hi)⟩
theorem Rw.kp0 (h : Rw n f d a P v xs) (k : Kp No a w) : Rw n f d w P v xs := h.kp k fun _ _ _ h => h
theorem Rw.there {A : Option Addr} {m c : Nat} (h : Rw n f d w P (.slice A m c) xs) (h0 : 0 < xs.length) : ∃ b o, A = some ⟨b, o, none⟩ := by
  obtain ⟨A', c', he, _, _, hr⟩ := h
  injection he with e1 _ e3
  subst e1 e3
  obtain ⟨b', o', e8, _⟩ := hr h0
  exact ⟨b', o', e8⟩
theorem Rw.cell {A : Option Addr} {m c b o j i : Nat} (h : Rw n f d a P (.slice A m c) xs) (k : Kp No a w) (hj : j < xs.length) (hi : i < n) (hA : A = some ⟨b, o, none⟩) : w.cell? ⟨b, o + (j * n + i), none⟩ = some (f (xs.getD j d) i) := by
  obtain ⟨A', c', he, _, _, hr⟩ := h.kp0 k
  injection he with e1 _ e3
  subst e1 e3
  obtain ⟨b', o', e8, _, _, hc⟩ := hr (by omega)
  rw [hA] at e8
  cases e8
  exact hc j i hj hi
end
end Go.Proofs.Ytoeeighfjoplhaa

/-
  Slices of structs that the call itself owns, and the law of append over them, whatever program: nothing of one is named here. 'Ow w base e n f v xs': the slice value v owns a row that reads as the list xs, each element in n cells.
-/
namespace Go.Proofs.Ytoeeighfjoplhaa
open Go.RowKit

/-- The cells of a row. -/
def flat {α : Type} (n : Nat) (f : α → Nat → Value) : List α → List Value
  | [] => []
  | x :: l => (List.range n).map (f x) ++ flat n f l

section
variable {α : Type} {n : Nat} {f : α → Nat → Value} {d : α}
theorem flat_len (xs : List α) : (flat n f xs).length = xs.length * n := by
  induction xs with
  | nil => simp [flat]
  | cons x l ih => simp only [flat, List.length_append, List.length_map, List.length_range, ih, List.length_cons, Nat.add_mul, Nat.one_mul]; omega
theorem flat_app (xs ys : List α) : flat n f (xs ++ ys) = flat n f xs ++ flat n f ys := by
  induction xs with
  | nil => rfl
  | cons x l ih => simp only [List.cons_append, flat, ih, List.append_assoc]
theorem flat_at (xs : List α) {j i : Nat} (hj : j < xs.length) (hi : i < n) : (flat n f xs)[j * n + i]? = some (f (xs.getD j d) i) := by
  induction xs generalizing j with
  | nil => simp at hj
  | cons x l ih =>
    simp only [flat]
    cases j with
    | zero => rw [List.getElem?_append_left (by simpa using hi)]; simp [hi]
    | succ j =>
      have e : (j + 1) * n + i = n + (j * n + i) := by rw [Nat.add_mul, Nat.one_mul]; omega
      rw [List.getElem?_append_right (by simp; omega), e]
      simp only [List.length_map, List.length_range, Nat.add_sub_cancel_left]
      rw [ih (by simpa using hj)]
      simp
theorem flat_get (xs : List α) {j : Nat} {u : Value} (h : (flat n f xs)[j]? = some u) : ∃ q i, q < xs.length ∧ i < n ∧ j = q * n + i ∧ u = f (xs.getD q d) i := by
  have hj : j < xs.length * n := by rw [← flat_len (f := f)]; exact (List.getElem?_eq_some_iff.1 h).1
  have hn : 0 < n := by
    rcases Nat.eq_zero_or_pos n with h0 | h0
    · subst h0; simp at hj
    · exact h0
  have hq : j / n < xs.length := Nat.div_lt_of_lt_mul (by rwa [Nat.mul_comm])
  have hi : j % n < n := Nat.mod_lt _ hn
  have e : j = j / n * n + j % n := by rw [Nat.mul_comm]; exact (Nat.div_add_mod j n).symm
  refine ⟨j / n, j % n, hq, hi, e, ?_⟩
  have := flat_at (f := f) (d := d) xs hq hi
  rw [← e, h] at this
  exact Option.some.inj this
theorem flat_one {c : Value → Prop} (hc : ∀ x i, c (f x i)) (xs : List α) : ∀ u ∈ flat n f xs, c u := by
  induction xs with
  | nil => simp [flat]
  | cons x l ih =>
    intro u hu
    simp only [flat, List.mem_append, List.mem_map] at hu
    rcases hu with ⟨i, _, rfl⟩ | hu
    · exact hc x i
    · exact ih u hu
end

def Ow {α : Type} (w : World) (base : Nat) (e : TypeId) (n : Nat) (f : α → Nat → Value) (v : Value) (xs : List α) : Prop := w.ownsRow base e n v xs.length (flat n f xs)

section
variable {α : Type} {n : Nat} {f : α → Nat → Value} {d : α} {w w' : World} {base : Nat} {e : TypeId} {v : Value} {xs : List α}
theorem Ow.nil (w : World) (base : Nat) (e : TypeId) (n : Nat) (f : α → Nat → Value) : Ow w base e n f (.slice none 0 0) [] := World.ownsRow_nil w base e n
theorem Ow.mt (w : World) (base : Nat) (e : TypeId) (n : Nat) (f : α → Nat → Value) (h : base ≤ w.heap.size) : Ow (w.alloc (.cells #[] e)) base e n f (.slice (some ⟨w.heap.size, 0, none⟩) 0 0) [] :=
  ⟨by simp [flat], .inr ⟨w.heap.size, 0, #[], rfl, h, heap_alloc_new w _, by simp, by simp, by simp, by simp [flat]⟩⟩
theorem Ow.mtH (w : World) (base : Nat) (e : TypeId) (n : Nat) (f : α → Nat → Value) {H : Nat} (hH : w.heap.size = H) (h : base ≤ H) : Ow (w.alloc (.cells #[] e)) base e n f (.slice (some ⟨H, 0, none⟩) 0 0) [] := by
  subst hH
  exact Ow.mt w base e n f h
theorem Ow.at_ (h : Ow w base e n f v xs) : ∀ k, v.ownBlock = some k → base ≤ k := fun k hk => (World.ownsRow.lt h k hk).1
theorem Ow.kp {S : Nat → Prop} (h : Ow w base e n f v xs) (k : Kp S w w') (hs : ∀ i, base ≤ i → ¬ S i) : Ow w' base e n f v xs := by
  refine ⟨h.1, ?_⟩
  rcases h.2 with hn | ⟨g, cap, cur, rfl, hb, hg, r⟩
  · exact .inl hn
  · exact .inr ⟨g, cap, cur, rfl, hb, (k.block g (Array.getElem?_eq_some_iff.1 hg).1 (hs g hb)).trans hg, r⟩
theorem Ow.kp0 (h : Ow w base e n f v xs) (k : Kp No w w') : Ow w' base e n f v xs := h.kp k fun _ _ h => h
theorem Ow.lower {base' : Nat} (h : Ow w base e n f v xs) (hb : base' ≤ base) : Ow w base' e n f v xs := by
  refine ⟨h.1, ?_⟩
  rcases h.2 with hn | ⟨g, cap, cur, rfl, hg, r⟩
  · exact .inl hn
  · exact .inr ⟨g, cap, cur, rfl, by omega, r⟩
theorem Ow.formN {m : Nat} (h : Ow w base e n f v xs) (hl : xs.length = m) : ∃ A c, v = .slice A m c := by
  subst hl
  rcases h.2 with ⟨rfl, h0⟩ | ⟨g, cap, cur, rfl, _⟩
  · exact ⟨none, 0, by rw [h0]⟩
  · exact ⟨_, _, rfl⟩
theorem Ow.rw (h : Ow w base e n f v xs) : Rw n f d w Anyb v xs := by
  rcases h.2 with ⟨rfl, h0⟩ | ⟨g, cap, cur, rfl, hb, hg, hl, hm, hs, ht⟩
  · have : xs = [] := List.eq_nil_of_length_eq_zero h0
    subst this
    exact Rw.nil n f d w Anyb
  · refine ⟨some ⟨g, 0, none⟩, cap, rfl, hl, hm, fun _ => ⟨g, 0, rfl, (Array.getElem?_eq_some_iff.1 hg).1, trivial, fun j i hj hi => ?_⟩⟩
    have hlt : j * n + i < xs.length * n := by
      have : (j + 1) * n ≤ xs.length * n := Nat.mul_le_mul_right _ hj
      rw [Nat.add_mul, Nat.one_mul] at this
      omega
    have := World.ownsRow.cellAt h (j * n + i) hlt
    rw [Nat.zero_add, this]
    exact flat_at xs hj hi
end

/-- Of a program: t is a type of slices of e, each of n cells. -/
structure Us (P : Program) (t e : TypeId) (n bytes : Nat) (z : Value) : Prop where
  un : P.underlying t = some (.slice e)
  info : (P.info? e).map (fun i => (i.zero, i.size, i.bytes)) = some (some z, n, bytes)
  zero : z.cells.size = n
  pos : 0 < n

section
variable {P : Program} {α : Type} {n bytes : Nat} {z : Value} {f : α → Nat → Value} {d : α}
theorem run_apps {t ty e : TypeId} (u : Us P t e n bytes z) (hf : ∀ x i, (f x i).oneCell' = true) (w : World) {base : Nat} {v x : Value} {xs ys : List α} {Pb : Nat → Prop} (hown : Ow w base e n f v xs) (hx : Rw n f d w Pb x ys)
    (hle : (xs.length + ys.length) * bytes ≤ 140737488355328) (h63 : xs.length + ys.length ≤ maxLen) (hbase : base ≤ w.heap.size) :
    ∃ v' w', (Builtin.append_ #[t, t] ty #[v, x]).run P w = .ok v' w' ∧ Ow w' base e n f v' (xs ++ ys) ∧ w.grownBy w' v.ownBlock := by
  obtain ⟨i, hi, hz, hs, hb⟩ := info_parts u.info
  obtain ⟨A, c, rfl, hc, hm, h⟩ := hx
  rcases A with _ | ad
  · have h0 : ys = [] := by
      rcases ys with _ | ⟨y, ys⟩
      · rfl
      · obtain ⟨b, o, h, _⟩ := h (by simp)
        cases h
    subst h0
    refine ⟨v, w, ?_, by simpa using hown, World.grownBy.refl w _⟩
    rcases hown.2 with ⟨rfl, h0⟩ | ⟨g, cap, cur, rfl, _, _, hnc, _⟩
    · simp [Builtin.append_, run_underlying u.un, sizeOf, typeInfo, hi, Builtin.lenOf, Builtin.firstCells]
    · simp [Builtin.append_, run_underlying u.un, sizeOf, typeInfo, hi, Builtin.lenOf, Builtin.firstCells, hnc, storeCells]
  · have hcell : ∀ j q, (flat n f ys)[j]? = some q → w.cell? (ad.add j) = some q := by
      intro j q hq
      obtain ⟨k, i, hk, hi, rfl, rfl⟩ := flat_get (d := d) ys hq
      obtain ⟨b, o, he, _, _, hcell⟩ := h (by omega)
      cases he
      have ha : (⟨b, o, none⟩ : Addr).add (k * n + i) = ⟨b, o + (k * n + i), none⟩ := by unfold Addr.add; split <;> simp_all
      rw [ha, hcell k i hk hi]
    obtain ⟨v', w', hrun, h2, h3, _, _⟩ := run_append_own_at (P := P) w base t ty e i z n bytes u.un hi hz hs hb u.zero u.pos v xs.length _ hown ad ys.length c (flat n f ys) (flat_len ys) hcell
      (flat_one hf ys) h63 hle hbase
    refine ⟨v', w', hrun, ?_, h3⟩
    unfold Ow
    rw [List.length_append, flat_app]
    exact h2

theorem wp_apps {t e : TypeId} (u : Us P t e n bytes z) (hf : ∀ x i, (f x i).oneCell' = true) {ops : Array Oper} {rest : List Oper} {o : Oper} {a : Act} {w : World} {Q : Exit → Act → World → Prop} (hw : Region.wanted o (yielded ops a.tmps) = true) (s x : Operand)
    (ho : o.op = .call { callee := .builtin .append, args := #[s, x], argTypes := #[t, t] }) {base : Nat} {xs ys : List α} {Pb : Nat → Prop}
    (hown : Ow w base e n f (a.eval s) xs) (hx : Rw n f d w Pb (a.eval x) ys) (hle : (xs.length + ys.length) * bytes ≤ 140737488355328) (h63 : xs.length + ys.length ≤ maxLen) (hbase : base ≤ w.heap.size)
    (h : ∀ v' w', Ow w' base e n f v' (xs ++ ys) → Kp (fun k => base ≤ k) w w' → wpList P ops Q rest (a.put o.dst v') w') : wpList P ops Q (o :: rest) a w := by
  refine BigFrame.wpList_want hw fun K hK => ?_
  obtain ⟨v', w', hrun, h2, h3⟩ := run_apps (P := P) (ty := o.type) u hf w hown hx hle h63 hbase
  unfold Oper.wp execOp
  simp only [ho, resolve, invoke, builtin, Sem.run_bind, Sem.run_pure, Result.andThen_ok, List.map_toArray, List.map_cons, List.map_nil, hrun]
  exact hK _ _ (h v' w' h2 ((Kp.refl _ _).grown h3 fun k hk => .inl (hown.at_ k hk)))
end
end Go.Proofs.Ytoeeighfjoplhaa
