/-
  A row of ints in a block of its own: read, put into at a place, taken from at a place.
-/
import Derived.Test.YtoeeighfjoplhaaChecked
import Derived.Test.YtoeeighfjoplhaaOwn
import Derived.Test.YtoeeighfjoplhaaHeld
namespace Go.Proofs.Ytoeeighfjoplhaa
open Go.RowKit

def ga (b : Option Nat) : Option Addr := b.map fun k => ⟨k, 0, none⟩
def gsl (b : Option Nat) (n c : Nat) : Value := .slice (ga b) n c
def icell (x : Int) : Value := .int .i64 x
/-- A row of ints, in a block of its own, or nil. -/
def RowI (w : World) (b : Option Nat) (n c : Nat) (ks : List Int) : Prop :=
  n = ks.length ∧ n ≤ c ∧ c ≤ maxLen ∧ match b with
    | none => c = 0
    | some k => ∃ cs, Blk w k 3 cs ∧ cs.size = c ∧ ∀ j, j < n → cs[j]? = some (.int .i64 (ks.getD j 0))
theorem kp_of_below {w w' : World} (h : Below w.heap.size w w') : Kp No w w' := ⟨h.os, h.tape, h.output, h.size, fun k hk _ => h.block k hk⟩
theorem Blk.shape {w : World} {g : Nat} {t : TypeId} {cs : Array Value} (h : Blk w g t cs) : w.shape? g = some (t, cs.size) := by
  unfold Blk at h
  unfold World.shape?
  rw [h]
/-- Cells laid one by one into a block that is known whole. -/
theorem Blk.puts {g : Nat} {t : TypeId} : ∀ (vs : List Value) (o : Nat) (w : World) (cs : Array Value), Blk w g t cs →
    ∃ cs' : Array Value, Blk (w.setCells g o vs) g t cs' ∧ cs'.size = cs.size ∧ ∀ j, cs'[j]? = if o ≤ j ∧ j < o + vs.length ∧ j < cs.size then vs[j - o]? else cs[j]?
  | [], o, _, cs, h => ⟨cs, h, rfl, fun j => by rw [if_neg (by simp only [List.length_nil]; omega)]⟩
  | v :: r, o, w, cs, h => by
    obtain ⟨cs', h1, h2, h3⟩ := Blk.puts r (o + 1) (w.setCell ⟨g, o, none⟩ v) _ (h.put o v)
    refine ⟨cs', h1, by simpa using h2, fun j => ?_⟩
    rw [h3 j]
    simp only [Array.size_setIfInBounds, List.length_cons]
    by_cases hj : j = o
    · subst hj
      rw [if_neg (by omega), Array.getElem?_setIfInBounds_self]
      split
      · rw [if_pos (by omega)]
        simp
      · rw [if_neg (by omega), Array.getElem?_eq_none (by omega)]
    · rw [Array.getElem?_setIfInBounds_ne (by omega)]
      by_cases h4 : o + 1 ≤ j ∧ j < o + 1 + r.length ∧ j < cs.size
      · rw [if_pos h4, if_pos (by omega)]
        obtain ⟨m, rfl⟩ : ∃ m, j = o + 1 + m := ⟨j - (o + 1), by omega⟩
        rw [show o + 1 + m - (o + 1) = m by omega, show o + 1 + m - o = m + 1 by omega]
        simp
      · rw [if_neg h4, if_neg (by omega)]
theorem Kp.puts {S : Nat → Prop} {a : World} {g : Nat} (hp : S g ∨ a.heap.size ≤ g) : ∀ (vs : List Value) (o : Nat) (w : World), Kp S a w → Kp S a (w.setCells g o vs)
  | [], _, _, h => h
  | v :: r, o, _, h => Kp.puts hp r (o + 1) _ (h.setCell (p := ⟨g, o, none⟩) hp v)
def insP (p : Nat) (x : Int) (ks : List Int) : List Int := ks.take p ++ x :: ks.drop p
def delP (p : Nat) (ks : List Int) : List Int := ks.take p ++ ks.drop (p + 1)
theorem insP_len {p : Nat} (x : Int) {ks : List Int} (hp : p ≤ ks.length) : (insP p x ks).length = ks.length + 1 := by
  unfold insP
  simp only [List.length_append, List.length_take, List.length_cons, List.length_drop]
  omega
theorem delP_len {p : Nat} {ks : List Int} (hp : p < ks.length) : (delP p ks).length + 1 = ks.length := by
  unfold delP
  simp only [List.length_append, List.length_take, List.length_drop]
  omega
theorem ins_at (x : Int) (ks : List Int) {p : Nat} (hp : p ≤ ks.length) (j : Nat) : (insP p x ks)[j]? = if j < p then ks[j]? else if j = p then some x else ks[j - 1]? := by
  have hl : (ks.take p).length = p := by rw [List.length_take]; omega
  unfold insP
  by_cases h1 : j < p
  · rw [if_pos h1, List.getElem?_append_left (by omega), List.getElem?_take_of_lt h1]
  · rw [if_neg h1, List.getElem?_append_right (by omega), hl]
    by_cases h2 : j = p
    · rw [if_pos h2, h2, Nat.sub_self, List.getElem?_cons_zero]
    · rw [if_neg h2, show j - p = (j - 1 - p) + 1 by omega, List.getElem?_cons_succ, List.getElem?_drop, show p + (j - 1 - p) = j - 1 by omega]
theorem int_at {l : List Int} {j : Nat} (h : j < l.length) : (l.map (Value.int .i64))[j]? = some (.int .i64 (l.getD j 0)) := by
  rw [List.getElem?_map]
  simp [List.getD, h]

section
variable {w w' : World} {S : Nat → Prop} {b : Option Nat} {n c k p : Nat} {ks : List Int} {x : Int}
theorem RowI.nil (w : World) : RowI w none 0 0 [] := ⟨rfl, Nat.le_refl _, by simp [maxLen], rfl⟩
theorem RowI.kp (h : RowI w b n c ks) (kk : Kp S w w') (hs : ∀ k, b = some k → ¬ S k) : RowI w' b n c ks := by
  obtain ⟨h1, h2, h3, h4⟩ := h
  refine ⟨h1, h2, h3, ?_⟩
  cases b with
  | none => exact h4
  | some k =>
    obtain ⟨cs, hb, hr⟩ := h4
    exact ⟨cs, hb.kp kk (hs k rfl), hr⟩
theorem RowI.kp0 (h : RowI w b n c ks) (kk : Kp No w w') : RowI w' b n c ks := h.kp kk fun _ _ h => h
theorem RowI.lt (h : RowI w (some k) n c ks) : k < w.heap.size := by obtain ⟨_, _, _, cs, hb, _⟩ := h; exact hb.lt
theorem RowI.cell (h : RowI w (some k) n c ks) {j : Nat} (hj : j < ks.length) : w.cell? ⟨k, j, none⟩ = some (.int .i64 (ks.getD j 0)) := by
  obtain ⟨h1, _, _, cs, hb, _, hc⟩ := h
  rw [hb.cell]
  exact hc j (by omega)
theorem RowI.none_nil (h : RowI w none n c ks) : n = 0 ∧ c = 0 ∧ ks = [] := by
  obtain ⟨h1, h2, _, h4⟩ := h
  have h4 : c = 0 := h4
  have hn : n = 0 := by omega
  exact ⟨hn, h4, List.eq_nil_of_length_eq_zero (by omega)⟩
theorem RowI.of_own {base : Nat} {v : Value} (h : w.ownsRow base 3 1 v n (ks.map (Value.int .i64))) (hn : n = ks.length) : ∃ b c, v = gsl b n c ∧ RowI w b n c ks ∧ ∀ k, b = some k → base ≤ k := by
  obtain ⟨_, h⟩ := h
  rcases h with ⟨rfl, h0⟩ | ⟨g, cap, cur, rfl, hb, hg, h1, h2, h3, h4⟩
  · subst h0
    have : ks = [] := List.eq_nil_of_length_eq_zero hn.symm
    subst this
    exact ⟨none, 0, rfl, RowI.nil w, fun k e => by cases e⟩
  · refine ⟨some g, cap, rfl, ⟨hn, h1, h2, cur, hg, by omega, fun j hj => ?_⟩, fun k e => by cases e; exact hb⟩
    have e : (cur.toList.take (n * 1))[j]? = (ks.map (Value.int .i64))[j]? := by rw [h4]
    rw [List.getElem?_take_of_lt (by omega)] at e
    rw [← Array.getElem?_toList, e, List.getElem?_map]
    simp [List.getD, show j < ks.length by omega]
/-- How it reads as an argument. -/
theorem RowI.rw (h : RowI w b n c ks) (hS : ∀ k, b = some k → S k) : Rw 1 (fun x _ => .int .i64 x) 0 w S (gsl b n c) ks := by
  obtain ⟨h1, h2, h3, h4⟩ := h
  subst h1
  refine ⟨ga b, c, rfl, h2, h3, fun h0 => ?_⟩
  cases b with
  | none =>
    have h4 : c = 0 := h4
    omega
  | some k =>
    obtain ⟨cs, hb, _, hc⟩ := h4
    refine ⟨k, 0, rfl, hb.lt, hS k rfl, fun j i hj hi => ?_⟩
    have : i = 0 := by omega
    subst this
    rw [Nat.zero_add, Nat.mul_one, Nat.add_zero, hb.cell]
    exact hc j hj

end
end Go.Proofs.Ytoeeighfjoplhaa
