/-
  A group's row of kids in memory: read, cloned, looked through, put into, taken from.
-/
import Derived.Test.YtggmdgdgljlddaaShelf
import Derived.Test.YtggmdgdgljlddaaChecked
import Derived.Test.YtggmdgdgljlddaaOwn
import Derived.Test.YtggmdgdgljlddaaHeld
import Derived.Test.YtggmdgdgljlddaaNOps
import Derived.Shelf.Slices.Clone
import Derived.Shelf.Slices.SearchI
import Derived.Shelf.Slices.Delete
import Derived.Shelf.Slices.Cells
import Derived.Shelf.Slices.Empties
import Derived.Shelf.Spec.SlicesInsert
import Derived.Shelf.Spec.SlicesInsertGrow
namespace Go.Proofs.Ytggmdgdgljlddaa
open Go.RowKit

def ga (b : Option Nat) : Option Addr := b.map fun k => ⟨k, 0, none⟩
def gsl (b : Option Nat) (n c : Nat) : Value := .slice (ga b) n c
def icell (x : Int) : Value := .int .i64 x
/-- A row of ints, in a block of its own, or nil. -/
def RowI (w : World) (b : Option Nat) (n c : Nat) (ks : List Int) : Prop :=
  n = ks.length ∧ n ≤ c ∧ c ≤ maxLen ∧ match b with
    | none => c = 0
    | some k => ∃ cs, Blk w k 3 cs ∧ cs.size = c ∧ ∀ j, j < n → cs[j]? = some (.int .i64 (ks.getD j 0))
theorem kp_of_below {w w' : World} (h : Below w.heap.size w w') : Kp No w w' := ⟨h.os, h.tape, h.output, h.size, fun k hk _ => h.block k hk⟩
theorem Blk.shape {w : World} {g : Nat} {t : TypeId} {cs : Array Value} (h : Blk w g t cs) : w.shape? g = some (t, cs.size) := by
  unfold Blk at h
  unfold World.shape?
  rw [h]
/-- Cells laid one by one into a block that is known whole. -/
theorem Blk.puts {g : Nat} {t : TypeId} : ∀ (vs : List Value) (o : Nat) (w : World) (cs : Array Value), Blk w g t cs →
    ∃ cs' : Array Value, Blk (w.setCells g o vs) g t cs' ∧ cs'.size = cs.size ∧ ∀ j, cs'[j]? = if o ≤ j ∧ j < o + vs.length ∧ j < cs.size then vs[j - o]? else cs[j]?
  | [], o, _, cs, h => ⟨cs, h, rfl, fun j => by rw [if_neg (by simp only [List.length_nil]; omega)]⟩
  | v :: r, o, w, cs, h => by
    obtain ⟨cs', h1, h2, h3⟩ := Blk.puts r (o + 1) (w.setCell ⟨g, o, none⟩ v) _ (h.put o v)
    refine ⟨cs', h1, by simpa using h2, fun j => ?_⟩
    rw [h3 j]
    simp only [Array.size_setIfInBounds, List.length_cons]
    by_cases hj : j = o
    · subst hj
      rw [if_neg (by omega), Array.getElem?_setIfInBounds_self]
      split
      · rw [if_pos (by omega)]
        simp
      · rw [if_neg (by omega), Array.getElem?_eq_none (by omega)]
    · rw [Array.getElem?_setIfInBounds_ne (by omega)]
      by_cases h4 : o + 1 ≤ j ∧ j < o + 1 + r.length ∧ j < cs.size
      · rw [if_pos h4, if_pos (by omega)]
        obtain ⟨m, rfl⟩ : ∃ m, j = o + 1 + m := ⟨j - (o + 1), by omega⟩
        rw [show o + 1 + m - (o + 1) = m by omega, show o + 1 + m - o = m + 1 by omega]
        simp
      · rw [if_neg h4, if_neg (by omega)]
theorem Kp.puts {S : Nat → Prop} {a : World} {g : Nat} (hp : S g ∨ a.heap.size ≤ g) : ∀ (vs : List Value) (o : Nat) (w : World), Kp S a w → Kp S a (w.setCells g o vs)
  | [], _, _, h => h
  | v :: r, o, _, h => Kp.puts hp r (o + 1) _ (h.setCell (p := ⟨g, o, none⟩) hp v)
theorem ins_at (x : Int) (ks : List Int) (j : Nat) : (insI x ks)[j]? = if j < posI x ks then ks[j]? else if j = posI x ks then some x else ks[j - 1]? := by
  have hp := pos_le x ks
  have hl : (ks.take (posI x ks)).length = posI x ks := by rw [List.length_take]; omega
  unfold insI
  by_cases h1 : j < posI x ks
  · rw [if_pos h1, List.getElem?_append_left (by omega), List.getElem?_take_of_lt h1]
  · rw [if_neg h1, List.getElem?_append_right (by omega), hl]
    by_cases h2 : j = posI x ks
    · rw [if_pos h2, h2, Nat.sub_self, List.getElem?_cons_zero]
    · rw [if_neg h2, show j - posI x ks = (j - 1 - posI x ks) + 1 by omega, List.getElem?_cons_succ, List.getElem?_drop, show posI x ks + (j - 1 - posI x ks) = j - 1 by omega]
theorem int_at {l : List Int} {j : Nat} (h : j < l.length) : (l.map (Value.int .i64))[j]? = some (.int .i64 (l.getD j 0)) := by
  rw [List.getElem?_map]
  simp [List.getD, h]

section
variable {w w' : World} {S : Nat → Prop} {b : Option Nat} {n c k : Nat} {ks : List Int} {x : Int}
theorem RowI.nil (w : World) : RowI w none 0 0 [] := ⟨rfl, Nat.le_refl _, by simp [maxLen], rfl⟩
theorem RowI.kp (h : RowI w b n c ks) (kk : Kp S w w') (hs : ∀ k, b = some k → ¬ S k) : RowI w' b n c ks := by
  obtain ⟨h1, h2, h3, h4⟩ := h
  refine ⟨h1, h2, h3, ?_⟩
  cases b with
  | none => exact h4
  | some k =>
    obtain ⟨cs, hb, hr⟩ := h4
    exact ⟨cs, hb.kp kk (hs k rfl), hr⟩
theorem RowI.kp0 (h : RowI w b n c ks) (kk : Kp No w w') : RowI w' b n c ks := h.kp kk fun _ _ h => h
theorem RowI.lt (h : RowI w (some k) n c ks) : k < w.heap.size := by obtain ⟨_, _, _, cs, hb, _⟩ := h; exact hb.lt
theorem RowI.cell (h : RowI w (some k) n c ks) {j : Nat} (hj : j < ks.length) : w.cell? ⟨k, j, none⟩ = some (.int .i64 (ks.getD j 0)) := by
  obtain ⟨h1, _, _, cs, hb, _, hc⟩ := h
  rw [hb.cell]
  exact hc j (by omega)
theorem RowI.none_nil (h : RowI w none n c ks) : n = 0 ∧ c = 0 ∧ ks = [] := by
  obtain ⟨h1, h2, _, h4⟩ := h
  have h4 : c = 0 := h4
  have hn : n = 0 := by omega
  exact ⟨hn, h4, List.eq_nil_of_length_eq_zero (by omega)⟩
theorem RowI.of_own {base : Nat} {v : Value} (h : w.ownsRow base 3 1 v n (ks.map (Value.int .i64))) (hn : n = ks.length) : ∃ b c, v = gsl b n c ∧ RowI w b n c ks ∧ ∀ k, b = some k → base ≤ k := by
  obtain ⟨_, h⟩ := h
  rcases h with ⟨rfl, h0⟩ | ⟨g, cap, cur, rfl, hb, hg, h1, h2, h3, h4⟩
  · subst h0
    have : ks = [] := List.eq_nil_of_length_eq_zero hn.symm
    subst this
    exact ⟨none, 0, rfl, RowI.nil w, fun k e => by cases e⟩
  · refine ⟨some g, cap, rfl, ⟨hn, h1, h2, cur, hg, by omega, fun j hj => ?_⟩, fun k e => by cases e; exact hb⟩
    have e : (cur.toList.take (n * 1))[j]? = (ks.map (Value.int .i64))[j]? := by rw [h4]
    rw [List.getElem?_take_of_lt (by omega)] at e
    rw [← Array.getElem?_toList, e, List.getElem?_map]
    simp [List.getD, show j < ks.length by omega]
/-- How it reads as an argument. -/
theorem RowI.rw (h : RowI w b n c ks) (hS : ∀ k, b = some k → S k) : Rw 1 (fun x _ => .int .i64 x) 0 w S (gsl b n c) ks := by
  obtain ⟨h1, h2, h3, h4⟩ := h
  subst h1
  refine ⟨ga b, c, rfl, h2, h3, fun h0 => ?_⟩
  cases b with
  | none =>
    have h4 : c = 0 := h4
    omega
  | some k =>
    obtain ⟨cs, hb, _, hc⟩ := h4
    refine ⟨k, 0, rfl, hb.lt, hS k rfl, fun j i hj hi => ?_⟩
    have : i = 0 := by omega
    subst this
    rw [Nat.zero_add, Nat.mul_one, Nat.add_zero, hb.cell]
    exact hc j hj

theorem clone_row (h : RowI w b n c ks) (hl : ks.length ≤ 100000000) : Calls Try.prog 28 #[gsl b n c] w fun e w' => ∃ b' c', e = .returned (gsl b' n c') ∧ RowI w' b' n c' ks ∧ (∀ k, b' = some k → w.heap.size ≤ k) ∧ Kp No w w' := by
  cases b with
  | none =>
    obtain ⟨rfl, rfl, rfl⟩ := h.none_nil
    refine (Any.slices_Clone_int_nil Try.cloneA 0 0 w).mono ?_
    rintro e w' ⟨rfl, rfl⟩
    exact ⟨none, 0, rfl, RowI.nil _, (fun k e => by cases e), Kp.refl _ _⟩
  | some k =>
    have hn := h.1
    refine (Any.slices_Clone_int Try.cloneA k 0 n c ks w (by omega) (by omega) (fun j hj => by rw [Nat.zero_add]; exact h.cell hj)).mono ?_
    rintro e w' ⟨v', rfl, ho, _, hb⟩
    rw [hn, List.take_length, ← hn] at ho
    obtain ⟨b', c', rfl, hr, hk⟩ := RowI.of_own ho hn
    exact ⟨b', c', rfl, hr, hk, kp_of_below hb⟩
theorem bs_row (h : RowI w b n c ks) (hs : ks.Pairwise (· < ·)) (hl : ks.length ≤ 100000000) (x : Int) : Calls Try.prog 34 #[gsl b n c, .int .i64 x] w fun e w' => e = .returned (.tuple #[.int .i64 (posI x ks : Nat), .bool (ks.contains x)]) ∧ Kp No w w' := by
  cases b with
  | none =>
    obtain ⟨rfl, rfl, rfl⟩ := h.none_nil
    refine (Any.slices_BinarySearch_int_empty Try.searchA none 0 x w).mono ?_
    rintro e w' ⟨rfl, rfl⟩
    exact ⟨rfl, Kp.refl _ _⟩
  | some k =>
    have hn := h.1
    refine (Any.slices_BinarySearch_int Try.searchA k 0 n c ks x w (by omega) (by omega) (fun j hj => by rw [Nat.zero_add]; exact h.cell hj) ?_).mono ?_
    · rw [hn, List.take_length]
      exact hs.imp fun h => by omega
    · rintro e w' ⟨rfl, q, rfl⟩
      rw [hn, List.take_length]
      exact ⟨rfl, (Kp.refl No w).drewN q⟩
theorem del_row (h : RowI w b n c ks) (hs : ks.Pairwise (· < ·)) (hx : x ∈ ks) : ∃ k, b = some k ∧ Calls Try.prog 37 #[gsl b n c, .int .i64 (posI x ks : Nat), .int .i64 ((posI x ks : Nat) + 1)] w fun e w' => e = .returned (gsl b (n - 1) c) ∧ RowI w' b (n - 1) c (delI x ks) ∧ Kp (Only k) w w' := by
  obtain ⟨hp, _⟩ := del_at hs hx
  cases b with
  | none =>
    obtain ⟨rfl, rfl, rfl⟩ := h.none_nil
    cases hx
  | some k =>
    refine ⟨k, rfl, ?_⟩
    have hdl := del_len hs hx
    obtain ⟨hn, h2, h3, cs, hb, hcs, hc⟩ := id h
    have h3' : c ≤ 9223372036854775807 := by unfold maxLen at h3; omega
    have e1 : ((posI x ks : Nat) : Int) + 1 = ((posI x ks + 1 : Nat) : Int) := by omega
    rw [e1]
    refine (Any.slices_Delete_int_cells Try.deleteA k 0 n c (posI x ks) (posI x ks + 1) ks w (by omega) h2 h3' (by omega) (by omega) (fun j hj => by rw [Nat.zero_add]; exact h.cell hj) (fun j _ => by rw [Nat.zero_add]; exact hb.frozen j)).mono ?_
    rintro e w' ⟨rfl, q, rfl⟩
    rw [Nat.add_sub_cancel_left, hn, List.take_length]
    have hlist : ks.take (posI x ks) ++ ks.drop (posI x ks + 1) ++ List.replicate 1 0 = delI x ks ++ [0] := rfl
    rw [hlist]
    obtain ⟨cs', hb', hs', hc'⟩ := Blk.puts ((delI x ks ++ [0]).map (Value.int .i64)) 0 (w.drewN q) cs (hb.kp0 ((Kp.refl No w).drewN q))
    refine ⟨rfl, ⟨by omega, by omega, h3, cs', hb', by omega, fun j hj => ?_⟩, Kp.puts (S := Only k) (a := w) (g := k) (.inl rfl) _ _ _ ((Kp.refl (Only k) w).drewN q)⟩
    rw [hc' j, if_pos ⟨Nat.zero_le _, by simp; omega, by omega⟩, Nat.sub_zero, List.getElem?_map, List.getElem?_append_left (by omega)]
    simp [List.getD, show j < (delI x ks).length by omega]
theorem ins_row {vb : Nat} (h : RowI w b n c ks) (hl : ks.length ≤ 100000000) (hv : Blk w vb 3 #[.int .i64 x]) (hne : b ≠ some vb) :
    Calls Try.prog 35 #[gsl b n c, .int .i64 (posI x ks : Nat), .slice (some ⟨vb, 0, none⟩) 1 1] w fun e w' => ∃ b' c', e = .returned (gsl b' (n + 1) c') ∧ RowI w' b' (n + 1) c' (insI x ks) ∧ (b' = b ∨ ∀ k, b' = some k → w.heap.size ≤ k) ∧ Kp (fun i => b = some i) w w' := by
  have hpl := pos_le x ks
  have hil := ins_len x ks
  have hvs : ∀ j v, [Value.int .i64 x][j]? = some v → w.cell? ⟨vb, 0 + j, none⟩ = some v := fun j v e => by
    rw [Nat.zero_add, hv.cell]
    match j, e with
    | 0, e => simpa using e
  have h1v : ∀ v ∈ [Value.int .i64 x], v.oneCell' = true := fun v hm => by
    rw [List.mem_singleton.1 hm]
    rfl
  have hm1 : (ks.map (Value.int .i64)).length = ks.length := List.length_map ..
  have h1c : ∀ v ∈ ks.map (Value.int .i64), v.oneCell' = true := fun v hm => by
    obtain ⟨y, _, rfl⟩ := List.mem_map.1 hm
    rfl
  have hn := h.1
  have hcm := h.2.2.1
  have hnc := h.2.1
  unfold maxLen at hcm
  have hZ : ∀ q, (Builtin.zeroCells (Value.int .i64 0).cells q).size = q := fun q => by rw [size_zeroCells]; exact Nat.mul_one q
  -- at the end, where there is no room
  have endgrow : posI x ks = n → c < n + 1 → Calls Try.prog 35 #[gsl b n c, .int .i64 (posI x ks : Nat), .slice (some ⟨vb, 0, none⟩) 1 1] w fun e w' => ∃ b' c', e = .returned (gsl b' (n + 1) c') ∧ RowI w' b' (n + 1) c' (insI x ks) ∧ (b' = b ∨ ∀ k, b' = some k → w.heap.size ≤ k) ∧ Kp (fun i => b = some i) w w' := fun hp hroom => by
    rw [hp]
    refine (Any2.slices_Insert_int_end_grow Try.insertA (ga b) n c vb 0 1 1 (ks.map (Value.int .i64)) [.int .i64 x] w (by omega) hnc hroom (by omega) (by omega) rfl (fun e => ?_) (fun a ha j v hj => ?_) hvs h1v).mono ?_
    · cases b with
      | none => exact h.none_nil.1
      | some k => cases e
    · cases b with
      | none => cases ha
      | some k =>
        cases ha
        have hjl : j < ks.length := by have := (List.getElem?_eq_some_iff.1 hj).1; omega
        rw [int_at hjl] at hj
        cases hj
        rw [Addr.add_lit, Nat.zero_add]
        exact h.cell hjl
    · rintro e w' ⟨rfl, rfl⟩
      refine ⟨some w.heap.size, _, rfl, ⟨by omega, grownCap_ge _ _ _ _, grownCap_le_maxLen _ _ _ _ (by simp only [maxLen]; omega), _, Blk.new w.drew _ _, ?_, fun j hj => ?_⟩, .inr fun k e => by cases e; exact Nat.le_refl _, (Kp.refl _ w).drew.alloc _⟩
      · rw [Array.size_append, hZ]
        have := grownCap_ge w (n + 1) c (Try.insertA_ren.t 3)
        simp only [List.size_toArray, List.length_append, List.length_map, List.length_cons, List.length_nil]
        omega
      · rw [Array.getElem?_append_left (by simp; omega), List.getElem?_toArray]
        have e : ks.map (Value.int .i64) ++ [.int .i64 x] = (insI x ks).map (Value.int .i64) := by
          unfold insI
          rw [hp, hn, List.take_length, List.drop_length, List.map_append]
          rfl
        rw [e]
        exact int_at (by omega)
  cases b with
  | none =>
    obtain ⟨rfl, rfl, rfl⟩ := h.none_nil
    exact endgrow rfl (by omega)
  | some k =>
    obtain ⟨_, _, _, cs, hb, hcs, hc⟩ := id h
    have hvk : vb ≠ k := fun e => hne (by rw [e])
    by_cases hp : posI x ks = n
    · by_cases hroom : c < n + 1
      · exact endgrow hp hroom
      · rw [hp]
        refine (Any2.slices_Insert_int_end_room Try.insertA k 0 n c vb 0 1 1 [.int .i64 x] w (by omega) (by omega) (by omega) rfl (fun j hj => ?_) (fun j _ => hb.frozen _) hvs h1v).mono ?_
        · rw [hb.cell, Array.getElem?_eq_getElem (by omega)]
          rfl
        · rintro e w' ⟨rfl, rfl⟩
          rw [Nat.zero_add]
          obtain ⟨cs', hb', hs', hc'⟩ := Blk.puts [.int .i64 x] n w cs hb
          refine ⟨some k, c, rfl, ⟨by omega, by omega, by simp only [maxLen]; omega, cs', hb', by omega, fun j hj => ?_⟩, .inl rfl, Kp.puts (S := fun i => some k = some i) (a := w) (g := k) (.inl rfl) _ _ _ (Kp.refl _ w)⟩
          have e := ins_at x ks j
          rw [hc' j]
          simp only [List.length_cons, List.length_nil]
          by_cases hjn : j = n
          · rw [if_pos (by omega), hjn, Nat.sub_self]
            rw [if_neg (by omega), if_pos (by omega)] at e
            rw [hjn] at e
            simp [List.getD, e]
          · rw [if_neg (by omega), hc j (by omega)]
            rw [if_pos (by omega)] at e
            simp only [List.getD, e]
    · have hin : posI x ks < n := by omega
      have hcell : ∀ j v, (ks.map (Value.int .i64))[j]? = some v → w.cell? ⟨k, 0 + j, none⟩ = some v := fun j v hj => by
        have hjl : j < ks.length := by have := (List.getElem?_eq_some_iff.1 hj).1; omega
        rw [int_at hjl] at hj
        cases hj
        rw [Nat.zero_add]
        exact h.cell hjl
      have hdr : ∀ q, ((ks.map (Value.int .i64)).drop (posI x ks))[q]? = (ks.map (Value.int .i64))[posI x ks + q]? := fun q => List.getElem?_drop ..
      by_cases hroom : c < n + 1
      · refine (Any2.slices_Insert_int_grow Try.insertA k 0 n c (posI x ks) vb 0 1 1 (ks.map (Value.int .i64)) [.int .i64 x] w hin (by omega) hnc hroom (by omega) (by omega) rfl hcell hvs h1c h1v).mono ?_
        rintro e w' ⟨rfl, rfl⟩
        have hge := grownCap_ge w (n + 1) c (Try.insertA_ren.t 3)
        have hlm : grownCap w (n + 1) c (Try.insertA_ren.t 3) ≤ maxLen := grownCap_le_maxLen _ _ _ _ (by simp only [maxLen]; omega)
        generalize grownCap w (n + 1) c (Try.insertA_ren.t 3) = cap at hge hlm ⊢
        have b0 := Blk.new w 3 (((ks.map (Value.int .i64)).take (posI x ks)).toArray ++ Builtin.zeroCells (Value.int .i64 0).cells (n + 1 - posI x ks) ++ Builtin.zeroCells (Value.int .i64 0).cells (cap - (n + 1)))
        have k0 := (Kp.refl (fun i => some k = some i) w).alloc (.cells (((ks.map (Value.int .i64)).take (posI x ks)).toArray ++ Builtin.zeroCells (Value.int .i64 0).cells (n + 1 - posI x ks) ++ Builtin.zeroCells (Value.int .i64 0).cells (cap - (n + 1))) 3)
        have z0 : (((ks.map (Value.int .i64)).take (posI x ks)).toArray ++ Builtin.zeroCells (Value.int .i64 0).cells (n + 1 - posI x ks) ++ Builtin.zeroCells (Value.int .i64 0).cells (cap - (n + 1))).size = cap := by
          rw [Array.size_append, Array.size_append, hZ, hZ]
          simp only [List.size_toArray, List.length_take, List.length_map]
          omega
        have g0 : ∀ j, j < posI x ks → (((ks.map (Value.int .i64)).take (posI x ks)).toArray ++ Builtin.zeroCells (Value.int .i64 0).cells (n + 1 - posI x ks) ++ Builtin.zeroCells (Value.int .i64 0).cells (cap - (n + 1)))[j]? = (ks.map (Value.int .i64))[j]? := fun j hj => by
          rw [Array.getElem?_append_left (by rw [Array.size_append, hZ]; simp only [List.size_toArray, List.length_take, List.length_map]; omega), Array.getElem?_append_left (by simp only [List.size_toArray, List.length_take, List.length_map]; omega), List.getElem?_toArray, List.getElem?_take_of_lt hj]
        change ∃ b' c', _ ∧ RowI ((((w.alloc (.cells _ 3)).drew.setCells w.heap.size (posI x ks) [.int .i64 x]).drew).setCells w.heap.size (posI x ks + 1) ((ks.map (Value.int .i64)).drop (posI x ks))) b' (n + 1) c' (insI x ks) ∧ _ ∧ Kp _ w ((((w.alloc (.cells _ 3)).drew.setCells w.heap.size (posI x ks) [.int .i64 x]).drew).setCells w.heap.size (posI x ks + 1) ((ks.map (Value.int .i64)).drop (posI x ks)))
        generalize ((ks.map (Value.int .i64)).take (posI x ks)).toArray ++ Builtin.zeroCells (Value.int .i64 0).cells (n + 1 - posI x ks) ++ Builtin.zeroCells (Value.int .i64 0).cells (cap - (n + 1)) = C0 at b0 k0 z0 g0 ⊢
        obtain ⟨C1, b1, s1, g1⟩ := Blk.puts [.int .i64 x] (posI x ks) (w.alloc (.cells C0 3)).drew C0 (b0.kp0 (Kp.refl No _).drew)
        have k1 := Kp.puts (g := w.heap.size) (.inr (Nat.le_refl _)) [.int .i64 x] (posI x ks) _ k0.drew
        obtain ⟨C2, b2, s2, g2⟩ := Blk.puts ((ks.map (Value.int .i64)).drop (posI x ks)) (posI x ks + 1) _ C1 (b1.kp0 (Kp.refl No _).drew)
        have k2 := Kp.puts (g := w.heap.size) (.inr (Nat.le_refl _)) ((ks.map (Value.int .i64)).drop (posI x ks)) (posI x ks + 1) _ k1.drew
        refine ⟨some w.heap.size, cap, rfl, ⟨by omega, hge, hlm, C2, b2, by omega, fun j hj => ?_⟩, .inr fun k e => by cases e; exact Nat.le_refl _, k2⟩
        have e := ins_at x ks j
        rw [g2 j, List.length_drop, hm1]
        by_cases hj1 : j < posI x ks
        · rw [if_neg (by omega), g1 j, if_neg (by omega), g0 j hj1, List.getElem?_map]
          rw [if_pos hj1] at e
          rw [← e]
          simp [List.getD, show j < (insI x ks).length by omega]
        · by_cases hj2 : j = posI x ks
          · rw [if_neg (by omega), g1 j, hj2, if_pos (by simp; omega), Nat.sub_self]
            rw [if_neg hj1, if_pos hj2, hj2] at e
            simp [List.getD, e]
          · rw [if_pos (by omega), hdr, show posI x ks + (j - (posI x ks + 1)) = j - 1 by omega, List.getElem?_map]
            rw [if_neg hj1, if_neg hj2] at e
            rw [← e]
            simp [List.getD, show j < (insI x ks).length by omega]
      · refine (Any2.slices_Insert_int_shift Try.insertA k 0 n c (posI x ks) vb 0 1 1 (ks.map (Value.int .i64)) [.int .i64 x] w hin (by omega) (by omega) (by omega) hvk (by omega) rfl hcell (fun j hj => ?_) (fun j _ => hb.frozen _) hvs h1c h1v 3 3 1 c hv.shape (by rw [hb.shape, hcs]) (by omega) (hv.frozen 0) (hv.frozen 1)).mono ?_
        · rw [hb.cell, Array.getElem?_eq_getElem (by omega)]
          rfl
        · rintro e w' ⟨rfl, rfl⟩
          rw [Nat.zero_add, Nat.zero_add]
          obtain ⟨C1, b1, s1, g1⟩ := Blk.puts ((ks.map (Value.int .i64)).drop (posI x ks)) (posI x ks + 1) w.drew cs (hb.kp0 (Kp.refl No w).drew)
          have k1 := Kp.puts (S := fun i => some k = some i) (a := w) (g := k) (.inl rfl) ((ks.map (Value.int .i64)).drop (posI x ks)) (posI x ks + 1) _ (Kp.refl _ w).drew
          obtain ⟨C2, b2, s2, g2⟩ := Blk.puts [.int .i64 x] (posI x ks) _ C1 b1
          have k2 := Kp.puts (S := fun i => some k = some i) (a := w) (g := k) (.inl rfl) [.int .i64 x] (posI x ks) _ k1
          refine ⟨some k, c, rfl, ⟨by omega, by omega, by simp only [maxLen]; omega, C2, b2, by omega, fun j hj => ?_⟩, .inl rfl, k2⟩
          have e := ins_at x ks j
          rw [g2 j]
          by_cases hj2 : j = posI x ks
          · rw [hj2, if_pos (by simp; omega), Nat.sub_self]
            rw [if_neg (by omega), if_pos hj2, hj2] at e
            simp [List.getD, e]
          · rw [if_neg (by simp; omega), g1 j, List.length_drop, hm1]
            by_cases hj1 : j < posI x ks
            · rw [if_neg (by omega), hc j (by omega)]
              rw [if_pos hj1] at e
              simp only [List.getD, e]
            · rw [if_pos (by omega), hdr, show posI x ks + (j - (posI x ks + 1)) = j - 1 by omega, List.getElem?_map]
              rw [if_neg hj1, if_neg hj2] at e
              rw [← e]
              simp [List.getD, show j < (insI x ks).length by omega]
end
end Go.Proofs.Ytggmdgdgljlddaa
