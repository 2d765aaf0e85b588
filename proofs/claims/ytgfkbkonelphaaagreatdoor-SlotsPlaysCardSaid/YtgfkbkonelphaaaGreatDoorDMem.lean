/-
  Sectors: lists of sixty-four bytes; rows of them in one block; one laid whole into a row. Nothing of a program is named here.
-/
import Derived.Test.YtgfkbkonelphaaaGreatDoorOwn
import Derived.Test.YtgfkbkonelphaaaGreatDoorHeld
import Derived.Test.YtgfkbkonelphaaaGreatDoorKMap
import Derived.Deep.MidRow
import Derived.Laws.MakeOwn
namespace Go.Proofs.YtgfkbkonelphaaaGreatDoor
open Go.RowKit

/-- A sector. -/
structure Sec (l : List Int) : Prop where
  len : l.length = 64
  rg : ∀ x ∈ l, 0 ≤ x ∧ x ≤ 255
/-- Its cells, its value, how it reads. -/
def sc (l : List Int) : List Value := l.map (Value.int .u8)
def sev (l : List Int) : Value := .agg (sc l).toArray
def senc (l : List Int) : DataW Unit := .agg (l.map fun x => .lit (.int .u8 x))
def zs : List Int := List.replicate 64 0

theorem Sec.zs : Sec zs := ⟨by simp [Go.Proofs.YtgfkbkonelphaaaGreatDoor.zs], fun x hx => by rw [List.eq_of_mem_replicate hx]; omega⟩
theorem sc_len (l : List Int) : (sc l).length = l.length := by simp [sc]
theorem sc_one (l : List Int) : ∀ v ∈ sc l, v.oneCell' = true := fun v hv => by
  obtain ⟨x, _, rfl⟩ := List.mem_map.1 hv
  rfl
theorem sc_at {l : List Int} {j : Nat} (h : j < l.length) : (sc l)[j]? = some (.int .u8 (l.getD j 0)) := by simp [sc, List.getD, h]
theorem getD_set_self {α : Type} {l : List α} {j : Nat} {x d : α} (h : j < l.length) : (l.set j x).getD j d = x := by
  rw [List.getD_eq_getElem?_getD, List.getElem?_set_self h, Option.getD_some]
theorem getD_set_ne {α : Type} {l : List α} {j k : Nat} {x d : α} (h : j ≠ k) : (l.set j x).getD k d = l.getD k d := by
  rw [List.getD_eq_getElem?_getD, List.getElem?_set_ne h, ← List.getD_eq_getElem?_getD]
theorem zs_at (i : Nat) : zs.getD i 0 = 0 := by
  unfold zs
  rw [List.getD_eq_getElem?_getD, List.getElem?_replicate]
  split <;> rfl
theorem sc_inj {a b : List Int} (h : sc a = sc b) : a = b := by
  unfold sc at h
  exact (List.map_inj_right (fun x y h => by injection h)).1 h
theorem sev_inj (a b : List Int) (h : sev a = sev b) : a = b := by
  unfold sev at h
  injection h with h
  exact sc_inj (by simpa using h)
theorem senc_inj (a b : List Int) (h : senc a = senc b) : a = b := by
  unfold senc at h
  injection h with h
  exact (List.map_inj_right (fun x y h => by injection h with h; injection h)).1 h

/-- Cells laid one by one into a block that is known whole. -/
theorem Blk.puts {g : Nat} {t : TypeId} : ∀ (vs : List Value) (o : Nat) (w : World) (cs : Array Value), Blk w g t cs →
    ∃ cs' : Array Value, Blk (w.setCells g o vs) g t cs' ∧ cs'.size = cs.size ∧ ∀ j, cs'[j]? = if o ≤ j ∧ j < o + vs.length ∧ j < cs.size then vs[j - o]? else cs[j]?
  | [], o, _, cs, h => ⟨cs, h, rfl, fun j => by rw [if_neg (by simp only [List.length_nil]; omega)]⟩
  | v :: r, o, w, cs, h => by
    obtain ⟨cs', h1, h2, h3⟩ := Blk.puts r (o + 1) (w.setCell ⟨g, o, none⟩ v) _ (h.put o v)
    refine ⟨cs', h1, by simpa using h2, fun j => ?_⟩
    rw [h3 j]
    simp only [Array.size_setIfInBounds, List.length_cons]
    by_cases hj : j = o
    · subst hj
      rw [if_neg (by omega), Array.getElem?_setIfInBounds_self]
      split
      · rw [if_pos (by omega)]
        simp
      · rw [if_neg (by omega), Array.getElem?_eq_none (by omega)]
    · rw [Array.getElem?_setIfInBounds_ne (by omega)]
      by_cases h4 : o + 1 ≤ j ∧ j < o + 1 + r.length ∧ j < cs.size
      · rw [if_pos h4, if_pos (by omega)]
        obtain ⟨m, rfl⟩ : ∃ m, j = o + 1 + m := ⟨j - (o + 1), by omega⟩
        rw [show o + 1 + m - (o + 1) = m by omega, show o + 1 + m - o = m + 1 by omega]
        simp
      · rw [if_neg h4, if_neg (by omega)]
theorem Kp.puts {S : Nat → Prop} {a : World} {g : Nat} (hp : S g ∨ a.heap.size ≤ g) : ∀ (vs : List Value) (o : Nat) (w : World), Kp S a w → Kp S a (w.setCells g o vs)
  | [], _, _, h => h
  | v :: r, o, _, h => Kp.puts hp r (o + 1) _ (h.setCell (p := ⟨g, o, none⟩) hp v)
theorem setCells_nil (w : World) (g o : Nat) : w.setCells g o [] = w := rfl
theorem size_setCells (g : Nat) : ∀ (vs : List Value) (o : Nat) (w : World), (w.setCells g o vs).heap.size = w.heap.size
  | [], _, _ => rfl
  | v :: r, o, w => by rw [World.setCells, size_setCells g r]; simp [World.setCell]

/-- A row of sectors, in a block of its own. -/
def Kt (t : TypeId) (w : World) (b : Nat) (ks : List (List Int)) : Prop := ∃ cs, Blk w b t cs ∧ cs.size = ks.length * 64 ∧ ∀ j i, j < ks.length → i < 64 → cs[j * 64 + i]? = some (.int .u8 ((ks.getD j []).getD i 0))

section
variable {t : TypeId} {w w' : World} {b : Nat} {ks : List (List Int)} {S : Nat → Prop}
theorem Kt.lt (h : Kt t w b ks) : b < w.heap.size := by
  obtain ⟨cs, h, _⟩ := h
  exact h.lt
theorem Kt.kp (h : Kt t w b ks) (k : Kp S w w') (hn : ¬ S b) : Kt t w' b ks := by
  obtain ⟨cs, h, h2⟩ := h
  exact ⟨cs, h.kp k hn, h2⟩
theorem Kt.kp0 (h : Kt t w b ks) (k : Kp No w w') : Kt t w' b ks := h.kp k fun h => h
theorem Kt.cell (h : Kt t w b ks) {j i : Nat} (hj : j < ks.length) (hi : i < 64) : w.cell? ⟨b, j * 64 + i, none⟩ = some (.int .u8 ((ks.getD j []).getD i 0)) := by
  obtain ⟨cs, h, _, h2⟩ := h
  rw [h.cell, h2 j i hj hi]
theorem Kt.frozen (h : Kt t w b ks) (i : Nat) : w.frozen? ⟨b, i, none⟩ = false := by
  obtain ⟨cs, h, _⟩ := h
  exact h.frozen i
theorem Kt.range (h : Kt t w b ks) {j : Nat} (hj : j < ks.length) (hl : (ks.getD j []).length = 64) : w.rangeAt b (j * 64) (sc (ks.getD j [])) := fun i v hv => by
  have hi : i < (sc (ks.getD j [])).length := (List.getElem?_eq_some_iff.1 hv).1
  rw [sc_len, hl] at hi
  rw [h.cell hj hi, ← hv, sc_at (by omega)]
theorem Kt.there (h : Kt t w b ks) {j : Nat} (hj : j < ks.length) : w.there b (j * 64) 64 := fun i hi => ⟨by rw [h.cell hj hi]; rfl, h.frozen _⟩
/-- A sector laid whole. -/
theorem Kt.put (h : Kt t w b ks) {j : Nat} (l : List Int) (hl : l.length = 64) (hj : j < ks.length) : Kt t (w.setCells b (j * 64) (sc l)) b (ks.set j l) := by
  obtain ⟨cs, h, hs, h2⟩ := h
  obtain ⟨cs', h3, h4, h5⟩ := Blk.puts (sc l) (j * 64) w cs h
  refine ⟨cs', h3, by simpa [h4] using hs, fun j' i hj' hi => ?_⟩
  rw [List.length_set] at hj'
  rw [h5, sc_len, hl, hs]
  by_cases e : j' = j
  · subst e
    rw [if_pos (by omega), show j' * 64 + i - j' * 64 = i by omega, sc_at (by omega)]
    simp [List.getD, hj']
  · rw [if_neg (by omega), h2 j' i hj' hi]
    simp [List.getD, List.getElem?_set_ne (Ne.symm e)]
/-- One byte of it. -/
theorem Kt.put1 (h : Kt t w b ks) {j i : Nat} (x : Int) (hj : j < ks.length) (hi : i < 64) (hl : (ks.getD j []).length = 64) : Kt t (w.setCell ⟨b, j * 64 + i, none⟩ (.int .u8 x)) b (ks.set j ((ks.getD j []).set i x)) := by
  obtain ⟨cs, h, hs, h2⟩ := h
  refine ⟨_, h.put _ _, by simpa using hs, fun j' i' hj' hi' => ?_⟩
  rw [List.length_set] at hj'
  by_cases e : j' = j
  · subst e
    by_cases e2 : i' = i
    · subst e2
      rw [Array.getElem?_setIfInBounds_self_of_lt (by omega), getD_set_self hj', getD_set_self (by omega)]
    · rw [Array.getElem?_setIfInBounds_ne (by omega), h2 j' i' hj' hi']
      simp [List.getD, hj', List.getElem?_set_ne (Ne.symm e2)]
  · rw [Array.getElem?_setIfInBounds_ne (by omega), h2 j' i' hj' hi']
    simp [List.getD, List.getElem?_set_ne (Ne.symm e)]
end
theorem sc_zs_size : (sc zs).toArray.size = 64 := by rw [List.size_toArray, sc_len]; exact Sec.zs.len
theorem sc_zs_at {i : Nat} (hi : i < 64) : (sc zs).toArray[i]! = .int .u8 0 := by
  have h : (sc zs).toArray[i]? = some (.int .u8 0) := by
    rw [List.getElem?_toArray, sc_at (by rw [Sec.zs.len]; exact hi)]
    rw [zs_at]
  rw [getElem!_def, h]
/-- Rows of bytes 0. -/
theorem Kt.new (w : World) (t : TypeId) (n : Nat) {z : Value} (hz : z.cells = (sc zs).toArray) : Kt t (w.alloc (.cells (madeCells z.cells (n * 64)) t)) w.heap.size (List.replicate n zs) := by
  refine ⟨_, Blk.new w t _, by rw [size_madeCells, List.length_replicate], fun j i hj hi => ?_⟩
  rw [List.length_replicate] at hj
  have hlt : j * 64 + i < n * 64 := by omega
  rw [hz]
  have hm : (j * 64 + i) % 64 = i := by omega
  have hg : (List.replicate n zs).getD j [] = zs := by rw [List.getD_eq_getElem?_getD, List.getElem?_replicate_of_lt hj]; rfl
  rw [hg, zs_at]
  unfold madeCells
  rw [Array.getElem?_map, Array.getElem?_range, if_pos hlt, Option.map_some, sc_zs_size, hm, sc_zs_at hi]
end Go.Proofs.YtgfkbkonelphaaaGreatDoor
