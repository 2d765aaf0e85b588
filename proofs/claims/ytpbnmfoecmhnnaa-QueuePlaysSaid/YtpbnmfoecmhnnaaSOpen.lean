/-
  What comes in: slices of structs, whatever the struct; slices of items, and of things that are done.
-/
import Derived.Test.YtpbnmfoecmhnnaaSO
import Derived.Deep.Slices
import Derived.Lib.SmallJoins
namespace Go.Proofs.Ytpbnmfoecmhnnaa
open Go.ChangeShapes Go.WideShapes Go.RowKit Go.Joins Go.Deep

/-- An item's cells. -/
def itc (x : It) : Nat → Value
  | 0 => .int .i64 x.key
  | _ => .int .i64 x.id
theorem itc_one (x : It) (i : Nat) : (itc x i).oneCell' = true := by
  unfold itc
  split <;> rfl

section
variable {H : Type} {enc : TypeId × Value → H} {P : Program} {w : World} {base : Nat} {spare : Nat → Bool} {held : Bool} {t e : TypeId}

/-- A slice of structs that came in, each of n cells. -/
theorem open_rows {α : Type} {n : Nat} {f : α → Nat → Value} {d : α} {fuel : Nat} {A : Option Addr} {len cap : Nat} {x : DataW H × List MemPlace} (ht : P.underlying t = some (.slice e)) (hn : 0 < n) (hC : P.cellsOf e = n)
    (hel : ∀ (fuel : Nat) (cs : List Value) (y : DataW H × List MemPlace), DataW.trod enc P w base spare held fuel e cs = some y → ∃ q : α, ∀ j, j < n → cs[j]? = some (f q j))
    (h : DataW.trod enc P w base spare held fuel t [.slice A len cap] = some x) : ∃ xs : List α, Rw n f d w Anyb (.slice A len cap) xs := by
  rcases open_slice ht h with ⟨hcs, _⟩ | ⟨a, l, c, m, k, D, Pl, hcs, _, hl, hm, hmm, _, hi⟩
  · simp at hcs
    obtain ⟨rfl, rfl, rfl⟩ := hcs
    exact ⟨[], Rw.nil _ _ _ w Anyb⟩
  · simp at hcs
    obtain ⟨rfl, rfl, rfl⟩ := hcs
    have hlm : len ≤ m := by rw [hmm]; split <;> omega
    have hx : ∀ i : Nat, ∃ q : α, i < len → ∀ j, j < n → w.cell? (a.add (i * n + j)) = some (f q j) := by
      intro i
      by_cases hlt : i < len
      · obtain ⟨cs', hc, ht'⟩ := hi i (by omega)
        obtain ⟨q, hq⟩ := hel _ _ _ ht'
        rw [hC] at hc
        obtain ⟨_, _, hat⟩ := World.cells?_some hc
        refine ⟨q, fun _ j hj => ?_⟩
        have := hat j hj
        rw [Go.Deep.add_add] at this
        rw [this]
        have h1 := hq j hj
        simp [h1]
      · exact ⟨d, fun h => absurd h hlt⟩
    refine ⟨(List.range len).map fun i => (hx i).choose, ⟨some a, cap, by simp, by simpa using hl, hm, fun h0 => ?_⟩⟩
    have hpos : 0 < len := by simpa using h0
    obtain ⟨b, o, spot⟩ := a
    have hc0 := (hx 0).choose_spec hpos 0 hn
    have hsp : spot = none := by simpa [Addr.add] using World.cell?_spot hc0
    subst hsp
    refine ⟨b, o, rfl, by simpa [Addr.add] using World.block_lt_of_cell? w _ hc0, trivial, fun j i hj hi3 => ?_⟩
    have hj' : j < len := by simpa using hj
    have ha : (⟨b, o, none⟩ : Addr).add (j * n + i) = ⟨b, o + (j * n + i), none⟩ := by unfold Addr.add; split <;> simp_all
    rw [← ha, (hx j).choose_spec hj' i hi3]
    simp [List.getD, hj']

/-- A struct of two ints. -/
theorem cells_item {f0 f1 : Field} {fuel : Nat} {cs : List Value} {x : DataW H × List MemPlace} (hs : P.underlying e = some (.struct #[f0, f1])) (hone : oneCellFields P #[f0, f1] = true) (hC : P.cellsOf e = 2) (h0 : P.underlying f0.type = some (.int .i64)) (h1 : P.underlying f1.type = some (.int .i64))
    (h : DataW.trod enc P w base spare held fuel e cs = some x) : ∃ q : It, cs = [itc q 0, itc q 1] := by
  obtain ⟨ys, n, _, _, hl, hyl, hf⟩ := DataW.trod_struct hs h
  rw [hC] at hl
  match cs, hl with
  | [a, b], _ =>
    match ys, hyl with
    | [y0, y1], _ =>
      obtain ⟨o0, k0⟩ := hone_of hone 0 f0 rfl
      obtain ⟨o1, k1⟩ := hone_of hone 1 f1 rfl
      have g0 := hf 0 f0 rfl
      have g1 := hf 1 f1 rfl
      rw [o0, k0] at g0
      rw [o1, k1] at g1
      obtain ⟨x, e0, _, _⟩ := DataW.trod_int h0 g0
      obtain ⟨y, e1, _, _⟩ := DataW.trod_int h1 g1
      simp at e0 e1
      subst e0 e1
      exact ⟨⟨x, y⟩, rfl⟩

theorem open_items {f0 f1 : Field} {fuel : Nat} {A : Option Addr} {len cap : Nat} {x : DataW H × List MemPlace} (ht : P.underlying t = some (.slice e)) (hs : P.underlying e = some (.struct #[f0, f1])) (hone : oneCellFields P #[f0, f1] = true) (hC : P.cellsOf e = 2) (h0 : P.underlying f0.type = some (.int .i64)) (h1 : P.underlying f1.type = some (.int .i64))
    (h : DataW.trod enc P w base spare held fuel t [.slice A len cap] = some x) : ∃ xs : List It, Rw 2 itc it0 w Anyb (.slice A len cap) xs :=
  open_rows ht (by omega) hC (fun fuel cs y hy => by
    obtain ⟨q, rfl⟩ := cells_item hs hone hC h0 h1 hy
    refine ⟨q, fun j hj => ?_⟩
    match j, hj with
    | 0, _ => rfl
    | 1, _ => rfl) h

/-- What is done: a struct of an item and a bool. -/
theorem cells_op {f0 f1 g0 g1 : Field} {fuel : Nat} {cs : List Value} {x : DataW H × List MemPlace} (hs : P.underlying e = some (.struct #[f0, f1])) (ho0 : f0.offset = 0) (ho1 : f1.offset = 2) (hc0 : P.cellsOf f0.type = 2) (hc1 : P.cellsOf f1.type = 1) (hC : P.cellsOf e = 3)
    (hI : P.underlying f0.type = some (.struct #[g0, g1])) (hone : oneCellFields P #[g0, g1] = true) (h0 : P.underlying g0.type = some (.int .i64)) (h1 : P.underlying g1.type = some (.int .i64)) (hb : P.underlying f1.type = some .bool)
    (h : DataW.trod enc P w base spare held fuel e cs = some x) : ∃ q : Op, cs = [oc q 0, oc q 1, oc q 2] := by
  obtain ⟨ys, n, _, _, hl, hyl, hf⟩ := DataW.trod_struct hs h
  rw [hC] at hl
  match cs, hl with
  | [a, b, c], _ =>
    match ys, hyl with
    | [y0, y1], _ =>
      have k0 := hf 0 f0 rfl
      have k1 := hf 1 f1 rfl
      rw [ho0, hc0] at k0
      rw [ho1, hc1] at k1
      obtain ⟨q, hq⟩ := cells_item hI hone hc0 h0 h1 k0
      obtain ⟨z, e1, _⟩ := DataW.trod_bool hb k1
      simp at hq e1
      obtain ⟨rfl, rfl⟩ := hq
      subst e1
      exact ⟨⟨q, z⟩, rfl⟩

theorem open_ops {f0 f1 g0 g1 : Field} {fuel : Nat} {A : Option Addr} {len cap : Nat} {x : DataW H × List MemPlace} (ht : P.underlying t = some (.slice e)) (hs : P.underlying e = some (.struct #[f0, f1])) (ho0 : f0.offset = 0) (ho1 : f1.offset = 2) (hc0 : P.cellsOf f0.type = 2) (hc1 : P.cellsOf f1.type = 1) (hC : P.cellsOf e = 3)
    (hI : P.underlying f0.type = some (.struct #[g0, g1])) (hone : oneCellFields P #[g0, g1] = true) (h0 : P.underlying g0.type = some (.int .i64)) (h1 : P.underlying g1.type = some (.int .i64)) (hb : P.underlying f1.type = some .bool)
    (h : DataW.trod enc P w base spare held fuel t [.slice A len cap] = some x) : ∃ xs : List Op, Rw 3 oc op0 w Anyb (.slice A len cap) xs :=
  open_rows ht (by omega) hC (fun fuel cs y hy => by
    obtain ⟨q, rfl⟩ := cells_op hs ho0 ho1 hc0 hc1 hC hI hone h0 h1 hb hy
    refine ⟨q, fun j hj => ?_⟩
    match j, hj with
    | 0, _ => rfl
    | 1, _ => rfl
    | 2, _ => rfl) h
end
end Go.Proofs.Ytpbnmfoecmhnnaa
