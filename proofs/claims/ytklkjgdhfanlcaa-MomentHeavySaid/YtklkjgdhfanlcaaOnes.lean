/-
  Members that come in: a struct of an int32, an uint32 and a bool by value, and slices of such; opened and shut.
-/
import Derived.Test.YtklkjgdhfanlcaaMomE
import Derived.Deep.Slices
import Derived.Lib.SmallJoins
namespace Go.Proofs.Ytklkjgdhfanlcaa
open Go.ChangeShapes Go.WideShapes Go.RowKit Go.Joins Go.Deep

section
variable {H : Type} {enc : TypeId × Value → H} {P : Program} {w : World} {base : Nat} {spare : Nat → Bool} {held : Bool} {t e : TypeId} {f0 f1 f2 : Field}
theorem open_one {r : Reach} {b0 : Nat} {v : Value} {d : DataW H} {p : List MemPlace} (hs : P.underlying t = some (.struct #[f0, f1, f2])) (hone : oneCellFields P #[f0, f1, f2] = true) (hC : P.cellsOf t = 3) (h0 : P.underlying f0.type = some (.int .i32)) (h1 : P.underlying f1.type = some (.int .u32)) (h2 : P.underlying f2.type = some .bool)
    (hv : Value.okWide P w r b0 t v) (h : DataW.Trod enc P w base spare held t v d p) :
    ∃ (x y : Int) (q : Bool), v = .agg #[.int .i32 x, .int .u32 y, .bool q] ∧ d = .agg [.lit (.int .i32 x), .lit (.int .u32 y), .lit (.bool q)] ∧ p = [] ∧ (Lit.int .i32 x).wf = true ∧ (Lit.int .u32 y).wf = true := by
  obtain ⟨c0, c1, c2, y0, y1, y2, m, rfl, rfl, rfl, hy0, hy1, hy2⟩ := open_agg3 hs hone hC hv h
  obtain ⟨x, e0, rfl, wx⟩ := DataW.trod_int h0 hy0
  obtain ⟨y, e1, rfl, wy⟩ := DataW.trod_int h1 hy1
  obtain ⟨q, e2, rfl⟩ := DataW.trod_bool h2 hy2
  simp at e0 e1 e2
  subst e0 e1 e2
  exact ⟨x, y, q, rfl, rfl, rfl, wx, wy⟩
theorem shut_one {x y : Int} {q : Bool} (hs : P.underlying t = some (.struct #[f0, f1, f2])) (hone : oneCellFields P #[f0, f1, f2] = true) (hC : P.cellsOf t = 3) (h0 : P.underlying f0.type = some (.int .i32)) (h1 : P.underlying f1.type = some (.int .u32)) (h2 : P.underlying f2.type = some .bool)
    (wx : (Lit.int .i32 x).wf = true) (wy : (Lit.int .u32 y).wf = true) : DataW.Trod enc P w base spare held t (.agg #[.int .i32 x, .int .u32 y, .bool q]) (.agg [.lit (.int .i32 x), .lit (.int .u32 y), .lit (.bool q)]) [] :=
  shut_agg3 (y0 := (.lit (.int .i32 x), [])) (y1 := (.lit (.int .u32 y), [])) (y2 := (.lit (.bool q), [])) hs hone hC ⟨1, by simp [DataW.trod, h0, wx]⟩ ⟨1, by simp [DataW.trod, h1, wy]⟩ ⟨1, by simp [DataW.trod, h2]⟩

/-- One member of a row. -/
theorem cells_one {fuel : Nat} {cs : List Value} {x : DataW H × List MemPlace} (hs : P.underlying e = some (.struct #[f0, f1, f2])) (hone : oneCellFields P #[f0, f1, f2] = true) (hC : P.cellsOf e = 3) (h0 : P.underlying f0.type = some (.int .i32)) (h1 : P.underlying f1.type = some (.int .u32)) (h2 : P.underlying f2.type = some .bool)
    (h : DataW.trod enc P w base spare held fuel e cs = some x) : ∃ m : Mem, cs = [mc m 0, mc m 1, mc m 2] ∧ 0 ≤ m.y := by
  obtain ⟨ys, n, _, _, hl, hyl, hf⟩ := DataW.trod_struct hs h
  rw [hC] at hl
  match cs, hl with
  | [a, b, c], _ =>
    match ys, hyl with
    | [y0, y1, y2], _ =>
      obtain ⟨o0, k0⟩ := hone_of hone 0 f0 rfl
      obtain ⟨o1, k1⟩ := hone_of hone 1 f1 rfl
      obtain ⟨o2, k2⟩ := hone_of hone 2 f2 rfl
      have g0 := hf 0 f0 rfl
      have g1 := hf 1 f1 rfl
      have g2 := hf 2 f2 rfl
      rw [o0, k0] at g0
      rw [o1, k1] at g1
      rw [o2, k2] at g2
      obtain ⟨x, e0, _, _⟩ := DataW.trod_int h0 g0
      obtain ⟨y, e1, _, wy⟩ := DataW.trod_int h1 g1
      obtain ⟨q, e2, _⟩ := DataW.trod_bool h2 g2
      simp at e0 e1 e2
      subst e0 e1 e2
      exact ⟨⟨x, y, q⟩, rfl, (bounds_u32 wy).1⟩

/-- A slice of members that came in. -/
theorem open_ones {fuel : Nat} {A : Option Addr} {len cap : Nat} {x : DataW H × List MemPlace} (ht : P.underlying t = some (.slice e)) (hs : P.underlying e = some (.struct #[f0, f1, f2])) (hone : oneCellFields P #[f0, f1, f2] = true) (hC : P.cellsOf e = 3) (h0 : P.underlying f0.type = some (.int .i32)) (h1 : P.underlying f1.type = some (.int .u32)) (h2 : P.underlying f2.type = some .bool)
    (h : DataW.trod enc P w base spare held fuel t [.slice A len cap] = some x) : ∃ xs : List Mem, Rw 3 mc m0 w Anyb (.slice A len cap) xs ∧ Pos xs := by
  rcases open_slice ht h with ⟨hcs, _⟩ | ⟨a, l, c, m, n, D, Pl, hcs, _, hl, hm, hmm, _, hi⟩
  · simp at hcs
    obtain ⟨rfl, rfl, rfl⟩ := hcs
    exact ⟨[], Rw.nil _ _ _ w Anyb, fun _ h => by cases h⟩
  · simp at hcs
    obtain ⟨rfl, rfl, rfl⟩ := hcs
    have hlm : len ≤ m := by rw [hmm]; split <;> omega
    have hx : ∀ i : Nat, ∃ q : Mem, i < len → (∀ j, j < 3 → w.cell? (a.add (i * 3 + j)) = some (mc q j)) ∧ 0 ≤ q.y := by
      intro i
      by_cases hlt : i < len
      · obtain ⟨cs', hc, ht'⟩ := hi i (by omega)
        obtain ⟨q, rfl, hq⟩ := cells_one hs hone hC h0 h1 h2 ht'
        rw [hC] at hc
        obtain ⟨_, _, hat⟩ := World.cells?_some hc
        refine ⟨q, fun _ => ⟨fun j hj => ?_, hq⟩⟩
        have := hat j hj
        rw [Go.Deep.add_add] at this
        rw [this]
        match j, hj with
        | 0, _ => rfl
        | 1, _ => rfl
        | 2, _ => rfl
      · exact ⟨m0, fun h => absurd h hlt⟩
    refine ⟨(List.range len).map fun i => (hx i).choose, ⟨some a, cap, by simp, by simpa using hl, hm, fun h0 => ?_⟩, fun q hq => ?_⟩
    · have hpos : 0 < len := by simpa using h0
      obtain ⟨b, o, spot⟩ := a
      have hc0 := ((hx 0).choose_spec hpos).1 0 (by omega)
      have hsp : spot = none := by simpa [Addr.add] using World.cell?_spot hc0
      subst hsp
      refine ⟨b, o, rfl, by simpa [Addr.add] using World.block_lt_of_cell? w _ hc0, trivial, fun j i hj hi3 => ?_⟩
      have hj' : j < len := by simpa using hj
      have ha : (⟨b, o, none⟩ : Addr).add (j * 3 + i) = ⟨b, o + (j * 3 + i), none⟩ := by unfold Addr.add; split <;> simp_all
      rw [← ha, ((hx j).choose_spec hj').1 i hi3]
      simp [List.getD, hj']
    · obtain ⟨i, hi', rfl⟩ := List.mem_map.1 hq
      exact ((hx i).choose_spec (List.mem_range.1 hi')).2
end
end Go.Proofs.Ytklkjgdhfanlcaa
