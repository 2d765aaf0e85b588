/-
  What comes in: slices of things that are done (structs of three ints, a slice of bytes, a slice of bools).
-/
import Derived.Test.YtndbkpmfimpgnaaDOps
import Derived.Deep.Slices
import Derived.Deep.Grids
import Derived.Lib.SmallJoins
namespace Go.Proofs.Ytndbkpmfimpgnaa
open Go.ChangeShapes Go.WideShapes Go.RowKit Go.Joins Go.Deep

section
variable {H : Type} {enc : TypeId × Value → H} {P : Program} {w : World} {base : Nat} {spare : Nat → Bool} {held : Bool} {t e : TypeId}
/-- A slice of structs that came in, each of n cells. -/
theorem open_rows {α : Type} {n : Nat} {f : α → Nat → Value} {d : α} {fuel : Nat} {A : Option Addr} {len cap : Nat} {x : DataW H × List MemPlace} (ht : P.underlying t = some (.slice e)) (hn : 0 < n) (hC : P.cellsOf e = n)
    (hel : ∀ (fuel : Nat) (cs : List Value) (y : DataW H × List MemPlace), DataW.trod enc P w base spare held fuel e cs = some y → ∃ q : α, ∀ j, j < n → cs[j]? = some (f q j))
    (h : DataW.trod enc P w base spare held fuel t [.slice A len cap] = some x) : ∃ xs : List α, Rw n f d w Anyb (.slice A len cap) xs := by
  rcases open_slice ht h with ⟨hcs, _⟩ | ⟨a, l, c, m, k, D, Pl, hcs, _, hl, hm, hmm, _, hi⟩
  · simp at hcs
    obtain ⟨rfl, rfl, rfl⟩ := hcs
    exact ⟨[], Rw.nil _ _ _ w Anyb⟩
  · simp at hcs
    obtain ⟨rfl, rfl, rfl⟩ := hcs
    have hlm : len ≤ m := by rw [hmm]; split <;> omega
    have hx : ∀ i : Nat, ∃ q : α, i < len → ∀ j, j < n → w.cell? (a.add (i * n + j)) = some (f q j) := by
      intro i
      by_cases hlt : i < len
      · obtain ⟨cs', hc, ht'⟩ := hi i (by omega)
        obtain ⟨q, hq⟩ := hel _ _ _ ht'
        rw [hC] at hc
        obtain ⟨_, _, hat⟩ := World.cells?_some hc
        refine ⟨q, fun _ j hj => ?_⟩
        have := hat j hj
        rw [Go.Deep.add_add] at this
        rw [this]
        have h1 := hq j hj
        simp [h1]
      · exact ⟨d, fun h => absurd h hlt⟩
    refine ⟨(List.range len).map fun i => (hx i).choose, ⟨some a, cap, by simp, by simpa using hl, hm, fun h0 => ?_⟩⟩
    have hpos : 0 < len := by simpa using h0
    obtain ⟨b, o, spot⟩ := a
    have hc0 := (hx 0).choose_spec hpos 0 hn
    have hsp : spot = none := by simpa [Addr.add] using World.cell?_spot hc0
    subst hsp
    refine ⟨b, o, rfl, by simpa [Addr.add] using World.block_lt_of_cell? w _ hc0, trivial, fun j i hj hi3 => ?_⟩
    have hj' : j < len := by simpa using hj
    have ha : (⟨b, o, none⟩ : Addr).add (j * n + i) = ⟨b, o + (j * n + i), none⟩ := by unfold Addr.add; split <;> simp_all
    rw [← ha, (hx j).choose_spec hj' i hi3]
    simp [List.getD, hj']


theorem trod_i64 {fuel : Nat} {c : Value} {y : DataW H × List MemPlace} (ht : P.underlying t = some (.int .i64)) (h : DataW.trod enc P w base spare held fuel t [c] = some y) : ∃ x : Int, c = .int .i64 x ∧ I64 x := by
  obtain ⟨x, e0, _, wx⟩ := DataW.trod_int ht h
  simp at e0
  exact ⟨x, e0, bounds_i64 wx⟩
theorem trod_bytes {fuel : Nat} {c : Value} {y : DataW H × List MemPlace} (ht : P.underlying t = some (.slice e)) (he : P.underlying e = some (.int .u8)) (hc : P.cellsOf e = 1) (h : DataW.trod enc P w base spare held fuel t [c] = some y) : ∃ xs, Byt w Anyb c xs := by
  rcases open_ints ht he hc h with ⟨hcs, _⟩ | ⟨x, l, cp, zs, hcs, _, hl, hm, hz, _, hcell, hwz⟩
  · simp at hcs
    subst hcs
    exact ⟨[], Byt.nil w Anyb⟩
  · simp at hcs
    subst hcs
    have hlz : l ≤ zs.length := by rw [hz]; split <;> omega
    have hlen : (zs.take l).length = l := by simp; omega
    refine ⟨zs.take l, some x, cp, by rw [hlen], by omega, hm, fun n hn => bounds_u8 (hwz n (List.mem_of_mem_take hn)), fun h0 => ?_⟩
    rw [hlen] at h0 ⊢
    obtain ⟨b, o, spot⟩ := x
    have h1 := hcell 0 (by omega)
    have hs : spot = none := by simpa [Addr.add] using World.cell?_spot h1
    subst hs
    refine ⟨b, o, rfl, by simpa [Addr.add] using World.block_lt_of_cell? w _ h1, trivial, fun j hj => ?_⟩
    have ha : (⟨b, o, none⟩ : Addr).add j = ⟨b, o + j, none⟩ := by unfold Addr.add; split <;> simp_all
    rw [← ha, hcell j (by omega)]
    simp [List.getD, hj]
theorem trod_bools {fuel : Nat} {c : Value} {y : DataW H × List MemPlace} (ht : P.underlying t = some (.slice e)) (he : P.underlying e = some .bool) (hc : P.cellsOf e = 1) (h : DataW.trod enc P w base (fun _ => true) held fuel t [c] = some y) : ∃ xs, Sl Value.bool false w Anyb c xs := by
  rcases Go.Deep.open_bools ht he hc h with ⟨hcs, _⟩ | ⟨x, l, cp, B, hcs, _, hl, hm, _, hcell⟩
  · simp at hcs
    subst hcs
    exact ⟨[], Sl.nil _ _ w Anyb⟩
  · simp at hcs
    subst hcs
    exact ⟨_, Sl.of_fun hl hm hcell⟩

theorem cells_dop {f0 f1 f2 f3 f4 : Field} {e8 eb : TypeId} {fuel : Nat} {cs : List Value} {x : DataW H × List MemPlace} (hs : P.underlying e = some (.struct #[f0, f1, f2, f3, f4])) (hone : oneCellFields P #[f0, f1, f2, f3, f4] = true) (hC : P.cellsOf e = 5)
    (h0 : P.underlying f0.type = some (.int .i64)) (h1 : P.underlying f1.type = some (.int .i64)) (h2 : P.underlying f2.type = some (.int .i64)) (h3 : P.underlying f3.type = some (.slice e8)) (h4 : P.underlying f4.type = some (.slice eb)) (u8 : P.underlying e8 = some (.int .u8)) (c8 : P.cellsOf e8 = 1) (ub : P.underlying eb = some .bool) (cb : P.cellsOf eb = 1)
    (h : DataW.trod enc P w base (fun _ => true) held fuel e cs = some x) : ∃ o : Dop, cs = [dc o 0, dc o 1, dc o 2, dc o 3, dc o 4] ∧ OpOk w Anyb o := by
  obtain ⟨ys, n, _, _, hl, hyl, hf⟩ := DataW.trod_struct hs h
  rw [hC] at hl
  match cs, hl with
  | [a, b, c, d, f], _ =>
    match ys, hyl with
    | [y0, y1, y2, y3, y4], _ =>
      obtain ⟨o0, k0⟩ := hone_of hone 0 f0 rfl
      obtain ⟨o1, k1⟩ := hone_of hone 1 f1 rfl
      obtain ⟨o2, k2⟩ := hone_of hone 2 f2 rfl
      obtain ⟨o3, k3⟩ := hone_of hone 3 f3 rfl
      obtain ⟨o4, k4⟩ := hone_of hone 4 f4 rfl
      have g0 := hf 0 f0 rfl
      have g1 := hf 1 f1 rfl
      have g2 := hf 2 f2 rfl
      have g3 := hf 3 f3 rfl
      have g4 := hf 4 f4 rfl
      rw [o0, k0] at g0
      rw [o1, k1] at g1
      rw [o2, k2] at g2
      rw [o3, k3] at g3
      rw [o4, k4] at g4
      obtain ⟨x0, rfl, i0⟩ := trod_i64 h0 (by simpa using g0)
      obtain ⟨x1, rfl, i1⟩ := trod_i64 h1 (by simpa using g1)
      obtain ⟨x2, rfl, i2⟩ := trod_i64 h2 (by simpa using g2)
      obtain ⟨xs, b3⟩ := trod_bytes (c := d) h3 u8 c8 (by simpa using g3)
      obtain ⟨ks, b4⟩ := trod_bools (c := f) h4 ub cb (by simpa using g4)
      exact ⟨⟨x0, x1, x2, d, xs, f, ks⟩, rfl, i0, i1, i2, b3, b4⟩
end

section
variable {H : Type} {enc : TypeId × Value → H} {w : World} {base : Nat} {held : Bool}
theorem I64.zero : I64 0 := by unfold I64; omega
theorem dop0_ok (w : World) : OpOk w Anyb dop0 := ⟨I64.zero, I64.zero, I64.zero, Byt.nil w Anyb, Sl.nil _ _ w Anyb⟩
set_option maxRecDepth 100000 in
/-- A slice of things that are done. -/
theorem open_dops {fuel : Nat} {A : Option Addr} {len cap : Nat} {x : DataW H × List MemPlace} (h : DataW.trod enc Try.prog w base (fun _ => true) held fuel 22 [.slice A len cap] = some x) : ∃ xs : List Dop, Ops w Anyb (.slice A len cap) xs := by
  obtain ⟨xs, hx⟩ := open_rows (n := 5) (α := { o : Dop // OpOk w Anyb o }) (f := fun q j => dc q.1 j) (d := ⟨dop0, dop0_ok w⟩) Try.underlying22 (by omega) (by kernel_rfl) (fun fuel cs y hy => by
    obtain ⟨q, rfl, hi⟩ := cells_dop (P := Try.prog) Try.underlying42 (by kernel_rfl) (by kernel_rfl) Try.underlying3 Try.underlying3 Try.underlying3 Try.underlying30 Try.underlying23 Try.underlying5 (by kernel_rfl) Try.underlying4 (by kernel_rfl) hy
    refine ⟨⟨q, hi⟩, fun j hj => ?_⟩
    match j, hj with
    | 0, _ => rfl
    | 1, _ => rfl
    | 2, _ => rfl
    | 3, _ => rfl
    | 4, _ => rfl) h
  refine ⟨xs.map Subtype.val, ⟨?_, fun o ho => ?_⟩⟩
  · obtain ⟨A', c, he, hc, hm, hr⟩ := hx
    refine ⟨A', c, by rw [List.length_map]; exact he, by rw [List.length_map]; exact hc, hm, fun h0 => ?_⟩
    rw [List.length_map] at h0
    obtain ⟨b, o, h1, h2, h3, h4⟩ := hr h0
    refine ⟨b, o, h1, h2, h3, fun j i hj hi => ?_⟩
    rw [List.length_map] at hj
    rw [h4 j i hj hi]
    simp [List.getD, hj]
  · obtain ⟨q, _, rfl⟩ := List.mem_map.1 ho
    exact q.2
end
end Go.Proofs.Ytndbkpmfimpgnaa
