/-
  What comes in: a scene, by value: two slices of structs.
-/
import Derived.Test.YtggmdgdgljlddaaGreatZIds
import Derived.Test.YtggmdgdgljlddaaGreatArgs
import Derived.Deep.Slices
import Derived.Lib.SmallJoins
namespace Go.Proofs.YtggmdgdgljlddaaGreat
open Go.ChangeShapes Go.WideShapes Go.RowKit Go.Joins Go.Deep

/-- All numbers of a group, of a task, are of their kinds. -/
structure GI (g : GS) : Prop where
  id : I64 g.id
  par : I64 g.par
  wt : I64 g.wt
  pd : I64 g.pd
  qt : I64 g.qt
  us : I64 g.us
structure TIn (t : TS) : Prop where
  id : I64 t.id
  gr : I64 t.gr
  wt : I64 t.wt
  co : 0 ≤ t.co ∧ t.co < 18446744073709551616
  ra : I64 t.ra
  lv : I64 t.lv
  lr : I64 t.lr
theorem I64.zero : I64 0 := by unfold I64; omega
section
variable {H : Type} {enc : TypeId × Value → H} {P : Program} {w : World} {base : Nat} {spare : Nat → Bool} {held : Bool} {t e : TypeId}
/-- A slice of structs that came in, each of n cells. -/
theorem open_rows {α : Type} {n : Nat} {f : α → Nat → Value} {d : α} {fuel : Nat} {A : Option Addr} {len cap : Nat} {x : DataW H × List MemPlace} (ht : P.underlying t = some (.slice e)) (hn : 0 < n) (hC : P.cellsOf e = n)
    (hel : ∀ (fuel : Nat) (cs : List Value) (y : DataW H × List MemPlace), DataW.trod enc P w base spare held fuel e cs = some y → ∃ q : α, ∀ j, j < n → cs[j]? = some (f q j))
    (h : DataW.trod enc P w base spare held fuel t [.slice A len cap] = some x) : ∃ xs : List α, Rw n f d w Anyb (.slice A len cap) xs := by
  rcases open_slice ht h with ⟨hcs, _⟩ | ⟨a, l, c, m, k, D, Pl, hcs, _, hl, hm, hmm, _, hi⟩
  · simp at hcs
    obtain ⟨rfl, rfl, rfl⟩ := hcs
    exact ⟨[], Rw.nil _ _ _ w Anyb⟩
  · simp at hcs
    obtain ⟨rfl, rfl, rfl⟩ := hcs
    have hlm : len ≤ m := by rw [hmm]; split <;> omega
    have hx : ∀ i : Nat, ∃ q : α, i < len → ∀ j, j < n → w.cell? (a.add (i * n + j)) = some (f q j) := by
      intro i
      by_cases hlt : i < len
      · obtain ⟨cs', hc, ht'⟩ := hi i (by omega)
        obtain ⟨q, hq⟩ := hel _ _ _ ht'
        rw [hC] at hc
        obtain ⟨_, _, hat⟩ := World.cells?_some hc
        refine ⟨q, fun _ j hj => ?_⟩
        have := hat j hj
        rw [Go.Deep.add_add] at this
        rw [this]
        have h1 := hq j hj
        simp [h1]
      · exact ⟨d, fun h => absurd h hlt⟩
    refine ⟨(List.range len).map fun i => (hx i).choose, ⟨some a, cap, by simp, by simpa using hl, hm, fun h0 => ?_⟩⟩
    have hpos : 0 < len := by simpa using h0
    obtain ⟨b, o, spot⟩ := a
    have hc0 := (hx 0).choose_spec hpos 0 hn
    have hsp : spot = none := by simpa [Addr.add] using World.cell?_spot hc0
    subst hsp
    refine ⟨b, o, rfl, by simpa [Addr.add] using World.block_lt_of_cell? w _ hc0, trivial, fun j i hj hi3 => ?_⟩
    have hj' : j < len := by simpa using hj
    have ha : (⟨b, o, none⟩ : Addr).add (j * n + i) = ⟨b, o + (j * n + i), none⟩ := by unfold Addr.add; split <;> simp_all
    rw [← ha, (hx j).choose_spec hj' i hi3]
    simp [List.getD, hj']


theorem trod_i64 {fuel : Nat} {c : Value} {y : DataW H × List MemPlace} (ht : P.underlying t = some (.int .i64)) (h : DataW.trod enc P w base spare held fuel t [c] = some y) : ∃ x : Int, c = .int .i64 x ∧ I64 x := by
  obtain ⟨x, e0, _, wx⟩ := DataW.trod_int ht h
  simp at e0
  exact ⟨x, e0, bounds_i64 wx⟩
theorem trod_u64 {fuel : Nat} {c : Value} {y : DataW H × List MemPlace} (ht : P.underlying t = some (.int .u64)) (h : DataW.trod enc P w base spare held fuel t [c] = some y) : ∃ x : Int, c = .int .u64 x ∧ 0 ≤ x ∧ x < 18446744073709551616 := by
  obtain ⟨x, e0, _, wx⟩ := DataW.trod_int ht h
  simp at e0
  exact ⟨x, e0, by have := bounds_u64 wx; omega⟩
theorem slice_cell {fuel : Nat} {c : Value} {y : DataW H × List MemPlace} (ht : P.underlying t = some (.slice e)) (h : DataW.trod enc P w base spare held fuel t [c] = some y) : ∃ A n k, c = .slice A n k := by
  rcases open_slice ht h with ⟨hcs, _⟩ | ⟨a, l, k, m, _, D, Pl, hcs, _⟩
  · simp at hcs
    exact ⟨_, _, _, hcs⟩
  · simp at hcs
    exact ⟨_, _, _, hcs⟩
theorem cells_gs {f0 f1 f2 f3 g0 g1 g2 : Field} {fuel : Nat} {cs : List Value} {x : DataW H × List MemPlace} (hs : P.underlying e = some (.struct #[f0, f1, f2, f3])) (ho0 : f0.offset = 0) (ho1 : f1.offset = 1) (ho2 : f2.offset = 2) (ho3 : f3.offset = 3) (hc0 : P.cellsOf f0.type = 1) (hc1 : P.cellsOf f1.type = 1) (hc2 : P.cellsOf f2.type = 1) (hc3 : P.cellsOf f3.type = 3) (hC : P.cellsOf e = 6)
    (h0 : P.underlying f0.type = some (.int .i64)) (h1 : P.underlying f1.type = some (.int .i64)) (h2 : P.underlying f2.type = some (.int .i64)) (h3 : P.underlying f3.type = some (.struct #[g0, g1, g2])) (hone : oneCellFields P #[g0, g1, g2] = true) (k0 : P.underlying g0.type = some (.int .i64)) (k1 : P.underlying g1.type = some (.int .i64)) (k2 : P.underlying g2.type = some (.int .i64))
    (h : DataW.trod enc P w base spare held fuel e cs = some x) : ∃ g : GS, cs = ge g ∧ GI g := by
  obtain ⟨ys, n, _, _, hl, hyl, hf⟩ := DataW.trod_struct hs h
  rw [hC] at hl
  match cs, hl with
  | [a0, a1, a2, a3, a4, a5], _ =>
    match ys, hyl with
    | [y0, y1, y2, y3], _ =>
      have e0 := hf 0 f0 rfl
      have e1 := hf 1 f1 rfl
      have e2 := hf 2 f2 rfl
      have e3 := hf 3 f3 rfl
      rw [ho0, hc0] at e0
      rw [ho1, hc1] at e1
      rw [ho2, hc2] at e2
      rw [ho3, hc3] at e3
      obtain ⟨x0, rfl, i0⟩ := trod_i64 h0 (by simpa using e0)
      obtain ⟨x1, rfl, i1⟩ := trod_i64 h1 (by simpa using e1)
      obtain ⟨x2, rfl, i2⟩ := trod_i64 h2 (by simpa using e2)
      obtain ⟨zs, n2, _, _, _, hzl, hg⟩ := DataW.trod_struct h3 e3
      match zs, hzl with
      | [z0, z1, z2], _ =>
        obtain ⟨o0, l0⟩ := hone_of hone 0 g0 rfl
        obtain ⟨o1, l1⟩ := hone_of hone 1 g1 rfl
        obtain ⟨o2, l2⟩ := hone_of hone 2 g2 rfl
        have q0 := hg 0 g0 rfl
        have q1 := hg 1 g1 rfl
        have q2 := hg 2 g2 rfl
        rw [o0, l0] at q0
        rw [o1, l1] at q1
        rw [o2, l2] at q2
        obtain ⟨x3, e4, i3⟩ := trod_i64 k0 (by simpa using q0)
        obtain ⟨x4, e5, i4⟩ := trod_i64 k1 (by simpa using q1)
        obtain ⟨x5, e6, i5⟩ := trod_i64 k2 (by simpa using q2)
        subst e4 e5 e6
        exact ⟨⟨x0, x1, x2, x3, x4, x5⟩, rfl, i0, i1, i2, i3, i4, i5⟩
theorem cells_ts {f0 f1 f2 f3 f4 f5 f6 g0 g1 : Field} {fuel : Nat} {cs : List Value} {x : DataW H × List MemPlace} (hs : P.underlying e = some (.struct #[f0, f1, f2, f3, f4, f5, f6])) (ho0 : f0.offset = 0) (ho1 : f1.offset = 1) (ho2 : f2.offset = 2) (ho3 : f3.offset = 3) (ho4 : f4.offset = 4) (ho5 : f5.offset = 5) (ho6 : f6.offset = 6)
    (hc0 : P.cellsOf f0.type = 1) (hc1 : P.cellsOf f1.type = 1) (hc2 : P.cellsOf f2.type = 1) (hc3 : P.cellsOf f3.type = 1) (hc4 : P.cellsOf f4.type = 1) (hc5 : P.cellsOf f5.type = 1) (hc6 : P.cellsOf f6.type = 2) (hC : P.cellsOf e = 8)
    (h0 : P.underlying f0.type = some (.int .i64)) (h1 : P.underlying f1.type = some (.int .i64)) (h2 : P.underlying f2.type = some (.int .i64)) (h3 : P.underlying f3.type = some (.int .u64)) (h4 : P.underlying f4.type = some .bool) (h5 : P.underlying f5.type = some (.int .i64)) (h6 : P.underlying f6.type = some (.struct #[g0, g1])) (hone : oneCellFields P #[g0, g1] = true) (k0 : P.underlying g0.type = some (.int .i64)) (k1 : P.underlying g1.type = some (.int .i64))
    (h : DataW.trod enc P w base spare held fuel e cs = some x) : ∃ t : TS, cs = te t ∧ TIn t := by
  obtain ⟨ys, n, _, _, hl, hyl, hf⟩ := DataW.trod_struct hs h
  rw [hC] at hl
  match cs, hl with
  | [a0, a1, a2, a3, a4, a5, a6, a7], _ =>
    match ys, hyl with
    | [y0, y1, y2, y3, y4, y5, y6], _ =>
      have e0 := hf 0 f0 rfl
      have e1 := hf 1 f1 rfl
      have e2 := hf 2 f2 rfl
      have e3 := hf 3 f3 rfl
      have e4 := hf 4 f4 rfl
      have e5 := hf 5 f5 rfl
      have e6 := hf 6 f6 rfl
      rw [ho0, hc0] at e0
      rw [ho1, hc1] at e1
      rw [ho2, hc2] at e2
      rw [ho3, hc3] at e3
      rw [ho4, hc4] at e4
      rw [ho5, hc5] at e5
      rw [ho6, hc6] at e6
      obtain ⟨x0, rfl, i0⟩ := trod_i64 h0 (by simpa using e0)
      obtain ⟨x1, rfl, i1⟩ := trod_i64 h1 (by simpa using e1)
      obtain ⟨x2, rfl, i2⟩ := trod_i64 h2 (by simpa using e2)
      obtain ⟨x3, rfl, i3⟩ := trod_u64 h3 (by simpa using e3)
      obtain ⟨x4, d4, _⟩ := DataW.trod_bool h4 e4
      simp at d4
      subst d4
      obtain ⟨x5, rfl, i5⟩ := trod_i64 h5 (by simpa using e5)
      obtain ⟨zs, n2, _, _, _, hzl, hg⟩ := DataW.trod_struct h6 e6
      match zs, hzl with
      | [z0, z1], _ =>
        obtain ⟨o0, l0⟩ := hone_of hone 0 g0 rfl
        obtain ⟨o1, l1⟩ := hone_of hone 1 g1 rfl
        have q0 := hg 0 g0 rfl
        have q1 := hg 1 g1 rfl
        rw [o0, l0] at q0
        rw [o1, l1] at q1
        obtain ⟨x6, d6, i6⟩ := trod_i64 k0 (by simpa using q0)
        obtain ⟨x7, d7, i7⟩ := trod_i64 k1 (by simpa using q1)
        subst d6 d7
        exact ⟨⟨x0, x1, x2, x3, x4, x5, x6, x7⟩, rfl, i0, i1, i2, i3, i5, i6, i7⟩
end

section
variable {H : Type} {enc : TypeId × Value → H} {w : World} {base : Nat} {spare : Nat → Bool} {held : Bool}
theorem rw_val {α : Type} {I : α → Prop} {n : Nat} {f : α → Nat → Value} {d : { a : α // I a }} {P : Nat → Prop} {v : Value} {xs : List { a : α // I a }} (hx : Rw n (fun q j => f q.1 j) d w P v xs) : Rw n f d.1 w P v (xs.map Subtype.val) := by
  obtain ⟨A', c, he, hc, hm, hr⟩ := hx
  refine ⟨A', c, by rw [List.length_map]; exact he, by rw [List.length_map]; exact hc, hm, fun h0 => ?_⟩
  rw [List.length_map] at h0
  obtain ⟨b, o, h1, h2, h3, h4⟩ := hr h0
  refine ⟨b, o, h1, h2, h3, fun j i hj hi => ?_⟩
  rw [List.length_map] at hj
  rw [h4 j i hj hi]
  simp [List.getD, hj]
theorem gs0_i : GI gs0 := ⟨I64.zero, I64.zero, I64.zero, I64.zero, I64.zero, I64.zero⟩
theorem ts0_i : TIn ts0 := ⟨I64.zero, I64.zero, I64.zero, by simp [ts0], I64.zero, I64.zero, I64.zero⟩
set_option maxRecDepth 100000 in
theorem open_gsl {fuel : Nat} {A : Option Addr} {len cap : Nat} {x : DataW H × List MemPlace} (h : DataW.trod enc Tryz.prog w base spare held fuel 22 [.slice A len cap] = some x) : ∃ xs : List GS, Rw 6 gc gs0 w Anyb (.slice A len cap) xs ∧ ∀ g ∈ xs, GI g := by
  obtain ⟨xs, hx⟩ := open_rows (n := 6) (α := { g : GS // GI g }) (f := fun q j => gc q.1 j) (d := ⟨gs0, gs0_i⟩) Tryz.underlying22 (by omega) (by kernel_rfl) (fun fuel cs y hy => by
    obtain ⟨q, rfl, hi⟩ := cells_gs (P := Tryz.prog) Tryz.underlying37 rfl rfl rfl rfl (by kernel_rfl) (by kernel_rfl) (by kernel_rfl) (by kernel_rfl) (by kernel_rfl) Tryz.underlying3 Tryz.underlying3 Tryz.underlying3 Tryz.underlying35 (by kernel_rfl) Tryz.underlying3 Tryz.underlying3 Tryz.underlying3 hy
    refine ⟨⟨q, hi⟩, fun j hj => ?_⟩
    match j, hj with
    | 0, _ => rfl
    | 1, _ => rfl
    | 2, _ => rfl
    | 3, _ => rfl
    | 4, _ => rfl
    | 5, _ => rfl) h
  refine ⟨_, rw_val hx, fun o ho => ?_⟩
  obtain ⟨q, _, rfl⟩ := List.mem_map.1 ho
  exact q.2
set_option maxRecDepth 100000 in
theorem open_tsl {fuel : Nat} {A : Option Addr} {len cap : Nat} {x : DataW H × List MemPlace} (h : DataW.trod enc Tryz.prog w base spare held fuel 23 [.slice A len cap] = some x) : ∃ xs : List TS, Rw 8 tc ts0 w Anyb (.slice A len cap) xs ∧ ∀ t ∈ xs, TIn t := by
  obtain ⟨xs, hx⟩ := open_rows (n := 8) (α := { t : TS // TIn t }) (f := fun q j => tc q.1 j) (d := ⟨ts0, ts0_i⟩) Tryz.underlying23 (by omega) (by kernel_rfl) (fun fuel cs y hy => by
    obtain ⟨q, rfl, hi⟩ := cells_ts (P := Tryz.prog) Tryz.underlying41 rfl rfl rfl rfl rfl rfl rfl (by kernel_rfl) (by kernel_rfl) (by kernel_rfl) (by kernel_rfl) (by kernel_rfl) (by kernel_rfl) (by kernel_rfl) (by kernel_rfl) Tryz.underlying3 Tryz.underlying3 Tryz.underlying3 Tryz.underlying27 Tryz.underlying4 Tryz.underlying3 Tryz.underlying39 (by kernel_rfl) Tryz.underlying3 Tryz.underlying3 hy
    refine ⟨⟨q, hi⟩, fun j hj => ?_⟩
    match j, hj with
    | 0, _ => rfl
    | 1, _ => rfl
    | 2, _ => rfl
    | 3, _ => rfl
    | 4, _ => rfl
    | 5, _ => rfl
    | 6, _ => rfl
    | 7, _ => rfl) h
  refine ⟨_, rw_val hx, fun o ho => ?_⟩
  obtain ⟨q, _, rfl⟩ := List.mem_map.1 ho
  exact q.2
/-- A scene that comes in. -/
def SnI (w : World) (v : Value) (gs : List GS) (ts : List TS) : Prop := Sce w Anyb v gs ts ∧ (∀ g ∈ gs, GI g) ∧ ∀ t ∈ ts, TIn t
set_option maxRecDepth 100000 in
theorem open_scene {r : Reach} {b0 : Nat} {v : Value} {d : DataW H} {p : List MemPlace} (hv : Value.okWide Tryz.prog w r b0 25 v) (h : DataW.Trod enc Tryz.prog w base spare held 25 v d p) : ∃ gs ts, SnI w v gs ts := by
  obtain ⟨cs, rfl, hsz⟩ := okWide_struct Tryz.underlying25 hv
  obtain ⟨fuel, hf⟩ := h
  obtain ⟨ys, n, _, _, hl, hyl, hg⟩ := DataW.trod_struct Tryz.underlying25 hf
  have hC : Tryz.prog.cellsOf 25 = 2 := by kernel_rfl
  rw [hC] at hl
  obtain ⟨l⟩ := cs
  simp only [Value.cells] at hl hg
  match l, hl with
  | [a, b], _ =>
    match ys, hyl with
    | [y0, y1], _ =>
      have e0 := hg 0 _ rfl
      have e1 := hg 1 _ rfl
      have c1 : Tryz.prog.cellsOf 22 = 1 := by kernel_rfl
      have c2 : Tryz.prog.cellsOf 23 = 1 := by kernel_rfl
      have d0 : DataW.trod enc Tryz.prog w base spare held n 22 (([a, b].drop 0).take (Tryz.prog.cellsOf 22)) = some y0 := e0
      have d1 : DataW.trod enc Tryz.prog w base spare held n 23 (([a, b].drop 1).take (Tryz.prog.cellsOf 23)) = some y1 := e1
      rw [c1] at d0
      rw [c2] at d1
      have e0' : DataW.trod enc Tryz.prog w base spare held n 22 [a] = some y0 := d0
      have e1' : DataW.trod enc Tryz.prog w base spare held n 23 [b] = some y1 := d1
      obtain ⟨A1, n1, k1, rfl⟩ := slice_cell Tryz.underlying22 e0'
      obtain ⟨A2, n2, k2, rfl⟩ := slice_cell Tryz.underlying23 e1'
      obtain ⟨gs, h1, h2⟩ := open_gsl e0'
      obtain ⟨ts, h3, h4⟩ := open_tsl e1'
      exact ⟨gs, ts, ⟨_, _, rfl, h1, h3⟩, h2, h4⟩
end
end Go.Proofs.YtggmdgdgljlddaaGreat
