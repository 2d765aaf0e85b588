/-
  What comes in: members, and things that are done with a queue, by value and in slices.
-/
import Derived.Test.YtpbnmfoecmhnnaaQG
import Derived.Test.YtpbnmfoecmhnnaaSOpen
import Derived.Test.YtpbnmfoecmhnnaaArgs
namespace Go.Proofs.Ytpbnmfoecmhnnaa
open Go.ChangeShapes Go.WideShapes Go.RowKit Go.Joins Go.Deep

/-- All numbers of a thing that is done are ints. -/
structure I6 (o : Qo) : Prop where
  d : I64 o.d
  i : I64 o.m.id
  w : I64 o.m.w
  v : I64 o.m.v
  r : I64 o.m.r
  n : I64 o.n
structure I4 (m : Mb) : Prop where
  i : I64 m.id
  w : I64 m.w
  v : I64 m.v
  r : I64 m.r

section
variable {H : Type} {enc : TypeId × Value → H} {P : Program} {w : World} {base : Nat} {spare : Nat → Bool} {held : Bool} {t e : TypeId}

theorem trod_i64 {fuel : Nat} {c : Value} {y : DataW H × List MemPlace} (ht : P.underlying t = some (.int .i64)) (h : DataW.trod enc P w base spare held fuel t [c] = some y) : ∃ x : Int, c = .int .i64 x ∧ I64 x := by
  obtain ⟨x, e0, _, wx⟩ := DataW.trod_int ht h
  simp at e0
  exact ⟨x, e0, bounds_i64 wx⟩

/-- A member: two ints and a struct of two. -/
theorem cells_mb {f0 f1 f2 g0 g1 : Field} {fuel : Nat} {cs : List Value} {x : DataW H × List MemPlace} (hs : P.underlying e = some (.struct #[f0, f1, f2])) (ho0 : f0.offset = 0) (ho1 : f1.offset = 1) (ho2 : f2.offset = 2) (hc0 : P.cellsOf f0.type = 1) (hc1 : P.cellsOf f1.type = 1) (hc2 : P.cellsOf f2.type = 2) (hC : P.cellsOf e = 4)
    (h0 : P.underlying f0.type = some (.int .i64)) (h1 : P.underlying f1.type = some (.int .i64)) (h2 : P.underlying f2.type = some (.struct #[g0, g1])) (hone : oneCellFields P #[g0, g1] = true) (k0 : P.underlying g0.type = some (.int .i64)) (k1 : P.underlying g1.type = some (.int .i64))
    (h : DataW.trod enc P w base spare held fuel e cs = some x) : ∃ m : Mb, cs = [.int .i64 m.id, .int .i64 m.w, .int .i64 m.v, .int .i64 m.r] ∧ I4 m := by
  obtain ⟨ys, n, _, _, hl, hyl, hf⟩ := DataW.trod_struct hs h
  rw [hC] at hl
  match cs, hl with
  | [a, b, c, d], _ =>
    match ys, hyl with
    | [y0, y1, y2], _ =>
      have e0 := hf 0 f0 rfl
      have e1 := hf 1 f1 rfl
      have e2 := hf 2 f2 rfl
      rw [ho0, hc0] at e0
      rw [ho1, hc1] at e1
      rw [ho2, hc2] at e2
      obtain ⟨x0, rfl, i0⟩ := trod_i64 h0 (by simpa using e0)
      obtain ⟨x1, rfl, i1⟩ := trod_i64 h1 (by simpa using e1)
      obtain ⟨zs, n2, _, _, _, hzl, hg⟩ := DataW.trod_struct h2 e2
      match zs, hzl with
      | [z0, z1], _ =>
        obtain ⟨o0, l0⟩ := hone_of hone 0 g0 rfl
        obtain ⟨o1, l1⟩ := hone_of hone 1 g1 rfl
        have q0 := hg 0 g0 rfl
        have q1 := hg 1 g1 rfl
        rw [o0, l0] at q0
        rw [o1, l1] at q1
        obtain ⟨x2, e3, i2⟩ := trod_i64 k0 (by simpa using q0)
        obtain ⟨x3, e4, i3⟩ := trod_i64 k1 (by simpa using q1)
        subst e3 e4
        exact ⟨⟨x0, x1, x2, x3⟩, rfl, i0, i1, i2, i3⟩

/-- What is done: an int, a member, an int. -/
theorem cells_qo {f0 f1 f2 m0 m1 m2 g0 g1 : Field} {fuel : Nat} {cs : List Value} {x : DataW H × List MemPlace} (hs : P.underlying e = some (.struct #[f0, f1, f2])) (ho0 : f0.offset = 0) (ho1 : f1.offset = 1) (ho2 : f2.offset = 5) (hc0 : P.cellsOf f0.type = 1) (hc1 : P.cellsOf f1.type = 4) (hc2 : P.cellsOf f2.type = 1) (hC : P.cellsOf e = 6)
    (h0 : P.underlying f0.type = some (.int .i64)) (h2 : P.underlying f2.type = some (.int .i64))
    (hm : P.underlying f1.type = some (.struct #[m0, m1, m2])) (p0 : m0.offset = 0) (p1 : m1.offset = 1) (p2 : m2.offset = 2) (c0 : P.cellsOf m0.type = 1) (c1 : P.cellsOf m1.type = 1) (c2 : P.cellsOf m2.type = 2)
    (u0 : P.underlying m0.type = some (.int .i64)) (u1 : P.underlying m1.type = some (.int .i64)) (u2 : P.underlying m2.type = some (.struct #[g0, g1])) (hone : oneCellFields P #[g0, g1] = true) (k0 : P.underlying g0.type = some (.int .i64)) (k1 : P.underlying g1.type = some (.int .i64))
    (h : DataW.trod enc P w base spare held fuel e cs = some x) : ∃ o : Qo, cs = [.int .i64 o.d, .int .i64 o.m.id, .int .i64 o.m.w, .int .i64 o.m.v, .int .i64 o.m.r, .int .i64 o.n] ∧ I6 o := by
  obtain ⟨ys, n, _, _, hl, hyl, hf⟩ := DataW.trod_struct hs h
  rw [hC] at hl
  match cs, hl with
  | [a0, a1, a2, a3, a4, a5], _ =>
    match ys, hyl with
    | [y0, y1, y2], _ =>
      have e0 := hf 0 f0 rfl
      have e1 := hf 1 f1 rfl
      have e2 := hf 2 f2 rfl
      rw [ho0, hc0] at e0
      rw [ho1, hc1] at e1
      rw [ho2, hc2] at e2
      obtain ⟨x0, rfl, i0⟩ := trod_i64 h0 (by simpa using e0)
      obtain ⟨x5, e6, i5⟩ := trod_i64 h2 (by simpa using e2)
      obtain ⟨m, hm', i⟩ := cells_mb hm p0 p1 p2 c0 c1 c2 hc1 u0 u1 u2 hone k0 k1 e1
      simp at hm'
      obtain ⟨rfl, rfl, rfl, rfl⟩ := hm'
      subst e6
      exact ⟨⟨x0, m, x5⟩, rfl, i0, i.i, i.w, i.v, i.r, i5⟩
end

section
variable {H : Type} {enc : TypeId × Value → H} {w : World} {base : Nat} {spare : Nat → Bool} {held : Bool}
set_option maxRecDepth 100000 in
theorem open_mb {r : Reach} {b0 : Nat} {v : Value} {d : DataW H} {p : List MemPlace} (hv : Value.okWide Try.prog w r b0 67 v) (h : DataW.Trod enc Try.prog w base spare held 67 v d p) :
    ∃ m : Mb, v = .agg #[.int .i64 m.id, .int .i64 m.w, .int .i64 m.v, .int .i64 m.r] ∧ I4 m := by
  obtain ⟨cs, rfl, hsz⟩ := okWide_struct Try.underlying67 hv
  obtain ⟨fuel, hf⟩ := h
  obtain ⟨m, hm, hi⟩ := cells_mb (P := Try.prog) Try.underlying67 rfl rfl rfl (by kernel_rfl) (by kernel_rfl) (by kernel_rfl) (by kernel_rfl) Try.underlying3 Try.underlying3 Try.underlying65 (by kernel_rfl) Try.underlying3 Try.underlying3 hf
  exact ⟨m, congrArg Value.agg (Array.toList_inj.1 (by simpa [Value.cells] using hm)), hi⟩
set_option maxRecDepth 100000 in
theorem qo_cells {fuel : Nat} {cs : List Value} {x : DataW H × List MemPlace} (h : DataW.trod enc Try.prog w base spare held fuel 72 cs = some x) : ∃ o : Qo, cs = [.int .i64 o.d, .int .i64 o.m.id, .int .i64 o.m.w, .int .i64 o.m.v, .int .i64 o.m.r, .int .i64 o.n] ∧ I6 o :=
  cells_qo (P := Try.prog) Try.underlying72 rfl rfl rfl (by kernel_rfl) (by kernel_rfl) (by kernel_rfl) (by kernel_rfl) Try.underlying3 Try.underlying3 Try.underlying67 rfl rfl rfl (by kernel_rfl) (by kernel_rfl) (by kernel_rfl) Try.underlying3 Try.underlying3 Try.underlying65 (by kernel_rfl) Try.underlying3 Try.underlying3 h
set_option maxRecDepth 100000 in
theorem open_qo {r : Reach} {b0 : Nat} {v : Value} {d : DataW H} {p : List MemPlace} (hv : Value.okWide Try.prog w r b0 72 v) (h : DataW.Trod enc Try.prog w base spare held 72 v d p) :
    ∃ o : Qo, v = .agg #[.int .i64 o.d, .int .i64 o.m.id, .int .i64 o.m.w, .int .i64 o.m.v, .int .i64 o.m.r, .int .i64 o.n] ∧ I6 o := by
  obtain ⟨cs, rfl, hsz⟩ := okWide_struct Try.underlying72 hv
  obtain ⟨fuel, hf⟩ := h
  obtain ⟨m, hm, hi⟩ := qo_cells hf
  exact ⟨m, congrArg Value.agg (Array.toList_inj.1 (by simpa [Value.cells] using hm)), hi⟩

theorem I64.zero : I64 0 := by unfold I64; omega
set_option maxRecDepth 100000 in
/-- A slice of things that are done. -/
theorem open_qos {fuel : Nat} {A : Option Addr} {len cap : Nat} {x : DataW H × List MemPlace} (h : DataW.trod enc Try.prog w base spare held fuel 57 [.slice A len cap] = some x) : ∃ xs : List Qo, Rw 6 qc qo0 w Anyb (.slice A len cap) xs ∧ ∀ o ∈ xs, I6 o := by
  obtain ⟨xs, hx⟩ := open_rows (n := 6) (α := { o : Qo // I6 o }) (f := fun q j => qc q.1 j) (d := ⟨qo0, I64.zero, I64.zero, I64.zero, I64.zero, I64.zero, I64.zero⟩) Try.underlying57 (by omega) (by kernel_rfl) (fun fuel cs y hy => by
    obtain ⟨q, rfl, hi⟩ := qo_cells hy
    refine ⟨⟨q, hi⟩, fun j hj => ?_⟩
    match j, hj with
    | 0, _ => rfl
    | 1, _ => rfl
    | 2, _ => rfl
    | 3, _ => rfl
    | 4, _ => rfl
    | 5, _ => rfl) h
  refine ⟨xs.map Subtype.val, ?_, fun o ho => ?_⟩
  · obtain ⟨A', c, he, hc, hm, hr⟩ := hx
    refine ⟨A', c, by rw [List.length_map]; exact he, by rw [List.length_map]; exact hc, hm, fun h0 => ?_⟩
    rw [List.length_map] at h0
    obtain ⟨b, o, h1, h2, h3, h4⟩ := hr h0
    refine ⟨b, o, h1, h2, h3, fun j i hj hi => ?_⟩
    rw [List.length_map] at hj
    rw [h4 j i hj hi]
    simp [List.getD, hj]
  · obtain ⟨q, _, rfl⟩ := List.mem_map.1 ho
    exact q.2
end
end Go.Proofs.Ytpbnmfoecmhnnaa
