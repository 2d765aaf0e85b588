/-
  An array of four bytes that comes in by value: the value written out. (After the library's law on arrays as keys, turned: no key is asked.)
-/
import Derived.Test.YtjcjepeailemcaaDoorWords
import Derived.DataReads
import Derived.OpenShut
import Derived.ChangeOld
namespace Go.Proofs.YtjcjepeailemcaaDoor
open Go.ChangeShapes Go.WideShapes Go.RowKit

theorem open_arr4 {H : Type} {enc : TypeId × Value → H} {P : Program} {W : World} {base : Nat} {sp : Nat → Bool} {held : Bool} {t e : TypeId} {q : IntKind} {r : Reach} {b0 : Nat} {v : Value} {d : DataW H} {p : List MemPlace}
    (ht : P.underlying t = some (.array 4 e)) (he : P.underlying e = some (.int q)) (hC : P.cellsOf t = 4) (hc : P.cellsOf e = 1) (hv : Value.okWide P W r b0 t v) (h : DataW.Trod enc P W base sp held t v d p) :
    ∃ x0 x1 x2 x3 : Int, v = .agg #[.int q x0, .int q x1, .int q x2, .int q x3] ∧ ∀ z ∈ [x0, x1, x2, x3], (Lit.int q z).wf = true := by
  simp only [Value.okWide, ht] at hv
  obtain ⟨cs, rfl, h2, _⟩ := hv
  rw [hC] at h2
  obtain ⟨fuel, hf⟩ := h
  cases fuel with
  | zero => simp [DataW.trod] at hf
  | succ m =>
    rw [DataW.trod_step] at hf
    unfold DataW.trodStep at hf
    simp only [ht, Value.cells] at hf
    rw [if_pos (by rw [hC]; simpa using h2)] at hf
    simp only [Option.map_eq_some_iff] at hf
    obtain ⟨ys, hy, _⟩ := hf
    obtain ⟨l⟩ := cs
    match l, h2 with
    | [c0, c1, c2, c3], _ =>
      simp [List.range, List.range.loop, List.mapM_cons, hc, Option.bind_eq_some_iff] at hy
      obtain ⟨_, _, g0, _, ⟨_, _, g1, _, ⟨_, _, g2, _, ⟨_, _, g3, _⟩, _⟩, _⟩, _⟩ := hy
      obtain ⟨x0, e0, _, f0⟩ := DataW.trod_int he g0
      obtain ⟨x1, e1, _, f1⟩ := DataW.trod_int he g1
      obtain ⟨x2, e2, _, f2⟩ := DataW.trod_int he g2
      obtain ⟨x3, e3, _, f3⟩ := DataW.trod_int he g3
      simp only [List.cons.injEq, and_true] at e0 e1 e2 e3
      subst e0 e1 e2 e3
      exact ⟨x0, x1, x2, x3, rfl, by simp [f0, f1, f2, f3]⟩
end Go.Proofs.YtjcjepeailemcaaDoor
