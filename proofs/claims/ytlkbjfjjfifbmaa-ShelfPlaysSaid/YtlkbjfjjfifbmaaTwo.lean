/-
  A struct of two integers that comes in by value: opened and shut. (By the library's laws on structs of two cells.)
-/
import Derived.Test.YtlkbjfjjfifbmaaWords
import Derived.Lib.SmallJoins
namespace Go.Proofs.Ytlkbjfjjfifbmaa
open Go.ChangeShapes Go.WideShapes Go.RowKit Go.Joins Go.Deep

section
variable {H : Type} {enc : TypeId × Value → H} {P : Program} {w : World} {base : Nat} {spare : Nat → Bool} {held : Bool} {t : TypeId} {f0 f1 : Field} {q0 q1 : IntKind}
theorem open_two {r : Reach} {b0 : Nat} {v : Value} {d : DataW H} {p : List MemPlace} (hs : P.underlying t = some (.struct #[f0, f1])) (hone : oneCellFields P #[f0, f1] = true) (hC : P.cellsOf t = 2) (h0 : P.underlying f0.type = some (.int q0)) (h1 : P.underlying f1.type = some (.int q1))
    (hv : Value.okWide P w r b0 t v) (h : DataW.Trod enc P w base spare held t v d p) :
    ∃ a b : Int, v = .agg #[.int q0 a, .int q1 b] ∧ d = .agg [.lit (.int q0 a), .lit (.int q1 b)] ∧ p = [] ∧ (Lit.int q0 a).wf = true ∧ (Lit.int q1 b).wf = true := by
  obtain ⟨c0, c1, y0, y1, m, rfl, rfl, rfl, hy0, hy1⟩ := open_agg2 hs hone hC hv h
  obtain ⟨a, e0, rfl, wa⟩ := DataW.trod_int h0 hy0
  obtain ⟨b, e1, rfl, wb⟩ := DataW.trod_int h1 hy1
  simp at e0 e1
  subst e0 e1
  exact ⟨a, b, rfl, rfl, rfl, wa, wb⟩
theorem shut_two {a b : Int} (hs : P.underlying t = some (.struct #[f0, f1])) (hone : oneCellFields P #[f0, f1] = true) (hC : P.cellsOf t = 2) (h0 : P.underlying f0.type = some (.int q0)) (h1 : P.underlying f1.type = some (.int q1))
    (wa : (Lit.int q0 a).wf = true) (wb : (Lit.int q1 b).wf = true) : DataW.Trod enc P w base spare held t (.agg #[.int q0 a, .int q1 b]) (.agg [.lit (.int q0 a), .lit (.int q1 b)]) [] :=
  shut_agg2 (y0 := (.lit (.int q0 a), [])) (y1 := (.lit (.int q1 b), [])) hs hone hC ⟨1, by simp [DataW.trod, h0, wa]⟩ ⟨1, by simp [DataW.trod, h1, wb]⟩
end
end Go.Proofs.Ytlkbjfjjfifbmaa
