/-
  A struct of three ints that comes in by value: opened and shut. (By the library's laws on structs of three cells.)
-/
import Derived.Test.YtnlehhmogdencaaWords
import Derived.Lib.SmallJoins
namespace Go.Proofs.Ytnlehhmogdencaa
open Go.ChangeShapes Go.WideShapes Go.RowKit Go.Joins Go.Deep

section
variable {H : Type} {enc : TypeId × Value → H} {P : Program} {w : World} {base : Nat} {spare : Nat → Bool} {held : Bool} {t : TypeId} {f0 f1 f2 : Field} {q0 q1 q2 : IntKind}
theorem open_three {r : Reach} {b0 : Nat} {v : Value} {d : DataW H} {p : List MemPlace} (hs : P.underlying t = some (.struct #[f0, f1, f2])) (hone : oneCellFields P #[f0, f1, f2] = true) (hC : P.cellsOf t = 3) (h0 : P.underlying f0.type = some (.int q0)) (h1 : P.underlying f1.type = some (.int q1)) (h2 : P.underlying f2.type = some (.int q2))
    (hv : Value.okWide P w r b0 t v) (h : DataW.Trod enc P w base spare held t v d p) :
    ∃ a b c : Int, v = .agg #[.int q0 a, .int q1 b, .int q2 c] ∧ d = .agg [.lit (.int q0 a), .lit (.int q1 b), .lit (.int q2 c)] ∧ p = [] ∧ (Lit.int q0 a).wf = true ∧ (Lit.int q1 b).wf = true ∧ (Lit.int q2 c).wf = true := by
  obtain ⟨c0, c1, c2, y0, y1, y2, m, rfl, rfl, rfl, hy0, hy1, hy2⟩ := open_agg3 hs hone hC hv h
  obtain ⟨a, e0, rfl, wa⟩ := DataW.trod_int h0 hy0
  obtain ⟨b, e1, rfl, wb⟩ := DataW.trod_int h1 hy1
  obtain ⟨c, e2, rfl, wc⟩ := DataW.trod_int h2 hy2
  simp at e0 e1 e2
  subst e0 e1 e2
  exact ⟨a, b, c, rfl, rfl, rfl, wa, wb, wc⟩
theorem shut_three {a b c : Int} (hs : P.underlying t = some (.struct #[f0, f1, f2])) (hone : oneCellFields P #[f0, f1, f2] = true) (hC : P.cellsOf t = 3) (h0 : P.underlying f0.type = some (.int q0)) (h1 : P.underlying f1.type = some (.int q1)) (h2 : P.underlying f2.type = some (.int q2))
    (wa : (Lit.int q0 a).wf = true) (wb : (Lit.int q1 b).wf = true) (wc : (Lit.int q2 c).wf = true) : DataW.Trod enc P w base spare held t (.agg #[.int q0 a, .int q1 b, .int q2 c]) (.agg [.lit (.int q0 a), .lit (.int q1 b), .lit (.int q2 c)]) [] :=
  shut_agg3 (y0 := (.lit (.int q0 a), [])) (y1 := (.lit (.int q1 b), [])) (y2 := (.lit (.int q2 c), [])) hs hone hC ⟨1, by simp [DataW.trod, h0, wa]⟩ ⟨1, by simp [DataW.trod, h1, wb]⟩ ⟨1, by simp [DataW.trod, h2, wc]⟩
end
end Go.Proofs.Ytnlehhmogdencaa
