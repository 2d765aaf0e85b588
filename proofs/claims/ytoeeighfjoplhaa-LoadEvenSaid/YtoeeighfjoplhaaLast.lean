/-
  A region that draws, whose last operation waits for all others; calls as steps of such a region. Nothing of a program is named here.
-/
import Derived.Test.YtoeeighfjoplhaaTail
import Derived.Deep.RegionHeldLaw
namespace Go.Proofs.Ytoeeighfjoplhaa
open Go.RowKit

section
variable {P : Program} {Q : Exit → Act → World → Prop} {l : List Oper} {o : Oper}
theorem then_of {a : Act} {w : World} (h : wpList P (l ++ [o]).toArray Q [o] a w) : Then P Q l o .normal a w := by
  show wpOp P (l ++ [o]).toArray Q l.length (Q .normal) a w
  unfold wpOp
  rw [op_last]
  exact h
/-- A region that draws, whose last operation waits for all others: the others in whatever order, then the last one. -/
theorem region_last {id : Nat} {a : Act} {w : World} {full : List Oper} (n : Nat) (hn : full.drop n = [o]) (hm : P.follows .mixedOrders = true) (hT : lastB (full.take n) o = true)
    (h : wpAny P .any (full.take n).toArray (Then P Q (full.take n) o) (full.take n).length (Array.replicate (full.take n).length false) a w.drew) : (Code.region id full.toArray true).wp P Q a w := by
  have e : full = full.take n ++ [o] := by rw [← hn, List.take_append_drop]
  generalize full.take n = l at *
  subst e
  have hL := last_of hT
  refine wp_region_any hm ?_
  have h3 := hL.any _ _ _ _ (by simp) h
  have e2 : (Array.replicate l.length false).push false = Array.replicate (l ++ [o]).toArray.size false := by simp [Array.replicate_succ]
  rw [e2] at h3
  simpa using h3
theorem step_callg {ops : Array Oper} {a : Act} {w : World} {K : Act → World → Prop} {E : Prop} {f : FuncId} {args : Array Value} {R : Value → World → Prop} (hw : Region.wanted o (yielded ops a.tmps) = true)
    (hr : (execOp a.eval o).run P w = .ok (.enter f args) w) (hc : Calls P f args w fun e w' => ∃ v, e = .returned v ∧ R v w') (h : ∀ v w', R v w' → K (a.put o.dst v) w') : if Region.wanted o (yielded ops a.tmps) = true then Oper.wp P o a w K Q else E := by
  rw [if_pos hw]
  unfold Oper.wp
  rw [hr]
  simp only [Oper.upon]
  refine Calls.mono hc fun e w' ⟨v, he, hR⟩ => ?_
  subst he
  exact h v w' hR
theorem step_callv {ops : Array Oper} {a : Act} {w : World} {K : Act → World → Prop} {E : Prop} {f : FuncId} {args : Array Value} {v : Value} {R : World → Prop} (hw : Region.wanted o (yielded ops a.tmps) = true)
    (hr : (execOp a.eval o).run P w = .ok (.enter f args) w) (hc : Calls P f args w fun e w' => e = .returned v ∧ R w') (h : ∀ w', R w' → K (a.put o.dst v) w') : if Region.wanted o (yielded ops a.tmps) = true then Oper.wp P o a w K Q else E := by
  rw [if_pos hw]
  unfold Oper.wp
  rw [hr]
  simp only [Oper.upon]
  refine Calls.mono hc fun e w' ⟨he, hR⟩ => ?_
  subst he
  exact h w' hR
end
end Go.Proofs.Ytoeeighfjoplhaa
