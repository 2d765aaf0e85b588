/-
  No cell of these rows narrows 'for every input' (looked for: loops, veiled, ifaces, maps, wideKeys, modest, calm, conditions, laid).
  DERIVED. THE GIVEN ROWS OF THIS SEAT. 7 by the template 'for every input the law returns true; each argument reads behind the call as it read before'; 0 by the template 'total and deterministic' (their statements: YtgkeljioefiljaaTotals.lean).
  GIVEN WITH THE SEED: the statements are not yours to turn. If you find one false, say at which input.
  Laid BY PROGRAM, IN A SANDBOX (cutbox-rows.mjs): the forced cells as the released guide's own fill.sh prints them over the translation 951b967544e75469… (all of the seat's roots in one cut). By AI agents, Wed Nov 11 2026. No macro, syntax, notation, axiom, sorry.
-/
import Derived.Test.YtgkeljioefiljaaChecked
import GoSem.Claim
import GoSem.ClaimJoined
import GoSem.ClaimMapViews
import Derived.JoinedTies
import Derived.KernelRfl
namespace Go.Proofs.Ytgkeljioefiljaa
/- THE CELL 'sum', in the pinned program and in every row, IS THE sha256 OF THE DUMP (.gsa) THAT YtgkeljioefiljaaProg.lean LOADS. Nothing in Lean hashes anything: it is a label: what it is worth is what the hold of that sum in a sandbox is worth. -/
noncomputable def Try.pinned : Pinned := { name := "ytgkeljioefiljaa", sum := "951b967544e754690b8f8fb88f19368cb5f5c404918824292dc7c6cd54acab45", checked := Try.checked }
namespace Rows
def none {H : Type} : Left H := { results := [], args := [] }

/-- 'diapauselaw04.PaceRuns': WHATEVER THE INPUT: true; the input reads as it did. -/
def paceRunsSpec : ChangeSpec := { name := "paceRuns", fn := fun _ => fun
  | [d1, d2, d3, d4] => { results := [.lit (.bool true)], args := [d1, d2, d3, d4] }
  | _ => none }
def paceRunsRow : OpenClaim := { program := "ytgkeljioefiljaa", sum := "951b967544e754690b8f8fb88f19368cb5f5c404918824292dc7c6cd54acab45", func := "diapause/diapauselaw04.PaceRuns", spec := "paceRuns", apart := false }
def PaceRunsSaid : Prop := paceRunsRow.holds Try.pinned (OpenSpec.ofChange paceRunsSpec)

/-- ITS FALSE NEIGHBOUR: 'it returns false'. Refute it at one input. -/
def paceRunsWrong : ChangeSpec := { name := "paceRuns", fn := fun _ => fun
  | [d1, d2, d3, d4] => { results := [.lit (.bool false)], args := [d1, d2, d3, d4] }
  | _ => none }
def PaceRunsWrongFalsely : Prop := paceRunsRow.holds Try.pinned (OpenSpec.ofChange paceRunsWrong)

/-- 'diapauselaw04.PaceTick': WHATEVER THE INPUT: true; the input reads as it did. -/
def paceTickSpec : ChangeSpec := { name := "paceTick", fn := fun _ => fun
  | [d1, d2] => { results := [.lit (.bool true)], args := [d1, d2] }
  | _ => none }
def paceTickRow : OpenClaim := { program := "ytgkeljioefiljaa", sum := "951b967544e754690b8f8fb88f19368cb5f5c404918824292dc7c6cd54acab45", func := "diapause/diapauselaw04.PaceTick", spec := "paceTick", apart := false }
def PaceTickSaid : Prop := paceTickRow.holds Try.pinned (OpenSpec.ofChange paceTickSpec)

/-- ITS FALSE NEIGHBOUR: 'it returns false'. Refute it at one input. -/
def paceTickWrong : ChangeSpec := { name := "paceTick", fn := fun _ => fun
  | [d1, d2] => { results := [.lit (.bool false)], args := [d1, d2] }
  | _ => none }
def PaceTickWrongFalsely : Prop := paceTickRow.holds Try.pinned (OpenSpec.ofChange paceTickWrong)

/-- 'diapauselaw04.PaceParts': WHATEVER THE INPUT: true; the input reads as it did. -/
def pacePartsSpec : ChangeSpec := { name := "paceParts", fn := fun _ => fun
  | [d1, d2, d3] => { results := [.lit (.bool true)], args := [d1, d2, d3] }
  | _ => none }
def pacePartsRow : OpenClaim := { program := "ytgkeljioefiljaa", sum := "951b967544e754690b8f8fb88f19368cb5f5c404918824292dc7c6cd54acab45", func := "diapause/diapauselaw04.PaceParts", spec := "paceParts", apart := false }
def PacePartsSaid : Prop := pacePartsRow.holds Try.pinned (OpenSpec.ofChange pacePartsSpec)

/-- ITS FALSE NEIGHBOUR: 'it returns false'. Refute it at one input. -/
def pacePartsWrong : ChangeSpec := { name := "paceParts", fn := fun _ => fun
  | [d1, d2, d3] => { results := [.lit (.bool false)], args := [d1, d2, d3] }
  | _ => none }
def PacePartsWrongFalsely : Prop := pacePartsRow.holds Try.pinned (OpenSpec.ofChange pacePartsWrong)

/-- 'diapauselaw04.PaceExact': WHATEVER THE INPUT: true; the input reads as it did. -/
def paceExactSpec : ChangeSpec := { name := "paceExact", fn := fun _ => fun
  | [d1, d2] => { results := [.lit (.bool true)], args := [d1, d2] }
  | _ => none }
def paceExactRow : OpenClaim := { program := "ytgkeljioefiljaa", sum := "951b967544e754690b8f8fb88f19368cb5f5c404918824292dc7c6cd54acab45", func := "diapause/diapauselaw04.PaceExact", spec := "paceExact", apart := false }
def PaceExactSaid : Prop := paceExactRow.holds Try.pinned (OpenSpec.ofChange paceExactSpec)

/-- ITS FALSE NEIGHBOUR: 'it returns false'. Refute it at one input. -/
def paceExactWrong : ChangeSpec := { name := "paceExact", fn := fun _ => fun
  | [d1, d2] => { results := [.lit (.bool false)], args := [d1, d2] }
  | _ => none }
def PaceExactWrongFalsely : Prop := paceExactRow.holds Try.pinned (OpenSpec.ofChange paceExactWrong)

/-- 'diapauselaw04.PaceFair': WHATEVER THE INPUT: true; the input reads as it did. -/
def paceFairSpec : ChangeSpec := { name := "paceFair", fn := fun _ => fun
  | [d1, d2, d3] => { results := [.lit (.bool true)], args := [d1, d2, d3] }
  | _ => none }
def paceFairRow : OpenClaim := { program := "ytgkeljioefiljaa", sum := "951b967544e754690b8f8fb88f19368cb5f5c404918824292dc7c6cd54acab45", func := "diapause/diapauselaw04.PaceFair", spec := "paceFair", apart := false }
def PaceFairSaid : Prop := paceFairRow.holds Try.pinned (OpenSpec.ofChange paceFairSpec)

/-- ITS FALSE NEIGHBOUR: 'it returns false'. Refute it at one input. -/
def paceFairWrong : ChangeSpec := { name := "paceFair", fn := fun _ => fun
  | [d1, d2, d3] => { results := [.lit (.bool false)], args := [d1, d2, d3] }
  | _ => none }
def PaceFairWrongFalsely : Prop := paceFairRow.holds Try.pinned (OpenSpec.ofChange paceFairWrong)

/-- 'diapauselaw04.PaceOrder': WHATEVER THE INPUT: true; the input reads as it did. -/
def paceOrderSpec : ChangeSpec := { name := "paceOrder", fn := fun _ => fun
  | [d1, d2, d3] => { results := [.lit (.bool true)], args := [d1, d2, d3] }
  | _ => none }
def paceOrderRow : OpenClaim := { program := "ytgkeljioefiljaa", sum := "951b967544e754690b8f8fb88f19368cb5f5c404918824292dc7c6cd54acab45", func := "diapause/diapauselaw04.PaceOrder", spec := "paceOrder", apart := false }
def PaceOrderSaid : Prop := paceOrderRow.holds Try.pinned (OpenSpec.ofChange paceOrderSpec)

/-- ITS FALSE NEIGHBOUR: 'it returns false'. Refute it at one input. -/
def paceOrderWrong : ChangeSpec := { name := "paceOrder", fn := fun _ => fun
  | [d1, d2, d3] => { results := [.lit (.bool false)], args := [d1, d2, d3] }
  | _ => none }
def PaceOrderWrongFalsely : Prop := paceOrderRow.holds Try.pinned (OpenSpec.ofChange paceOrderWrong)

/-- 'diapauselaw04.PaceWeighs': WHATEVER THE INPUT: true; the input reads as it did. -/
def paceWeighsSpec : ChangeSpec := { name := "paceWeighs", fn := fun _ => fun
  | [d1, d2, d3] => { results := [.lit (.bool true)], args := [d1, d2, d3] }
  | _ => none }
def paceWeighsRow : OpenClaim := { program := "ytgkeljioefiljaa", sum := "951b967544e754690b8f8fb88f19368cb5f5c404918824292dc7c6cd54acab45", func := "diapause/diapauselaw04.PaceWeighs", spec := "paceWeighs", apart := false }
def PaceWeighsSaid : Prop := paceWeighsRow.holds Try.pinned (OpenSpec.ofChange paceWeighsSpec)

/-- ITS FALSE NEIGHBOUR: 'it returns false'. Refute it at one input. -/
def paceWeighsWrong : ChangeSpec := { name := "paceWeighs", fn := fun _ => fun
  | [d1, d2, d3] => { results := [.lit (.bool false)], args := [d1, d2, d3] }
  | _ => none }
def PaceWeighsWrongFalsely : Prop := paceWeighsRow.holds Try.pinned (OpenSpec.ofChange paceWeighsWrong)

/- THE SECOND FORM. 'bulk': how many values and letters a reading holds, each counted each time it is reached (what is shared counts as often as it is met; a slice's spare places count too). A statement '..UptoSaid' is the law's where the arguments, and the package variables that the reading takes, are together of bulk at most 1048576: NARROWER than '..Said'. Prove '..Said' where nothing that the law and all that it calls make is longer than what came in: it says more and counts as full. Else prove '..UptoSaid'. A law counts once. -/
mutual
def uptoBulk {H : Type} : DataW H → Nat
  | .lit (.string bytes) => bytes.length + 1
  | .lit _ => 1
  | .nil => 1
  | .ptr d => uptoBulk d + 1
  | .slice elems spare => uptoBulkAll elems + uptoBulkAll spare + 1
  | .agg parts => uptoBulkAll parts + 1
  | .iface _ d => uptoBulk d + 1
  | .map entries => uptoBulkEntries entries + 1
  | .held _ => 1
def uptoBulkAll {H : Type} : List (DataW H) → Nat
  | [] => 0
  | d :: r => uptoBulk d + uptoBulkAll r
def uptoBulkEntries {H : Type} : List (Lit × DataW H) → Nat
  | [] => 0
  | x :: r => uptoBulkEntry x + uptoBulkEntries r
def uptoBulkEntry {H : Type} : Lit × DataW H → Nat
  | (.string bytes, d) => bytes.length + uptoBulk d + 1
  | (_, d) => uptoBulk d + 1
 end
def uptoSmall : (H : Type) → List (DataW H) → Bool := fun _ ds => decide (uptoBulkAll ds ≤ 1048576)
def OpenSpec.upto (s : _root_.Go.ChangeSpec) : _root_.Go.OpenSpec := { _root_.Go.OpenSpec.ofChange s with cond := some uptoSmall }

/-- 'diapauselaw04.PaceRuns', WHERE WHAT IT READS IS OF BULK AT MOST 1048576: true; the input reads as it did. -/
def paceRunsUptoRow : OpenClaim := { program := "ytgkeljioefiljaa", sum := "951b967544e754690b8f8fb88f19368cb5f5c404918824292dc7c6cd54acab45", func := "diapause/diapauselaw04.PaceRuns", spec := "paceRuns", apart := false, narrowed := true }
def PaceRunsUptoSaid : Prop := paceRunsUptoRow.holds Try.pinned (OpenSpec.upto paceRunsSpec)

/-- 'diapauselaw04.PaceTick', WHERE WHAT IT READS IS OF BULK AT MOST 1048576: true; the input reads as it did. -/
def paceTickUptoRow : OpenClaim := { program := "ytgkeljioefiljaa", sum := "951b967544e754690b8f8fb88f19368cb5f5c404918824292dc7c6cd54acab45", func := "diapause/diapauselaw04.PaceTick", spec := "paceTick", apart := false, narrowed := true }
def PaceTickUptoSaid : Prop := paceTickUptoRow.holds Try.pinned (OpenSpec.upto paceTickSpec)

/-- 'diapauselaw04.PaceParts', WHERE WHAT IT READS IS OF BULK AT MOST 1048576: true; the input reads as it did. -/
def pacePartsUptoRow : OpenClaim := { program := "ytgkeljioefiljaa", sum := "951b967544e754690b8f8fb88f19368cb5f5c404918824292dc7c6cd54acab45", func := "diapause/diapauselaw04.PaceParts", spec := "paceParts", apart := false, narrowed := true }
def PacePartsUptoSaid : Prop := pacePartsUptoRow.holds Try.pinned (OpenSpec.upto pacePartsSpec)

/-- 'diapauselaw04.PaceExact', WHERE WHAT IT READS IS OF BULK AT MOST 1048576: true; the input reads as it did. -/
def paceExactUptoRow : OpenClaim := { program := "ytgkeljioefiljaa", sum := "951b967544e754690b8f8fb88f19368cb5f5c404918824292dc7c6cd54acab45", func := "diapause/diapauselaw04.PaceExact", spec := "paceExact", apart := false, narrowed := true }
def PaceExactUptoSaid : Prop := paceExactUptoRow.holds Try.pinned (OpenSpec.upto paceExactSpec)

/-- 'diapauselaw04.PaceFair', WHERE WHAT IT READS IS OF BULK AT MOST 1048576: true; the input reads as it did. -/
def paceFairUptoRow : OpenClaim := { program := "ytgkeljioefiljaa", sum := "951b967544e754690b8f8fb88f19368cb5f5c404918824292dc7c6cd54acab45", func := "diapause/diapauselaw04.PaceFair", spec := "paceFair", apart := false, narrowed := true }
def PaceFairUptoSaid : Prop := paceFairUptoRow.holds Try.pinned (OpenSpec.upto paceFairSpec)

/-- 'diapauselaw04.PaceOrder', WHERE WHAT IT READS IS OF BULK AT MOST 1048576: true; the input reads as it did. -/
def paceOrderUptoRow : OpenClaim := { program := "ytgkeljioefiljaa", sum := "951b967544e754690b8f8fb88f19368cb5f5c404918824292dc7c6cd54acab45", func := "diapause/diapauselaw04.PaceOrder", spec := "paceOrder", apart := false, narrowed := true }
def PaceOrderUptoSaid : Prop := paceOrderUptoRow.holds Try.pinned (OpenSpec.upto paceOrderSpec)

/-- 'diapauselaw04.PaceWeighs', WHERE WHAT IT READS IS OF BULK AT MOST 1048576: true; the input reads as it did. -/
def paceWeighsUptoRow : OpenClaim := { program := "ytgkeljioefiljaa", sum := "951b967544e754690b8f8fb88f19368cb5f5c404918824292dc7c6cd54acab45", func := "diapause/diapauselaw04.PaceWeighs", spec := "paceWeighs", apart := false, narrowed := true }
def PaceWeighsUptoSaid : Prop := paceWeighsUptoRow.holds Try.pinned (OpenSpec.upto paceWeighsSpec)

end Rows
end Go.Proofs.Ytgkeljioefiljaa
