/-
  No cell of these rows narrows 'for every input' (looked for: loops, veiled, ifaces, maps, wideKeys, modest, calm, conditions, laid).
  DERIVED. THE GIVEN ROWS OF THIS SEAT. 6 by the template 'for every input the law returns true; each argument reads behind the call as it read before'; 0 by the template 'total and deterministic' (their statements: YtklkjgdhfanlcaaTotals.lean).
  GIVEN WITH THE SEED: the statements are not yours to turn. If you find one false, say at which input.
  Laid BY PROGRAM, IN A SANDBOX (cutbox-rows.mjs): the forced cells as the released guide's own fill.sh prints them over the translation 38c90a52ac08cc0d… (all of the seat's roots in one cut). By AI agents, Wed Nov 11 2026. No macro, syntax, notation, axiom, sorry.
-/
import Derived.Test.YtklkjgdhfanlcaaChecked
import GoSem.Claim
import GoSem.ClaimJoined
import GoSem.ClaimMapViews
import Derived.JoinedTies
import Derived.KernelRfl
namespace Go.Proofs.Ytklkjgdhfanlcaa
/- THE CELL 'sum', in the pinned program and in every row, IS THE sha256 OF THE DUMP (.gsa) THAT YtklkjgdhfanlcaaProg.lean LOADS. Nothing in Lean hashes anything: it is a label: what it is worth is what the hold of that sum in a sandbox is worth. -/
noncomputable def Try.pinned : Pinned := { name := "ytklkjgdhfanlcaa", sum := "38c90a52ac08cc0d40cdd34451c0126dc8141e1909914ef72b0ca059f71ea6b8", checked := Try.checked }
namespace Rows
def none {H : Type} : Left H := { results := [], args := [] }

/-- 'diapauselaw05.MomentPlays': WHATEVER THE INPUT: true; the input reads as it did. -/
def momentPlaysSpec : ChangeSpec := { name := "momentPlays", fn := fun _ => fun
  | [d1, d2, d3] => { results := [.lit (.bool true)], args := [d1, d2, d3] }
  | _ => none }
def momentPlaysRow : OpenClaim := { program := "ytklkjgdhfanlcaa", sum := "38c90a52ac08cc0d40cdd34451c0126dc8141e1909914ef72b0ca059f71ea6b8", func := "diapause/diapauselaw05.MomentPlays", spec := "momentPlays", apart := false }
def MomentPlaysSaid : Prop := momentPlaysRow.holds Try.pinned (OpenSpec.ofChange momentPlaysSpec)

/-- ITS FALSE NEIGHBOUR: 'it returns false'. Refute it at one input. -/
def momentPlaysWrong : ChangeSpec := { name := "momentPlays", fn := fun _ => fun
  | [d1, d2, d3] => { results := [.lit (.bool false)], args := [d1, d2, d3] }
  | _ => none }
def MomentPlaysWrongFalsely : Prop := momentPlaysRow.holds Try.pinned (OpenSpec.ofChange momentPlaysWrong)

/-- 'diapauselaw05.MomentShifts': WHATEVER THE INPUT: true; the input reads as it did. -/
def momentShiftsSpec : ChangeSpec := { name := "momentShifts", fn := fun _ => fun
  | [d1, d2, d3, d4] => { results := [.lit (.bool true)], args := [d1, d2, d3, d4] }
  | _ => none }
def momentShiftsRow : OpenClaim := { program := "ytklkjgdhfanlcaa", sum := "38c90a52ac08cc0d40cdd34451c0126dc8141e1909914ef72b0ca059f71ea6b8", func := "diapause/diapauselaw05.MomentShifts", spec := "momentShifts", apart := false }
def MomentShiftsSaid : Prop := momentShiftsRow.holds Try.pinned (OpenSpec.ofChange momentShiftsSpec)

/-- ITS FALSE NEIGHBOUR: 'it returns false'. Refute it at one input. -/
def momentShiftsWrong : ChangeSpec := { name := "momentShifts", fn := fun _ => fun
  | [d1, d2, d3, d4] => { results := [.lit (.bool false)], args := [d1, d2, d3, d4] }
  | _ => none }
def MomentShiftsWrongFalsely : Prop := momentShiftsRow.holds Try.pinned (OpenSpec.ofChange momentShiftsWrong)

/-- 'diapauselaw05.MomentJoins': WHATEVER THE INPUT: true; the input reads as it did. -/
def momentJoinsSpec : ChangeSpec := { name := "momentJoins", fn := fun _ => fun
  | [d1, d2, d3] => { results := [.lit (.bool true)], args := [d1, d2, d3] }
  | _ => none }
def momentJoinsRow : OpenClaim := { program := "ytklkjgdhfanlcaa", sum := "38c90a52ac08cc0d40cdd34451c0126dc8141e1909914ef72b0ca059f71ea6b8", func := "diapause/diapauselaw05.MomentJoins", spec := "momentJoins", apart := false }
def MomentJoinsSaid : Prop := momentJoinsRow.holds Try.pinned (OpenSpec.ofChange momentJoinsSpec)

/-- ITS FALSE NEIGHBOUR: 'it returns false'. Refute it at one input. -/
def momentJoinsWrong : ChangeSpec := { name := "momentJoins", fn := fun _ => fun
  | [d1, d2, d3] => { results := [.lit (.bool false)], args := [d1, d2, d3] }
  | _ => none }
def MomentJoinsWrongFalsely : Prop := momentJoinsRow.holds Try.pinned (OpenSpec.ofChange momentJoinsWrong)

/-- 'diapauselaw05.MomentBack': WHATEVER THE INPUT: true; the input reads as it did. -/
def momentBackSpec : ChangeSpec := { name := "momentBack", fn := fun _ => fun
  | [d1, d2, d3] => { results := [.lit (.bool true)], args := [d1, d2, d3] }
  | _ => none }
def momentBackRow : OpenClaim := { program := "ytklkjgdhfanlcaa", sum := "38c90a52ac08cc0d40cdd34451c0126dc8141e1909914ef72b0ca059f71ea6b8", func := "diapause/diapauselaw05.MomentBack", spec := "momentBack", apart := false }
def MomentBackSaid : Prop := momentBackRow.holds Try.pinned (OpenSpec.ofChange momentBackSpec)

/-- ITS FALSE NEIGHBOUR: 'it returns false'. Refute it at one input. -/
def momentBackWrong : ChangeSpec := { name := "momentBack", fn := fun _ => fun
  | [d1, d2, d3] => { results := [.lit (.bool false)], args := [d1, d2, d3] }
  | _ => none }
def MomentBackWrongFalsely : Prop := momentBackRow.holds Try.pinned (OpenSpec.ofChange momentBackWrong)

/-- 'diapauselaw05.MomentMeans': WHATEVER THE INPUT: true; the input reads as it did. -/
def momentMeansSpec : ChangeSpec := { name := "momentMeans", fn := fun _ => fun
  | [d1, d2] => { results := [.lit (.bool true)], args := [d1, d2] }
  | _ => none }
def momentMeansRow : OpenClaim := { program := "ytklkjgdhfanlcaa", sum := "38c90a52ac08cc0d40cdd34451c0126dc8141e1909914ef72b0ca059f71ea6b8", func := "diapause/diapauselaw05.MomentMeans", spec := "momentMeans", apart := false }
def MomentMeansSaid : Prop := momentMeansRow.holds Try.pinned (OpenSpec.ofChange momentMeansSpec)

/-- ITS FALSE NEIGHBOUR: 'it returns false'. Refute it at one input. -/
def momentMeansWrong : ChangeSpec := { name := "momentMeans", fn := fun _ => fun
  | [d1, d2] => { results := [.lit (.bool false)], args := [d1, d2] }
  | _ => none }
def MomentMeansWrongFalsely : Prop := momentMeansRow.holds Try.pinned (OpenSpec.ofChange momentMeansWrong)

/-- 'diapauselaw05.MomentHeavy': WHATEVER THE INPUT: true; the input reads as it did. -/
def momentHeavySpec : ChangeSpec := { name := "momentHeavy", fn := fun _ => fun
  | [d1, d2, d3] => { results := [.lit (.bool true)], args := [d1, d2, d3] }
  | _ => none }
def momentHeavyRow : OpenClaim := { program := "ytklkjgdhfanlcaa", sum := "38c90a52ac08cc0d40cdd34451c0126dc8141e1909914ef72b0ca059f71ea6b8", func := "diapause/diapauselaw05.MomentHeavy", spec := "momentHeavy", apart := false }
def MomentHeavySaid : Prop := momentHeavyRow.holds Try.pinned (OpenSpec.ofChange momentHeavySpec)

/-- ITS FALSE NEIGHBOUR: 'it returns false'. Refute it at one input. -/
def momentHeavyWrong : ChangeSpec := { name := "momentHeavy", fn := fun _ => fun
  | [d1, d2, d3] => { results := [.lit (.bool false)], args := [d1, d2, d3] }
  | _ => none }
def MomentHeavyWrongFalsely : Prop := momentHeavyRow.holds Try.pinned (OpenSpec.ofChange momentHeavyWrong)

/- THE SECOND FORM. 'bulk': how many values and letters a reading holds, each counted each time it is reached (what is shared counts as often as it is met; a slice's spare places count too). A statement '..UptoSaid' is the law's where the arguments, and the package variables that the reading takes, are together of bulk at most 1048576: NARROWER than '..Said'. Prove '..Said' where nothing that the law and all that it calls make is longer than what came in: it says more and counts as full. Else prove '..UptoSaid'. A law counts once. -/
mutual
def uptoBulk {H : Type} : DataW H → Nat
  | .lit (.string bytes) => bytes.length + 1
  | .lit _ => 1
  | .nil => 1
  | .ptr d => uptoBulk d + 1
  | .slice elems spare => uptoBulkAll elems + uptoBulkAll spare + 1
  | .agg parts => uptoBulkAll parts + 1
  | .iface _ d => uptoBulk d + 1
  | .map entries => uptoBulkEntries entries + 1
  | .held _ => 1
def uptoBulkAll {H : Type} : List (DataW H) → Nat
  | [] => 0
  | d :: r => uptoBulk d + uptoBulkAll r
def uptoBulkEntries {H : Type} : List (Lit × DataW H) → Nat
  | [] => 0
  | x :: r => uptoBulkEntry x + uptoBulkEntries r
def uptoBulkEntry {H : Type} : Lit × DataW H → Nat
  | (.string bytes, d) => bytes.length + uptoBulk d + 1
  | (_, d) => uptoBulk d + 1
 end
def uptoSmall : (H : Type) → List (DataW H) → Bool := fun _ ds => decide (uptoBulkAll ds ≤ 1048576)
def OpenSpec.upto (s : _root_.Go.ChangeSpec) : _root_.Go.OpenSpec := { _root_.Go.OpenSpec.ofChange s with cond := some uptoSmall }

/-- 'diapauselaw05.MomentPlays', WHERE WHAT IT READS IS OF BULK AT MOST 1048576: true; the input reads as it did. -/
def momentPlaysUptoRow : OpenClaim := { program := "ytklkjgdhfanlcaa", sum := "38c90a52ac08cc0d40cdd34451c0126dc8141e1909914ef72b0ca059f71ea6b8", func := "diapause/diapauselaw05.MomentPlays", spec := "momentPlays", apart := false, narrowed := true }
def MomentPlaysUptoSaid : Prop := momentPlaysUptoRow.holds Try.pinned (OpenSpec.upto momentPlaysSpec)

/-- 'diapauselaw05.MomentShifts', WHERE WHAT IT READS IS OF BULK AT MOST 1048576: true; the input reads as it did. -/
def momentShiftsUptoRow : OpenClaim := { program := "ytklkjgdhfanlcaa", sum := "38c90a52ac08cc0d40cdd34451c0126dc8141e1909914ef72b0ca059f71ea6b8", func := "diapause/diapauselaw05.MomentShifts", spec := "momentShifts", apart := false, narrowed := true }
def MomentShiftsUptoSaid : Prop := momentShiftsUptoRow.holds Try.pinned (OpenSpec.upto momentShiftsSpec)

/-- 'diapauselaw05.MomentJoins', WHERE WHAT IT READS IS OF BULK AT MOST 1048576: true; the input reads as it did. -/
def momentJoinsUptoRow : OpenClaim := { program := "ytklkjgdhfanlcaa", sum := "38c90a52ac08cc0d40cdd34451c0126dc8141e1909914ef72b0ca059f71ea6b8", func := "diapause/diapauselaw05.MomentJoins", spec := "momentJoins", apart := false, narrowed := true }
def MomentJoinsUptoSaid : Prop := momentJoinsUptoRow.holds Try.pinned (OpenSpec.upto momentJoinsSpec)

/-- 'diapauselaw05.MomentBack', WHERE WHAT IT READS IS OF BULK AT MOST 1048576: true; the input reads as it did. -/
def momentBackUptoRow : OpenClaim := { program := "ytklkjgdhfanlcaa", sum := "38c90a52ac08cc0d40cdd34451c0126dc8141e1909914ef72b0ca059f71ea6b8", func := "diapause/diapauselaw05.MomentBack", spec := "momentBack", apart := false, narrowed := true }
def MomentBackUptoSaid : Prop := momentBackUptoRow.holds Try.pinned (OpenSpec.upto momentBackSpec)

/-- 'diapauselaw05.MomentMeans', WHERE WHAT IT READS IS OF BULK AT MOST 1048576: true; the input reads as it did. -/
def momentMeansUptoRow : OpenClaim := { program := "ytklkjgdhfanlcaa", sum := "38c90a52ac08cc0d40cdd34451c0126dc8141e1909914ef72b0ca059f71ea6b8", func := "diapause/diapauselaw05.MomentMeans", spec := "momentMeans", apart := false, narrowed := true }
def MomentMeansUptoSaid : Prop := momentMeansUptoRow.holds Try.pinned (OpenSpec.upto momentMeansSpec)

/-- 'diapauselaw05.MomentHeavy', WHERE WHAT IT READS IS OF BULK AT MOST 1048576: true; the input reads as it did. -/
def momentHeavyUptoRow : OpenClaim := { program := "ytklkjgdhfanlcaa", sum := "38c90a52ac08cc0d40cdd34451c0126dc8141e1909914ef72b0ca059f71ea6b8", func := "diapause/diapauselaw05.MomentHeavy", spec := "momentHeavy", apart := false, narrowed := true }
def MomentHeavyUptoSaid : Prop := momentHeavyUptoRow.holds Try.pinned (OpenSpec.upto momentHeavySpec)

end Rows
end Go.Proofs.Ytklkjgdhfanlcaa
