/-
  No cell of these rows narrows 'for every input' (looked for: loops, veiled, ifaces, maps, wideKeys, modest, calm, conditions, laid).
  DERIVED. THE GIVEN ROWS OF THIS SEAT. 7 by the template 'for every input the law returns true; each argument reads behind the call as it read before'; 0 by the template 'total and deterministic' (their statements: YtnlehhmogdencaaTotals.lean).
  GIVEN WITH THE SEED: the statements are not yours to turn. If you find one false, say at which input.
  Laid BY PROGRAM, IN A SANDBOX (cutbox-rows.mjs): the forced cells as the released guide's own fill.sh prints them over the translation 99bf92db426c15f1… (all of the seat's roots in one cut). By AI agents, Wed Nov 11 2026. No macro, syntax, notation, axiom, sorry.
-/
import Derived.Test.YtnlehhmogdencaaChecked
import GoSem.Claim
import GoSem.ClaimJoined
import GoSem.ClaimMapViews
import Derived.JoinedTies
import Derived.KernelRfl
namespace Go.Proofs.Ytnlehhmogdencaa
/- THE CELL 'sum', in the pinned program and in every row, IS THE sha256 OF THE DUMP (.gsa) THAT YtnlehhmogdencaaProg.lean LOADS. Nothing in Lean hashes anything: it is a label: what it is worth is what the hold of that sum in a sandbox is worth. -/
noncomputable def Try.pinned : Pinned := { name := "ytnlehhmogdencaa", sum := "99bf92db426c15f1d039761cfc568b5cf2420f73b6ec2b90de7f76490487a7fd", checked := Try.checked }
namespace Rows
def none {H : Type} : Left H := { results := [], args := [] }

/-- 'diapauselaw08.BandTells': WHATEVER THE INPUT: true; the input reads as it did. -/
def bandTellsSpec : ChangeSpec := { name := "bandTells", fn := fun _ => fun
  | [d1, d2, d3, d4] => { results := [.lit (.bool true)], args := [d1, d2, d3, d4] }
  | _ => none }
def bandTellsRow : OpenClaim := { program := "ytnlehhmogdencaa", sum := "99bf92db426c15f1d039761cfc568b5cf2420f73b6ec2b90de7f76490487a7fd", func := "diapause/diapauselaw08.BandTells", spec := "bandTells", apart := false }
def BandTellsSaid : Prop := bandTellsRow.holds Try.pinned (OpenSpec.ofChange bandTellsSpec)

/-- ITS FALSE NEIGHBOUR: 'it returns false'. Refute it at one input. -/
def bandTellsWrong : ChangeSpec := { name := "bandTells", fn := fun _ => fun
  | [d1, d2, d3, d4] => { results := [.lit (.bool false)], args := [d1, d2, d3, d4] }
  | _ => none }
def BandTellsWrongFalsely : Prop := bandTellsRow.holds Try.pinned (OpenSpec.ofChange bandTellsWrong)

/-- 'diapauselaw08.BandEnds': WHATEVER THE INPUT: true; the input reads as it did. -/
def bandEndsSpec : ChangeSpec := { name := "bandEnds", fn := fun _ => fun
  | [d1, d2, d3] => { results := [.lit (.bool true)], args := [d1, d2, d3] }
  | _ => none }
def bandEndsRow : OpenClaim := { program := "ytnlehhmogdencaa", sum := "99bf92db426c15f1d039761cfc568b5cf2420f73b6ec2b90de7f76490487a7fd", func := "diapause/diapauselaw08.BandEnds", spec := "bandEnds", apart := false }
def BandEndsSaid : Prop := bandEndsRow.holds Try.pinned (OpenSpec.ofChange bandEndsSpec)

/-- ITS FALSE NEIGHBOUR: 'it returns false'. Refute it at one input. -/
def bandEndsWrong : ChangeSpec := { name := "bandEnds", fn := fun _ => fun
  | [d1, d2, d3] => { results := [.lit (.bool false)], args := [d1, d2, d3] }
  | _ => none }
def BandEndsWrongFalsely : Prop := bandEndsRow.holds Try.pinned (OpenSpec.ofChange bandEndsWrong)

/-- 'diapauselaw08.BandParts': WHATEVER THE INPUT: true; the input reads as it did. -/
def bandPartsSpec : ChangeSpec := { name := "bandParts", fn := fun _ => fun
  | [d1, d2, d3, d4] => { results := [.lit (.bool true)], args := [d1, d2, d3, d4] }
  | _ => none }
def bandPartsRow : OpenClaim := { program := "ytnlehhmogdencaa", sum := "99bf92db426c15f1d039761cfc568b5cf2420f73b6ec2b90de7f76490487a7fd", func := "diapause/diapauselaw08.BandParts", spec := "bandParts", apart := false }
def BandPartsSaid : Prop := bandPartsRow.holds Try.pinned (OpenSpec.ofChange bandPartsSpec)

/-- ITS FALSE NEIGHBOUR: 'it returns false'. Refute it at one input. -/
def bandPartsWrong : ChangeSpec := { name := "bandParts", fn := fun _ => fun
  | [d1, d2, d3, d4] => { results := [.lit (.bool false)], args := [d1, d2, d3, d4] }
  | _ => none }
def BandPartsWrongFalsely : Prop := bandPartsRow.holds Try.pinned (OpenSpec.ofChange bandPartsWrong)

/-- 'diapauselaw08.BandBounds': WHATEVER THE INPUT: true; the input reads as it did. -/
def bandBoundsSpec : ChangeSpec := { name := "bandBounds", fn := fun _ => fun
  | [d1, d2, d3] => { results := [.lit (.bool true)], args := [d1, d2, d3] }
  | _ => none }
def bandBoundsRow : OpenClaim := { program := "ytnlehhmogdencaa", sum := "99bf92db426c15f1d039761cfc568b5cf2420f73b6ec2b90de7f76490487a7fd", func := "diapause/diapauselaw08.BandBounds", spec := "bandBounds", apart := false }
def BandBoundsSaid : Prop := bandBoundsRow.holds Try.pinned (OpenSpec.ofChange bandBoundsSpec)

/-- ITS FALSE NEIGHBOUR: 'it returns false'. Refute it at one input. -/
def bandBoundsWrong : ChangeSpec := { name := "bandBounds", fn := fun _ => fun
  | [d1, d2, d3] => { results := [.lit (.bool false)], args := [d1, d2, d3] }
  | _ => none }
def BandBoundsWrongFalsely : Prop := bandBoundsRow.holds Try.pinned (OpenSpec.ofChange bandBoundsWrong)

/-- 'diapauselaw08.BandAdds': WHATEVER THE INPUT: true; the input reads as it did. -/
def bandAddsSpec : ChangeSpec := { name := "bandAdds", fn := fun _ => fun
  | [d1, d2, d3] => { results := [.lit (.bool true)], args := [d1, d2, d3] }
  | _ => none }
def bandAddsRow : OpenClaim := { program := "ytnlehhmogdencaa", sum := "99bf92db426c15f1d039761cfc568b5cf2420f73b6ec2b90de7f76490487a7fd", func := "diapause/diapauselaw08.BandAdds", spec := "bandAdds", apart := false }
def BandAddsSaid : Prop := bandAddsRow.holds Try.pinned (OpenSpec.ofChange bandAddsSpec)

/-- ITS FALSE NEIGHBOUR: 'it returns false'. Refute it at one input. -/
def bandAddsWrong : ChangeSpec := { name := "bandAdds", fn := fun _ => fun
  | [d1, d2, d3] => { results := [.lit (.bool false)], args := [d1, d2, d3] }
  | _ => none }
def BandAddsWrongFalsely : Prop := bandAddsRow.holds Try.pinned (OpenSpec.ofChange bandAddsWrong)

/-- 'diapauselaw08.BandMore': WHATEVER THE INPUT: true; the input reads as it did. -/
def bandMoreSpec : ChangeSpec := { name := "bandMore", fn := fun _ => fun
  | [d1, d2] => { results := [.lit (.bool true)], args := [d1, d2] }
  | _ => none }
def bandMoreRow : OpenClaim := { program := "ytnlehhmogdencaa", sum := "99bf92db426c15f1d039761cfc568b5cf2420f73b6ec2b90de7f76490487a7fd", func := "diapause/diapauselaw08.BandMore", spec := "bandMore", apart := false }
def BandMoreSaid : Prop := bandMoreRow.holds Try.pinned (OpenSpec.ofChange bandMoreSpec)

/-- ITS FALSE NEIGHBOUR: 'it returns false'. Refute it at one input. -/
def bandMoreWrong : ChangeSpec := { name := "bandMore", fn := fun _ => fun
  | [d1, d2] => { results := [.lit (.bool false)], args := [d1, d2] }
  | _ => none }
def BandMoreWrongFalsely : Prop := bandMoreRow.holds Try.pinned (OpenSpec.ofChange bandMoreWrong)

/-- 'diapauselaw08.BandWhole': WHATEVER THE INPUT: true; the input reads as it did. -/
def bandWholeSpec : ChangeSpec := { name := "bandWhole", fn := fun _ => fun
  | [d1, d2, d3] => { results := [.lit (.bool true)], args := [d1, d2, d3] }
  | _ => none }
def bandWholeRow : OpenClaim := { program := "ytnlehhmogdencaa", sum := "99bf92db426c15f1d039761cfc568b5cf2420f73b6ec2b90de7f76490487a7fd", func := "diapause/diapauselaw08.BandWhole", spec := "bandWhole", apart := false }
def BandWholeSaid : Prop := bandWholeRow.holds Try.pinned (OpenSpec.ofChange bandWholeSpec)

/-- ITS FALSE NEIGHBOUR: 'it returns false'. Refute it at one input. -/
def bandWholeWrong : ChangeSpec := { name := "bandWhole", fn := fun _ => fun
  | [d1, d2, d3] => { results := [.lit (.bool false)], args := [d1, d2, d3] }
  | _ => none }
def BandWholeWrongFalsely : Prop := bandWholeRow.holds Try.pinned (OpenSpec.ofChange bandWholeWrong)

/- THE SECOND FORM. 'bulk': how many values and letters a reading holds, each counted each time it is reached (what is shared counts as often as it is met; a slice's spare places count too). A statement '..UptoSaid' is the law's where the arguments, and the package variables that the reading takes, are together of bulk at most 1048576: NARROWER than '..Said'. Prove '..Said' where nothing that the law and all that it calls make is longer than what came in: it says more and counts as full. Else prove '..UptoSaid'. A law counts once. -/
mutual
def uptoBulk {H : Type} : DataW H → Nat
  | .lit (.string bytes) => bytes.length + 1
  | .lit _ => 1
  | .nil => 1
  | .ptr d => uptoBulk d + 1
  | .slice elems spare => uptoBulkAll elems + uptoBulkAll spare + 1
  | .agg parts => uptoBulkAll parts + 1
  | .iface _ d => uptoBulk d + 1
  | .map entries => uptoBulkEntries entries + 1
  | .held _ => 1
def uptoBulkAll {H : Type} : List (DataW H) → Nat
  | [] => 0
  | d :: r => uptoBulk d + uptoBulkAll r
def uptoBulkEntries {H : Type} : List (Lit × DataW H) → Nat
  | [] => 0
  | x :: r => uptoBulkEntry x + uptoBulkEntries r
def uptoBulkEntry {H : Type} : Lit × DataW H → Nat
  | (.string bytes, d) => bytes.length + uptoBulk d + 1
  | (_, d) => uptoBulk d + 1
 end
def uptoSmall : (H : Type) → List (DataW H) → Bool := fun _ ds => decide (uptoBulkAll ds ≤ 1048576)
def OpenSpec.upto (s : _root_.Go.ChangeSpec) : _root_.Go.OpenSpec := { _root_.Go.OpenSpec.ofChange s with cond := some uptoSmall }

/-- 'diapauselaw08.BandTells', WHERE WHAT IT READS IS OF BULK AT MOST 1048576: true; the input reads as it did. -/
def bandTellsUptoRow : OpenClaim := { program := "ytnlehhmogdencaa", sum := "99bf92db426c15f1d039761cfc568b5cf2420f73b6ec2b90de7f76490487a7fd", func := "diapause/diapauselaw08.BandTells", spec := "bandTells", apart := false, narrowed := true }
def BandTellsUptoSaid : Prop := bandTellsUptoRow.holds Try.pinned (OpenSpec.upto bandTellsSpec)

/-- 'diapauselaw08.BandEnds', WHERE WHAT IT READS IS OF BULK AT MOST 1048576: true; the input reads as it did. -/
def bandEndsUptoRow : OpenClaim := { program := "ytnlehhmogdencaa", sum := "99bf92db426c15f1d039761cfc568b5cf2420f73b6ec2b90de7f76490487a7fd", func := "diapause/diapauselaw08.BandEnds", spec := "bandEnds", apart := false, narrowed := true }
def BandEndsUptoSaid : Prop := bandEndsUptoRow.holds Try.pinned (OpenSpec.upto bandEndsSpec)

/-- 'diapauselaw08.BandParts', WHERE WHAT IT READS IS OF BULK AT MOST 1048576: true; the input reads as it did. -/
def bandPartsUptoRow : OpenClaim := { program := "ytnlehhmogdencaa", sum := "99bf92db426c15f1d039761cfc568b5cf2420f73b6ec2b90de7f76490487a7fd", func := "diapause/diapauselaw08.BandParts", spec := "bandParts", apart := false, narrowed := true }
def BandPartsUptoSaid : Prop := bandPartsUptoRow.holds Try.pinned (OpenSpec.upto bandPartsSpec)

/-- 'diapauselaw08.BandBounds', WHERE WHAT IT READS IS OF BULK AT MOST 1048576: true; the input reads as it did. -/
def bandBoundsUptoRow : OpenClaim := { program := "ytnlehhmogdencaa", sum := "99bf92db426c15f1d039761cfc568b5cf2420f73b6ec2b90de7f76490487a7fd", func := "diapause/diapauselaw08.BandBounds", spec := "bandBounds", apart := false, narrowed := true }
def BandBoundsUptoSaid : Prop := bandBoundsUptoRow.holds Try.pinned (OpenSpec.upto bandBoundsSpec)

/-- 'diapauselaw08.BandAdds', WHERE WHAT IT READS IS OF BULK AT MOST 1048576: true; the input reads as it did. -/
def bandAddsUptoRow : OpenClaim := { program := "ytnlehhmogdencaa", sum := "99bf92db426c15f1d039761cfc568b5cf2420f73b6ec2b90de7f76490487a7fd", func := "diapause/diapauselaw08.BandAdds", spec := "bandAdds", apart := false, narrowed := true }
def BandAddsUptoSaid : Prop := bandAddsUptoRow.holds Try.pinned (OpenSpec.upto bandAddsSpec)

/-- 'diapauselaw08.BandMore', WHERE WHAT IT READS IS OF BULK AT MOST 1048576: true; the input reads as it did. -/
def bandMoreUptoRow : OpenClaim := { program := "ytnlehhmogdencaa", sum := "99bf92db426c15f1d039761cfc568b5cf2420f73b6ec2b90de7f76490487a7fd", func := "diapause/diapauselaw08.BandMore", spec := "bandMore", apart := false, narrowed := true }
def BandMoreUptoSaid : Prop := bandMoreUptoRow.holds Try.pinned (OpenSpec.upto bandMoreSpec)

/-- 'diapauselaw08.BandWhole', WHERE WHAT IT READS IS OF BULK AT MOST 1048576: true; the input reads as it did. -/
def bandWholeUptoRow : OpenClaim := { program := "ytnlehhmogdencaa", sum := "99bf92db426c15f1d039761cfc568b5cf2420f73b6ec2b90de7f76490487a7fd", func := "diapause/diapauselaw08.BandWhole", spec := "bandWhole", apart := false, narrowed := true }
def BandWholeUptoSaid : Prop := bandWholeUptoRow.holds Try.pinned (OpenSpec.upto bandWholeSpec)

end Rows
end Go.Proofs.Ytnlehhmogdencaa
