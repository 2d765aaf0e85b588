/-
  No cell of these rows narrows 'for every input' (looked for: loops, veiled, ifaces, maps, wideKeys, modest, calm, conditions, laid).
  DERIVED. THE GIVEN ROWS OF THIS SEAT. 6 by the template 'for every input the law returns true; each argument reads behind the call as it read before'; 0 by the template 'total and deterministic' (their statements: YtabampeipfbdjaaTotals.lean).
  GIVEN WITH THE SEED: the statements are not yours to turn. If you find one false, say at which input.
  Laid BY PROGRAM, IN A SANDBOX (cutbox-rows.mjs): the forced cells as the released guide's own fill.sh prints them over the translation f1a46262697c3562… (all of the seat's roots in one cut). By AI agents, Wed Nov 11 2026. No macro, syntax, notation, axiom, sorry.
-/
import Derived.Test.YtabampeipfbdjaaChecked
import GoSem.Claim
import GoSem.ClaimJoined
import GoSem.ClaimMapViews
import Derived.JoinedTies
import Derived.KernelRfl
namespace Go.Proofs.Ytabampeipfbdjaa
/- THE CELL 'sum', in the pinned program and in every row, IS THE sha256 OF THE DUMP (.gsa) THAT YtabampeipfbdjaaProg.lean LOADS. Nothing in Lean hashes anything: it is a label: what it is worth is what the hold of that sum in a sandbox is worth. -/
noncomputable def Try.pinned : Pinned := { name := "ytabampeipfbdjaa", sum := "f1a46262697c35625cd5da1c0a5e37c59f7e4a917a0bd26924e4766a23a7cbc6", checked := Try.checked }
namespace Rows
def none {H : Type} : Left H := { results := [], args := [] }

/-- 'diapauselaw12.KinPlays': WHATEVER THE INPUT: true; the input reads as it did. -/
def kinPlaysSpec : ChangeSpec := { name := "kinPlays", fn := fun _ => fun
  | [d1, d2] => { results := [.lit (.bool true)], args := [d1, d2] }
  | _ => none }
def kinPlaysRow : OpenClaim := { program := "ytabampeipfbdjaa", sum := "f1a46262697c35625cd5da1c0a5e37c59f7e4a917a0bd26924e4766a23a7cbc6", func := "diapause/diapauselaw12.KinPlays", spec := "kinPlays", inPlace := ["slices.overlaps[int]"], unfollowed := true, recurses := true, apart := false }
def KinPlaysSaid : Prop := kinPlaysRow.holds Try.pinned (OpenSpec.ofChange kinPlaysSpec)

/-- ITS FALSE NEIGHBOUR: 'it returns false'. Refute it at one input. -/
def kinPlaysWrong : ChangeSpec := { name := "kinPlays", fn := fun _ => fun
  | [d1, d2] => { results := [.lit (.bool false)], args := [d1, d2] }
  | _ => none }
def KinPlaysWrongFalsely : Prop := kinPlaysRow.holds Try.pinned (OpenSpec.ofChange kinPlaysWrong)

/-- 'diapauselaw12.KinStands': WHATEVER THE INPUT: true; the input reads as it did. -/
def kinStandsSpec : ChangeSpec := { name := "kinStands", fn := fun _ => fun
  | [d] => { results := [.lit (.bool true)], args := [d] }
  | _ => none }
def kinStandsRow : OpenClaim := { program := "ytabampeipfbdjaa", sum := "f1a46262697c35625cd5da1c0a5e37c59f7e4a917a0bd26924e4766a23a7cbc6", func := "diapause/diapauselaw12.KinStands", spec := "kinStands", inPlace := ["slices.overlaps[int]"], unfollowed := true, recurses := true, apart := false }
def KinStandsSaid : Prop := kinStandsRow.holds Try.pinned (OpenSpec.ofChange kinStandsSpec)

/-- ITS FALSE NEIGHBOUR: 'it returns false'. Refute it at one input. -/
def kinStandsWrong : ChangeSpec := { name := "kinStands", fn := fun _ => fun
  | [d] => { results := [.lit (.bool false)], args := [d] }
  | _ => none }
def KinStandsWrongFalsely : Prop := kinStandsRow.holds Try.pinned (OpenSpec.ofChange kinStandsWrong)

/-- 'diapauselaw12.KinBelow': WHATEVER THE INPUT: true; the input reads as it did. -/
def kinBelowSpec : ChangeSpec := { name := "kinBelow", fn := fun _ => fun
  | [d1, d2] => { results := [.lit (.bool true)], args := [d1, d2] }
  | _ => none }
def kinBelowRow : OpenClaim := { program := "ytabampeipfbdjaa", sum := "f1a46262697c35625cd5da1c0a5e37c59f7e4a917a0bd26924e4766a23a7cbc6", func := "diapause/diapauselaw12.KinBelow", spec := "kinBelow", inPlace := ["slices.overlaps[int]"], unfollowed := true, recurses := true, apart := false }
def KinBelowSaid : Prop := kinBelowRow.holds Try.pinned (OpenSpec.ofChange kinBelowSpec)

/-- ITS FALSE NEIGHBOUR: 'it returns false'. Refute it at one input. -/
def kinBelowWrong : ChangeSpec := { name := "kinBelow", fn := fun _ => fun
  | [d1, d2] => { results := [.lit (.bool false)], args := [d1, d2] }
  | _ => none }
def KinBelowWrongFalsely : Prop := kinBelowRow.holds Try.pinned (OpenSpec.ofChange kinBelowWrong)

/-- 'diapauselaw12.KinMoves': WHATEVER THE INPUT: true; the input reads as it did. -/
def kinMovesSpec : ChangeSpec := { name := "kinMoves", fn := fun _ => fun
  | [d1, d2, d3] => { results := [.lit (.bool true)], args := [d1, d2, d3] }
  | _ => none }
def kinMovesRow : OpenClaim := { program := "ytabampeipfbdjaa", sum := "f1a46262697c35625cd5da1c0a5e37c59f7e4a917a0bd26924e4766a23a7cbc6", func := "diapause/diapauselaw12.KinMoves", spec := "kinMoves", inPlace := ["slices.overlaps[int]"], unfollowed := true, recurses := true, apart := false }
def KinMovesSaid : Prop := kinMovesRow.holds Try.pinned (OpenSpec.ofChange kinMovesSpec)

/-- ITS FALSE NEIGHBOUR: 'it returns false'. Refute it at one input. -/
def kinMovesWrong : ChangeSpec := { name := "kinMoves", fn := fun _ => fun
  | [d1, d2, d3] => { results := [.lit (.bool false)], args := [d1, d2, d3] }
  | _ => none }
def KinMovesWrongFalsely : Prop := kinMovesRow.holds Try.pinned (OpenSpec.ofChange kinMovesWrong)

/-- 'diapauselaw12.KinCopies': WHATEVER THE INPUT: true; the input reads as it did. -/
def kinCopiesSpec : ChangeSpec := { name := "kinCopies", fn := fun _ => fun
  | [d1, d2] => { results := [.lit (.bool true)], args := [d1, d2] }
  | _ => none }
def kinCopiesRow : OpenClaim := { program := "ytabampeipfbdjaa", sum := "f1a46262697c35625cd5da1c0a5e37c59f7e4a917a0bd26924e4766a23a7cbc6", func := "diapause/diapauselaw12.KinCopies", spec := "kinCopies", inPlace := ["slices.overlaps[int]"], unfollowed := true, recurses := true, apart := false }
def KinCopiesSaid : Prop := kinCopiesRow.holds Try.pinned (OpenSpec.ofChange kinCopiesSpec)

/-- ITS FALSE NEIGHBOUR: 'it returns false'. Refute it at one input. -/
def kinCopiesWrong : ChangeSpec := { name := "kinCopies", fn := fun _ => fun
  | [d1, d2] => { results := [.lit (.bool false)], args := [d1, d2] }
  | _ => none }
def KinCopiesWrongFalsely : Prop := kinCopiesRow.holds Try.pinned (OpenSpec.ofChange kinCopiesWrong)

/-- 'diapauselaw12.KinDeep': WHATEVER THE INPUT: true; the input reads as it did. -/
def kinDeepSpec : ChangeSpec := { name := "kinDeep", fn := fun _ => fun
  | [d1, d2, d3] => { results := [.lit (.bool true)], args := [d1, d2, d3] }
  | _ => none }
def kinDeepRow : OpenClaim := { program := "ytabampeipfbdjaa", sum := "f1a46262697c35625cd5da1c0a5e37c59f7e4a917a0bd26924e4766a23a7cbc6", func := "diapause/diapauselaw12.KinDeep", spec := "kinDeep", inPlace := ["slices.overlaps[int]"], unfollowed := true, recurses := true, apart := false }
def KinDeepSaid : Prop := kinDeepRow.holds Try.pinned (OpenSpec.ofChange kinDeepSpec)

/-- ITS FALSE NEIGHBOUR: 'it returns false'. Refute it at one input. -/
def kinDeepWrong : ChangeSpec := { name := "kinDeep", fn := fun _ => fun
  | [d1, d2, d3] => { results := [.lit (.bool false)], args := [d1, d2, d3] }
  | _ => none }
def KinDeepWrongFalsely : Prop := kinDeepRow.holds Try.pinned (OpenSpec.ofChange kinDeepWrong)

/- THE SECOND FORM. 'bulk': how many values and letters a reading holds, each counted each time it is reached (what is shared counts as often as it is met; a slice's spare places count too). A statement '..UptoSaid' is the law's where the arguments, and the package variables that the reading takes, are together of bulk at most 1048576: NARROWER than '..Said'. Prove '..Said' where nothing that the law and all that it calls make is longer than what came in: it says more and counts as full. Else prove '..UptoSaid'. A law counts once. -/
mutual
def uptoBulk {H : Type} : DataW H → Nat
  | .lit (.string bytes) => bytes.length + 1
  | .lit _ => 1
  | .nil => 1
  | .ptr d => uptoBulk d + 1
  | .slice elems spare => uptoBulkAll elems + uptoBulkAll spare + 1
  | .agg parts => uptoBulkAll parts + 1
  | .iface _ d => uptoBulk d + 1
  | .map entries => uptoBulkEntries entries + 1
  | .held _ => 1
def uptoBulkAll {H : Type} : List (DataW H) → Nat
  | [] => 0
  | d :: r => uptoBulk d + uptoBulkAll r
def uptoBulkEntries {H : Type} : List (Lit × DataW H) → Nat
  | [] => 0
  | x :: r => uptoBulkEntry x + uptoBulkEntries r
def uptoBulkEntry {H : Type} : Lit × DataW H → Nat
  | (.string bytes, d) => bytes.length + uptoBulk d + 1
  | (_, d) => uptoBulk d + 1
 end
def uptoSmall : (H : Type) → List (DataW H) → Bool := fun _ ds => decide (uptoBulkAll ds ≤ 1048576)
def OpenSpec.upto (s : _root_.Go.ChangeSpec) : _root_.Go.OpenSpec := { _root_.Go.OpenSpec.ofChange s with cond := some uptoSmall }

/-- 'diapauselaw12.KinPlays', WHERE WHAT IT READS IS OF BULK AT MOST 1048576: true; the input reads as it did. -/
def kinPlaysUptoRow : OpenClaim := { program := "ytabampeipfbdjaa", sum := "f1a46262697c35625cd5da1c0a5e37c59f7e4a917a0bd26924e4766a23a7cbc6", func := "diapause/diapauselaw12.KinPlays", spec := "kinPlays", inPlace := ["slices.overlaps[int]"], unfollowed := true, recurses := true, apart := false, narrowed := true }
def KinPlaysUptoSaid : Prop := kinPlaysUptoRow.holds Try.pinned (OpenSpec.upto kinPlaysSpec)

/-- 'diapauselaw12.KinStands', WHERE WHAT IT READS IS OF BULK AT MOST 1048576: true; the input reads as it did. -/
def kinStandsUptoRow : OpenClaim := { program := "ytabampeipfbdjaa", sum := "f1a46262697c35625cd5da1c0a5e37c59f7e4a917a0bd26924e4766a23a7cbc6", func := "diapause/diapauselaw12.KinStands", spec := "kinStands", inPlace := ["slices.overlaps[int]"], unfollowed := true, recurses := true, apart := false, narrowed := true }
def KinStandsUptoSaid : Prop := kinStandsUptoRow.holds Try.pinned (OpenSpec.upto kinStandsSpec)

/-- 'diapauselaw12.KinBelow', WHERE WHAT IT READS IS OF BULK AT MOST 1048576: true; the input reads as it did. -/
def kinBelowUptoRow : OpenClaim := { program := "ytabampeipfbdjaa", sum := "f1a46262697c35625cd5da1c0a5e37c59f7e4a917a0bd26924e4766a23a7cbc6", func := "diapause/diapauselaw12.KinBelow", spec := "kinBelow", inPlace := ["slices.overlaps[int]"], unfollowed := true, recurses := true, apart := false, narrowed := true }
def KinBelowUptoSaid : Prop := kinBelowUptoRow.holds Try.pinned (OpenSpec.upto kinBelowSpec)

/-- 'diapauselaw12.KinMoves', WHERE WHAT IT READS IS OF BULK AT MOST 1048576: true; the input reads as it did. -/
def kinMovesUptoRow : OpenClaim := { program := "ytabampeipfbdjaa", sum := "f1a46262697c35625cd5da1c0a5e37c59f7e4a917a0bd26924e4766a23a7cbc6", func := "diapause/diapauselaw12.KinMoves", spec := "kinMoves", inPlace := ["slices.overlaps[int]"], unfollowed := true, recurses := true, apart := false, narrowed := true }
def KinMovesUptoSaid : Prop := kinMovesUptoRow.holds Try.pinned (OpenSpec.upto kinMovesSpec)

/-- 'diapauselaw12.KinCopies', WHERE WHAT IT READS IS OF BULK AT MOST 1048576: true; the input reads as it did. -/
def kinCopiesUptoRow : OpenClaim := { program := "ytabampeipfbdjaa", sum := "f1a46262697c35625cd5da1c0a5e37c59f7e4a917a0bd26924e4766a23a7cbc6", func := "diapause/diapauselaw12.KinCopies", spec := "kinCopies", inPlace := ["slices.overlaps[int]"], unfollowed := true, recurses := true, apart := false, narrowed := true }
def KinCopiesUptoSaid : Prop := kinCopiesUptoRow.holds Try.pinned (OpenSpec.upto kinCopiesSpec)

/-- 'diapauselaw12.KinDeep', WHERE WHAT IT READS IS OF BULK AT MOST 1048576: true; the input reads as it did. -/
def kinDeepUptoRow : OpenClaim := { program := "ytabampeipfbdjaa", sum := "f1a46262697c35625cd5da1c0a5e37c59f7e4a917a0bd26924e4766a23a7cbc6", func := "diapause/diapauselaw12.KinDeep", spec := "kinDeep", inPlace := ["slices.overlaps[int]"], unfollowed := true, recurses := true, apart := false, narrowed := true }
def KinDeepUptoSaid : Prop := kinDeepUptoRow.holds Try.pinned (OpenSpec.upto kinDeepSpec)

end Rows
end Go.Proofs.Ytabampeipfbdjaa
