/-
  No cell of these rows narrows 'for every input' (looked for: loops, veiled, ifaces, maps, wideKeys, modest, calm, conditions, laid).
  DERIVED. THE GIVEN ROWS OF THIS SEAT. 6 by the template 'for every input the law returns true; each argument reads behind the call as it read before'; 0 by the template 'total and deterministic' (their statements: YtoeeighfjoplhaaTotals.lean).
  GIVEN WITH THE SEED: the statements are not yours to turn. If you find one false, say at which input.
  Laid BY PROGRAM, IN A SANDBOX (cutbox-rows.mjs): the forced cells as the released guide's own fill.sh prints them over the translation b6e79fcd896f59b4… (all of the seat's roots in one cut). By AI agents, Wed Nov 11 2026. No macro, syntax, notation, axiom, sorry.
-/
import Derived.Test.YtoeeighfjoplhaaChecked
import GoSem.Claim
import GoSem.ClaimJoined
import GoSem.ClaimMapViews
import Derived.JoinedTies
import Derived.KernelRfl
namespace Go.Proofs.Ytoeeighfjoplhaa
/- THE CELL 'sum', in the pinned program and in every row, IS THE sha256 OF THE DUMP (.gsa) THAT YtoeeighfjoplhaaProg.lean LOADS. Nothing in Lean hashes anything: it is a label: what it is worth is what the hold of that sum in a sandbox is worth. -/
noncomputable def Try.pinned : Pinned := { name := "ytoeeighfjoplhaa", sum := "b6e79fcd896f59b4ccd30807d66282ba4af2e67903672afe806a74803f4da33f", checked := Try.checked }
namespace Rows
def none {H : Type} : Left H := { results := [], args := [] }

/-- 'diapauselaw15.LoadTells': WHATEVER THE INPUT: true; the input reads as it did. -/
def loadTellsSpec : ChangeSpec := { name := "loadTells", fn := fun _ => fun
  | [d1, d2, d3, d4] => { results := [.lit (.bool true)], args := [d1, d2, d3, d4] }
  | _ => none }
def loadTellsRow : OpenClaim := { program := "ytoeeighfjoplhaa", sum := "b6e79fcd896f59b4ccd30807d66282ba4af2e67903672afe806a74803f4da33f", func := "diapause/diapauselaw15.LoadTells", spec := "loadTells", inPlace := ["slices.overlaps[int]"], unfollowed := true, recurses := true, apart := false }
def LoadTellsSaid : Prop := loadTellsRow.holds Try.pinned (OpenSpec.ofChange loadTellsSpec)

/-- ITS FALSE NEIGHBOUR: 'it returns false'. Refute it at one input. -/
def loadTellsWrong : ChangeSpec := { name := "loadTells", fn := fun _ => fun
  | [d1, d2, d3, d4] => { results := [.lit (.bool false)], args := [d1, d2, d3, d4] }
  | _ => none }
def LoadTellsWrongFalsely : Prop := loadTellsRow.holds Try.pinned (OpenSpec.ofChange loadTellsWrong)

/-- 'diapauselaw15.LoadMoves': WHATEVER THE INPUT: true; the input reads as it did. -/
def loadMovesSpec : ChangeSpec := { name := "loadMoves", fn := fun _ => fun
  | [d1, d2] => { results := [.lit (.bool true)], args := [d1, d2] }
  | _ => none }
def loadMovesRow : OpenClaim := { program := "ytoeeighfjoplhaa", sum := "b6e79fcd896f59b4ccd30807d66282ba4af2e67903672afe806a74803f4da33f", func := "diapause/diapauselaw15.LoadMoves", spec := "loadMoves", inPlace := ["slices.overlaps[int]"], unfollowed := true, recurses := true, apart := false }
def LoadMovesSaid : Prop := loadMovesRow.holds Try.pinned (OpenSpec.ofChange loadMovesSpec)

/-- ITS FALSE NEIGHBOUR: 'it returns false'. Refute it at one input. -/
def loadMovesWrong : ChangeSpec := { name := "loadMoves", fn := fun _ => fun
  | [d1, d2] => { results := [.lit (.bool false)], args := [d1, d2] }
  | _ => none }
def LoadMovesWrongFalsely : Prop := loadMovesRow.holds Try.pinned (OpenSpec.ofChange loadMovesWrong)

/-- 'diapauselaw15.LoadLess': WHATEVER THE INPUT: true; the input reads as it did. -/
def loadLessSpec : ChangeSpec := { name := "loadLess", fn := fun _ => fun
  | [d1, d2] => { results := [.lit (.bool true)], args := [d1, d2] }
  | _ => none }
def loadLessRow : OpenClaim := { program := "ytoeeighfjoplhaa", sum := "b6e79fcd896f59b4ccd30807d66282ba4af2e67903672afe806a74803f4da33f", func := "diapause/diapauselaw15.LoadLess", spec := "loadLess", inPlace := ["slices.overlaps[int]"], unfollowed := true, recurses := true, apart := false }
def LoadLessSaid : Prop := loadLessRow.holds Try.pinned (OpenSpec.ofChange loadLessSpec)

/-- ITS FALSE NEIGHBOUR: 'it returns false'. Refute it at one input. -/
def loadLessWrong : ChangeSpec := { name := "loadLess", fn := fun _ => fun
  | [d1, d2] => { results := [.lit (.bool false)], args := [d1, d2] }
  | _ => none }
def LoadLessWrongFalsely : Prop := loadLessRow.holds Try.pinned (OpenSpec.ofChange loadLessWrong)

/-- 'diapauselaw15.LoadSettles': WHATEVER THE INPUT: true; the input reads as it did. -/
def loadSettlesSpec : ChangeSpec := { name := "loadSettles", fn := fun _ => fun
  | [d1, d2] => { results := [.lit (.bool true)], args := [d1, d2] }
  | _ => none }
def loadSettlesRow : OpenClaim := { program := "ytoeeighfjoplhaa", sum := "b6e79fcd896f59b4ccd30807d66282ba4af2e67903672afe806a74803f4da33f", func := "diapause/diapauselaw15.LoadSettles", spec := "loadSettles", inPlace := ["slices.overlaps[int]"], unfollowed := true, recurses := true, apart := false }
def LoadSettlesSaid : Prop := loadSettlesRow.holds Try.pinned (OpenSpec.ofChange loadSettlesSpec)

/-- ITS FALSE NEIGHBOUR: 'it returns false'. Refute it at one input. -/
def loadSettlesWrong : ChangeSpec := { name := "loadSettles", fn := fun _ => fun
  | [d1, d2] => { results := [.lit (.bool false)], args := [d1, d2] }
  | _ => none }
def LoadSettlesWrongFalsely : Prop := loadSettlesRow.holds Try.pinned (OpenSpec.ofChange loadSettlesWrong)

/-- 'diapauselaw15.LoadEven': WHATEVER THE INPUT: true; the input reads as it did. -/
def loadEvenSpec : ChangeSpec := { name := "loadEven", fn := fun _ => fun
  | [d1, d2] => { results := [.lit (.bool true)], args := [d1, d2] }
  | _ => none }
def loadEvenRow : OpenClaim := { program := "ytoeeighfjoplhaa", sum := "b6e79fcd896f59b4ccd30807d66282ba4af2e67903672afe806a74803f4da33f", func := "diapause/diapauselaw15.LoadEven", spec := "loadEven", inPlace := ["slices.overlaps[int]"], unfollowed := true, recurses := true, apart := false }
def LoadEvenSaid : Prop := loadEvenRow.holds Try.pinned (OpenSpec.ofChange loadEvenSpec)

/-- ITS FALSE NEIGHBOUR: 'it returns false'. Refute it at one input. -/
def loadEvenWrong : ChangeSpec := { name := "loadEven", fn := fun _ => fun
  | [d1, d2] => { results := [.lit (.bool false)], args := [d1, d2] }
  | _ => none }
def LoadEvenWrongFalsely : Prop := loadEvenRow.holds Try.pinned (OpenSpec.ofChange loadEvenWrong)

/-- 'diapauselaw15.LoadChoice': WHATEVER THE INPUT: true; the input reads as it did. -/
def loadChoiceSpec : ChangeSpec := { name := "loadChoice", fn := fun _ => fun
  | [d1, d2] => { results := [.lit (.bool true)], args := [d1, d2] }
  | _ => none }
def loadChoiceRow : OpenClaim := { program := "ytoeeighfjoplhaa", sum := "b6e79fcd896f59b4ccd30807d66282ba4af2e67903672afe806a74803f4da33f", func := "diapause/diapauselaw15.LoadChoice", spec := "loadChoice", inPlace := ["slices.overlaps[int]"], unfollowed := true, recurses := true, apart := false }
def LoadChoiceSaid : Prop := loadChoiceRow.holds Try.pinned (OpenSpec.ofChange loadChoiceSpec)

/-- ITS FALSE NEIGHBOUR: 'it returns false'. Refute it at one input. -/
def loadChoiceWrong : ChangeSpec := { name := "loadChoice", fn := fun _ => fun
  | [d1, d2] => { results := [.lit (.bool false)], args := [d1, d2] }
  | _ => none }
def LoadChoiceWrongFalsely : Prop := loadChoiceRow.holds Try.pinned (OpenSpec.ofChange loadChoiceWrong)

/- THE SECOND FORM. 'bulk': how many values and letters a reading holds, each counted each time it is reached (what is shared counts as often as it is met; a slice's spare places count too). A statement '..UptoSaid' is the law's where the arguments, and the package variables that the reading takes, are together of bulk at most 1048576: NARROWER than '..Said'. Prove '..Said' where nothing that the law and all that it calls make is longer than what came in: it says more and counts as full. Else prove '..UptoSaid'. A law counts once. -/
mutual
def uptoBulk {H : Type} : DataW H → Nat
  | .lit (.string bytes) => bytes.length + 1
  | .lit _ => 1
  | .nil => 1
  | .ptr d => uptoBulk d + 1
  | .slice elems spare => uptoBulkAll elems + uptoBulkAll spare + 1
  | .agg parts => uptoBulkAll parts + 1
  | .iface _ d => uptoBulk d + 1
  | .map entries => uptoBulkEntries entries + 1
  | .held _ => 1
def uptoBulkAll {H : Type} : List (DataW H) → Nat
  | [] => 0
  | d :: r => uptoBulk d + uptoBulkAll r
def uptoBulkEntries {H : Type} : List (Lit × DataW H) → Nat
  | [] => 0
  | x :: r => uptoBulkEntry x + uptoBulkEntries r
def uptoBulkEntry {H : Type} : Lit × DataW H → Nat
  | (.string bytes, d) => bytes.length + uptoBulk d + 1
  | (_, d) => uptoBulk d + 1
 end
def uptoSmall : (H : Type) → List (DataW H) → Bool := fun _ ds => decide (uptoBulkAll ds ≤ 1048576)
def OpenSpec.upto (s : _root_.Go.ChangeSpec) : _root_.Go.OpenSpec := { _root_.Go.OpenSpec.ofChange s with cond := some uptoSmall }

/-- 'diapauselaw15.LoadTells', WHERE WHAT IT READS IS OF BULK AT MOST 1048576: true; the input reads as it did. -/
def loadTellsUptoRow : OpenClaim := { program := "ytoeeighfjoplhaa", sum := "b6e79fcd896f59b4ccd30807d66282ba4af2e67903672afe806a74803f4da33f", func := "diapause/diapauselaw15.LoadTells", spec := "loadTells", inPlace := ["slices.overlaps[int]"], unfollowed := true, recurses := true, apart := false, narrowed := true }
def LoadTellsUptoSaid : Prop := loadTellsUptoRow.holds Try.pinned (OpenSpec.upto loadTellsSpec)

/-- 'diapauselaw15.LoadMoves', WHERE WHAT IT READS IS OF BULK AT MOST 1048576: true; the input reads as it did. -/
def loadMovesUptoRow : OpenClaim := { program := "ytoeeighfjoplhaa", sum := "b6e79fcd896f59b4ccd30807d66282ba4af2e67903672afe806a74803f4da33f", func := "diapause/diapauselaw15.LoadMoves", spec := "loadMoves", inPlace := ["slices.overlaps[int]"], unfollowed := true, recurses := true, apart := false, narrowed := true }
def LoadMovesUptoSaid : Prop := loadMovesUptoRow.holds Try.pinned (OpenSpec.upto loadMovesSpec)

/-- 'diapauselaw15.LoadLess', WHERE WHAT IT READS IS OF BULK AT MOST 1048576: true; the input reads as it did. -/
def loadLessUptoRow : OpenClaim := { program := "ytoeeighfjoplhaa", sum := "b6e79fcd896f59b4ccd30807d66282ba4af2e67903672afe806a74803f4da33f", func := "diapause/diapauselaw15.LoadLess", spec := "loadLess", inPlace := ["slices.overlaps[int]"], unfollowed := true, recurses := true, apart := false, narrowed := true }
def LoadLessUptoSaid : Prop := loadLessUptoRow.holds Try.pinned (OpenSpec.upto loadLessSpec)

/-- 'diapauselaw15.LoadSettles', WHERE WHAT IT READS IS OF BULK AT MOST 1048576: true; the input reads as it did. -/
def loadSettlesUptoRow : OpenClaim := { program := "ytoeeighfjoplhaa", sum := "b6e79fcd896f59b4ccd30807d66282ba4af2e67903672afe806a74803f4da33f", func := "diapause/diapauselaw15.LoadSettles", spec := "loadSettles", inPlace := ["slices.overlaps[int]"], unfollowed := true, recurses := true, apart := false, narrowed := true }
def LoadSettlesUptoSaid : Prop := loadSettlesUptoRow.holds Try.pinned (OpenSpec.upto loadSettlesSpec)

/-- 'diapauselaw15.LoadEven', WHERE WHAT IT READS IS OF BULK AT MOST 1048576: true; the input reads as it did. -/
def loadEvenUptoRow : OpenClaim := { program := "ytoeeighfjoplhaa", sum := "b6e79fcd896f59b4ccd30807d66282ba4af2e67903672afe806a74803f4da33f", func := "diapause/diapauselaw15.LoadEven", spec := "loadEven", inPlace := ["slices.overlaps[int]"], unfollowed := true, recurses := true, apart := false, narrowed := true }
def LoadEvenUptoSaid : Prop := loadEvenUptoRow.holds Try.pinned (OpenSpec.upto loadEvenSpec)

/-- 'diapauselaw15.LoadChoice', WHERE WHAT IT READS IS OF BULK AT MOST 1048576: true; the input reads as it did. -/
def loadChoiceUptoRow : OpenClaim := { program := "ytoeeighfjoplhaa", sum := "b6e79fcd896f59b4ccd30807d66282ba4af2e67903672afe806a74803f4da33f", func := "diapause/diapauselaw15.LoadChoice", spec := "loadChoice", inPlace := ["slices.overlaps[int]"], unfollowed := true, recurses := true, apart := false, narrowed := true }
def LoadChoiceUptoSaid : Prop := loadChoiceUptoRow.holds Try.pinned (OpenSpec.upto loadChoiceSpec)

end Rows
end Go.Proofs.Ytoeeighfjoplhaa
