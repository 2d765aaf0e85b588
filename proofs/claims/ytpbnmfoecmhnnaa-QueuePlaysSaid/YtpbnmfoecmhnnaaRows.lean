/-
  No cell of these rows narrows 'for every input' (looked for: loops, veiled, ifaces, maps, wideKeys, modest, calm, conditions, laid).
  DERIVED. THE GIVEN ROWS OF THIS SEAT. 14 by the template 'for every input the law returns true; each argument reads behind the call as it read before'; 0 by the template 'total and deterministic' (their statements: YtpbnmfoecmhnnaaTotals.lean).
  GIVEN WITH THE SEED: the statements are not yours to turn. If you find one false, say at which input.
  Laid BY PROGRAM, IN A SANDBOX (cutbox-rows.mjs): the forced cells as the released guide's own fill.sh prints them over the translation 0a3dcd1b6088896a… (all of the seat's roots in one cut). By AI agents, Wed Nov 11 2026. No macro, syntax, notation, axiom, sorry.
-/
import Derived.Test.YtpbnmfoecmhnnaaChecked
import GoSem.Claim
import GoSem.ClaimJoined
import GoSem.ClaimMapViews
import Derived.JoinedTies
import Derived.KernelRfl
namespace Go.Proofs.Ytpbnmfoecmhnnaa
/- THE CELL 'sum', in the pinned program and in every row, IS THE sha256 OF THE DUMP (.gsa) THAT YtpbnmfoecmhnnaaProg.lean LOADS. Nothing in Lean hashes anything: it is a label: what it is worth is what the hold of that sum in a sandbox is worth. -/
noncomputable def Try.pinned : Pinned := { name := "ytpbnmfoecmhnnaa", sum := "0a3dcd1b6088896af6a7a7d5a59579df194e4d86ce1d08f6bc88c9c6324a7c99", checked := Try.checked }
namespace Rows
def none {H : Type} : Left H := { results := [], args := [] }

/-- 'diapauselaw06.ShelfPlays': WHATEVER THE INPUT: true; the input reads as it did. -/
def shelfPlaysSpec : ChangeSpec := { name := "shelfPlays", fn := fun _ => fun
  | [d1, d2, d3] => { results := [.lit (.bool true)], args := [d1, d2, d3] }
  | _ => none }
def shelfPlaysRow : OpenClaim := { program := "ytpbnmfoecmhnnaa", sum := "0a3dcd1b6088896af6a7a7d5a59579df194e4d86ce1d08f6bc88c9c6324a7c99", func := "diapause/diapauselaw06.ShelfPlays", spec := "shelfPlays", unfollowed := true, recurses := true, apart := false }
def ShelfPlaysSaid : Prop := shelfPlaysRow.holds Try.pinned (OpenSpec.ofChange shelfPlaysSpec)

/-- ITS FALSE NEIGHBOUR: 'it returns false'. Refute it at one input. -/
def shelfPlaysWrong : ChangeSpec := { name := "shelfPlays", fn := fun _ => fun
  | [d1, d2, d3] => { results := [.lit (.bool false)], args := [d1, d2, d3] }
  | _ => none }
def ShelfPlaysWrongFalsely : Prop := shelfPlaysRow.holds Try.pinned (OpenSpec.ofChange shelfPlaysWrong)

/-- 'diapauselaw06.ShelfRises': WHATEVER THE INPUT: true; the input reads as it did. -/
def shelfRisesSpec : ChangeSpec := { name := "shelfRises", fn := fun _ => fun
  | [d] => { results := [.lit (.bool true)], args := [d] }
  | _ => none }
def shelfRisesRow : OpenClaim := { program := "ytpbnmfoecmhnnaa", sum := "0a3dcd1b6088896af6a7a7d5a59579df194e4d86ce1d08f6bc88c9c6324a7c99", func := "diapause/diapauselaw06.ShelfRises", spec := "shelfRises", unfollowed := true, recurses := true, apart := false }
def ShelfRisesSaid : Prop := shelfRisesRow.holds Try.pinned (OpenSpec.ofChange shelfRisesSpec)

/-- ITS FALSE NEIGHBOUR: 'it returns false'. Refute it at one input. -/
def shelfRisesWrong : ChangeSpec := { name := "shelfRises", fn := fun _ => fun
  | [d] => { results := [.lit (.bool false)], args := [d] }
  | _ => none }
def ShelfRisesWrongFalsely : Prop := shelfRisesRow.holds Try.pinned (OpenSpec.ofChange shelfRisesWrong)

/-- 'diapauselaw06.ShelfFlat': WHATEVER THE INPUT: true; the input reads as it did. -/
def shelfFlatSpec : ChangeSpec := { name := "shelfFlat", fn := fun _ => fun
  | [d1, d2, d3] => { results := [.lit (.bool true)], args := [d1, d2, d3] }
  | _ => none }
def shelfFlatRow : OpenClaim := { program := "ytpbnmfoecmhnnaa", sum := "0a3dcd1b6088896af6a7a7d5a59579df194e4d86ce1d08f6bc88c9c6324a7c99", func := "diapause/diapauselaw06.ShelfFlat", spec := "shelfFlat", unfollowed := true, recurses := true, apart := false }
def ShelfFlatSaid : Prop := shelfFlatRow.holds Try.pinned (OpenSpec.ofChange shelfFlatSpec)

/-- ITS FALSE NEIGHBOUR: 'it returns false'. Refute it at one input. -/
def shelfFlatWrong : ChangeSpec := { name := "shelfFlat", fn := fun _ => fun
  | [d1, d2, d3] => { results := [.lit (.bool false)], args := [d1, d2, d3] }
  | _ => none }
def ShelfFlatWrongFalsely : Prop := shelfFlatRow.holds Try.pinned (OpenSpec.ofChange shelfFlatWrong)

/-- 'diapauselaw06.ShelfOrder': WHATEVER THE INPUT: true; the input reads as it did. -/
def shelfOrderSpec : ChangeSpec := { name := "shelfOrder", fn := fun _ => fun
  | [d1, d2, d3] => { results := [.lit (.bool true)], args := [d1, d2, d3] }
  | _ => none }
def shelfOrderRow : OpenClaim := { program := "ytpbnmfoecmhnnaa", sum := "0a3dcd1b6088896af6a7a7d5a59579df194e4d86ce1d08f6bc88c9c6324a7c99", func := "diapause/diapauselaw06.ShelfOrder", spec := "shelfOrder", unfollowed := true, recurses := true, apart := false }
def ShelfOrderSaid : Prop := shelfOrderRow.holds Try.pinned (OpenSpec.ofChange shelfOrderSpec)

/-- ITS FALSE NEIGHBOUR: 'it returns false'. Refute it at one input. -/
def shelfOrderWrong : ChangeSpec := { name := "shelfOrder", fn := fun _ => fun
  | [d1, d2, d3] => { results := [.lit (.bool false)], args := [d1, d2, d3] }
  | _ => none }
def ShelfOrderWrongFalsely : Prop := shelfOrderRow.holds Try.pinned (OpenSpec.ofChange shelfOrderWrong)

/-- 'diapauselaw06.ShelfBack': WHATEVER THE INPUT: true; the input reads as it did. -/
def shelfBackSpec : ChangeSpec := { name := "shelfBack", fn := fun _ => fun
  | [d1, d2] => { results := [.lit (.bool true)], args := [d1, d2] }
  | _ => none }
def shelfBackRow : OpenClaim := { program := "ytpbnmfoecmhnnaa", sum := "0a3dcd1b6088896af6a7a7d5a59579df194e4d86ce1d08f6bc88c9c6324a7c99", func := "diapause/diapauselaw06.ShelfBack", spec := "shelfBack", unfollowed := true, recurses := true, apart := false }
def ShelfBackSaid : Prop := shelfBackRow.holds Try.pinned (OpenSpec.ofChange shelfBackSpec)

/-- ITS FALSE NEIGHBOUR: 'it returns false'. Refute it at one input. -/
def shelfBackWrong : ChangeSpec := { name := "shelfBack", fn := fun _ => fun
  | [d1, d2] => { results := [.lit (.bool false)], args := [d1, d2] }
  | _ => none }
def ShelfBackWrongFalsely : Prop := shelfBackRow.holds Try.pinned (OpenSpec.ofChange shelfBackWrong)

/-- 'diapauselaw06.ShelfStops': WHATEVER THE INPUT: true; the input reads as it did. -/
def shelfStopsSpec : ChangeSpec := { name := "shelfStops", fn := fun _ => fun
  | [d1, d2] => { results := [.lit (.bool true)], args := [d1, d2] }
  | _ => none }
def shelfStopsRow : OpenClaim := { program := "ytpbnmfoecmhnnaa", sum := "0a3dcd1b6088896af6a7a7d5a59579df194e4d86ce1d08f6bc88c9c6324a7c99", func := "diapause/diapauselaw06.ShelfStops", spec := "shelfStops", unfollowed := true, recurses := true, apart := false }
def ShelfStopsSaid : Prop := shelfStopsRow.holds Try.pinned (OpenSpec.ofChange shelfStopsSpec)

/-- ITS FALSE NEIGHBOUR: 'it returns false'. Refute it at one input. -/
def shelfStopsWrong : ChangeSpec := { name := "shelfStops", fn := fun _ => fun
  | [d1, d2] => { results := [.lit (.bool false)], args := [d1, d2] }
  | _ => none }
def ShelfStopsWrongFalsely : Prop := shelfStopsRow.holds Try.pinned (OpenSpec.ofChange shelfStopsWrong)

/-- 'diapauselaw06.ShelfSplits': WHATEVER THE INPUT: true; the input reads as it did. -/
def shelfSplitsSpec : ChangeSpec := { name := "shelfSplits", fn := fun _ => fun
  | [d1, d2] => { results := [.lit (.bool true)], args := [d1, d2] }
  | _ => none }
def shelfSplitsRow : OpenClaim := { program := "ytpbnmfoecmhnnaa", sum := "0a3dcd1b6088896af6a7a7d5a59579df194e4d86ce1d08f6bc88c9c6324a7c99", func := "diapause/diapauselaw06.ShelfSplits", spec := "shelfSplits", unfollowed := true, recurses := true, apart := false }
def ShelfSplitsSaid : Prop := shelfSplitsRow.holds Try.pinned (OpenSpec.ofChange shelfSplitsSpec)

/-- ITS FALSE NEIGHBOUR: 'it returns false'. Refute it at one input. -/
def shelfSplitsWrong : ChangeSpec := { name := "shelfSplits", fn := fun _ => fun
  | [d1, d2] => { results := [.lit (.bool false)], args := [d1, d2] }
  | _ => none }
def ShelfSplitsWrongFalsely : Prop := shelfSplitsRow.holds Try.pinned (OpenSpec.ofChange shelfSplitsWrong)

/-- 'diapauselaw07.QueuePlays': WHATEVER THE INPUT: true; the input reads as it did. -/
def queuePlaysSpec : ChangeSpec := { name := "queuePlays", fn := fun _ => fun
  | [d1, d2] => { results := [.lit (.bool true)], args := [d1, d2] }
  | _ => none }
def queuePlaysRow : OpenClaim := { program := "ytpbnmfoecmhnnaa", sum := "0a3dcd1b6088896af6a7a7d5a59579df194e4d86ce1d08f6bc88c9c6324a7c99", func := "diapause/diapauselaw07.QueuePlays", spec := "queuePlays", unfollowed := true, recurses := true, apart := false }
def QueuePlaysSaid : Prop := queuePlaysRow.holds Try.pinned (OpenSpec.ofChange queuePlaysSpec)

/-- ITS FALSE NEIGHBOUR: 'it returns false'. Refute it at one input. -/
def queuePlaysWrong : ChangeSpec := { name := "queuePlays", fn := fun _ => fun
  | [d1, d2] => { results := [.lit (.bool false)], args := [d1, d2] }
  | _ => none }
def QueuePlaysWrongFalsely : Prop := queuePlaysRow.holds Try.pinned (OpenSpec.ofChange queuePlaysWrong)

/-- 'diapauselaw07.QueueLags': WHATEVER THE INPUT: true; the input reads as it did. -/
def queueLagsSpec : ChangeSpec := { name := "queueLags", fn := fun _ => fun
  | [d1, d2] => { results := [.lit (.bool true)], args := [d1, d2] }
  | _ => none }
def queueLagsRow : OpenClaim := { program := "ytpbnmfoecmhnnaa", sum := "0a3dcd1b6088896af6a7a7d5a59579df194e4d86ce1d08f6bc88c9c6324a7c99", func := "diapause/diapauselaw07.QueueLags", spec := "queueLags", unfollowed := true, recurses := true, apart := false }
def QueueLagsSaid : Prop := queueLagsRow.holds Try.pinned (OpenSpec.ofChange queueLagsSpec)

/-- ITS FALSE NEIGHBOUR: 'it returns false'. Refute it at one input. -/
def queueLagsWrong : ChangeSpec := { name := "queueLags", fn := fun _ => fun
  | [d1, d2] => { results := [.lit (.bool false)], args := [d1, d2] }
  | _ => none }
def QueueLagsWrongFalsely : Prop := queueLagsRow.holds Try.pinned (OpenSpec.ofChange queueLagsWrong)

/-- 'diapauselaw07.QueueMoves': WHATEVER THE INPUT: true; the input reads as it did. -/
def queueMovesSpec : ChangeSpec := { name := "queueMoves", fn := fun _ => fun
  | [d1, d2, d3] => { results := [.lit (.bool true)], args := [d1, d2, d3] }
  | _ => none }
def queueMovesRow : OpenClaim := { program := "ytpbnmfoecmhnnaa", sum := "0a3dcd1b6088896af6a7a7d5a59579df194e4d86ce1d08f6bc88c9c6324a7c99", func := "diapause/diapauselaw07.QueueMoves", spec := "queueMoves", unfollowed := true, recurses := true, apart := false }
def QueueMovesSaid : Prop := queueMovesRow.holds Try.pinned (OpenSpec.ofChange queueMovesSpec)

/-- ITS FALSE NEIGHBOUR: 'it returns false'. Refute it at one input. -/
def queueMovesWrong : ChangeSpec := { name := "queueMoves", fn := fun _ => fun
  | [d1, d2, d3] => { results := [.lit (.bool false)], args := [d1, d2, d3] }
  | _ => none }
def QueueMovesWrongFalsely : Prop := queueMovesRow.holds Try.pinned (OpenSpec.ofChange queueMovesWrong)

/-- 'diapauselaw07.QueueFair': WHATEVER THE INPUT: true; the input reads as it did. -/
def queueFairSpec : ChangeSpec := { name := "queueFair", fn := fun _ => fun
  | [d1, d2] => { results := [.lit (.bool true)], args := [d1, d2] }
  | _ => none }
def queueFairRow : OpenClaim := { program := "ytpbnmfoecmhnnaa", sum := "0a3dcd1b6088896af6a7a7d5a59579df194e4d86ce1d08f6bc88c9c6324a7c99", func := "diapause/diapauselaw07.QueueFair", spec := "queueFair", unfollowed := true, recurses := true, apart := false }
def QueueFairSaid : Prop := queueFairRow.holds Try.pinned (OpenSpec.ofChange queueFairSpec)

/-- ITS FALSE NEIGHBOUR: 'it returns false'. Refute it at one input. -/
def queueFairWrong : ChangeSpec := { name := "queueFair", fn := fun _ => fun
  | [d1, d2] => { results := [.lit (.bool false)], args := [d1, d2] }
  | _ => none }
def QueueFairWrongFalsely : Prop := queueFairRow.holds Try.pinned (OpenSpec.ofChange queueFairWrong)

/-- 'diapauselaw07.QueueMean': WHATEVER THE INPUT: true; the input reads as it did. -/
def queueMeanSpec : ChangeSpec := { name := "queueMean", fn := fun _ => fun
  | [d] => { results := [.lit (.bool true)], args := [d] }
  | _ => none }
def queueMeanRow : OpenClaim := { program := "ytpbnmfoecmhnnaa", sum := "0a3dcd1b6088896af6a7a7d5a59579df194e4d86ce1d08f6bc88c9c6324a7c99", func := "diapause/diapauselaw07.QueueMean", spec := "queueMean", unfollowed := true, recurses := true, apart := false }
def QueueMeanSaid : Prop := queueMeanRow.holds Try.pinned (OpenSpec.ofChange queueMeanSpec)

/-- ITS FALSE NEIGHBOUR: 'it returns false'. Refute it at one input. -/
def queueMeanWrong : ChangeSpec := { name := "queueMean", fn := fun _ => fun
  | [d] => { results := [.lit (.bool false)], args := [d] }
  | _ => none }
def QueueMeanWrongFalsely : Prop := queueMeanRow.holds Try.pinned (OpenSpec.ofChange queueMeanWrong)

/-- 'diapauselaw07.QueueHalves': WHATEVER THE INPUT: true; the input reads as it did. -/
def queueHalvesSpec : ChangeSpec := { name := "queueHalves", fn := fun _ => fun
  | [d1, d2, d3, d4, d5] => { results := [.lit (.bool true)], args := [d1, d2, d3, d4, d5] }
  | _ => none }
def queueHalvesRow : OpenClaim := { program := "ytpbnmfoecmhnnaa", sum := "0a3dcd1b6088896af6a7a7d5a59579df194e4d86ce1d08f6bc88c9c6324a7c99", func := "diapause/diapauselaw07.QueueHalves", spec := "queueHalves", unfollowed := true, recurses := true, apart := false }
def QueueHalvesSaid : Prop := queueHalvesRow.holds Try.pinned (OpenSpec.ofChange queueHalvesSpec)

/-- ITS FALSE NEIGHBOUR: 'it returns false'. Refute it at one input. -/
def queueHalvesWrong : ChangeSpec := { name := "queueHalves", fn := fun _ => fun
  | [d1, d2, d3, d4, d5] => { results := [.lit (.bool false)], args := [d1, d2, d3, d4, d5] }
  | _ => none }
def QueueHalvesWrongFalsely : Prop := queueHalvesRow.holds Try.pinned (OpenSpec.ofChange queueHalvesWrong)

/-- 'diapauselaw07.QueueJoins': WHATEVER THE INPUT: true; the input reads as it did. -/
def queueJoinsSpec : ChangeSpec := { name := "queueJoins", fn := fun _ => fun
  | [d1, d2, d3] => { results := [.lit (.bool true)], args := [d1, d2, d3] }
  | _ => none }
def queueJoinsRow : OpenClaim := { program := "ytpbnmfoecmhnnaa", sum := "0a3dcd1b6088896af6a7a7d5a59579df194e4d86ce1d08f6bc88c9c6324a7c99", func := "diapause/diapauselaw07.QueueJoins", spec := "queueJoins", unfollowed := true, recurses := true, apart := false }
def QueueJoinsSaid : Prop := queueJoinsRow.holds Try.pinned (OpenSpec.ofChange queueJoinsSpec)

/-- ITS FALSE NEIGHBOUR: 'it returns false'. Refute it at one input. -/
def queueJoinsWrong : ChangeSpec := { name := "queueJoins", fn := fun _ => fun
  | [d1, d2, d3] => { results := [.lit (.bool false)], args := [d1, d2, d3] }
  | _ => none }
def QueueJoinsWrongFalsely : Prop := queueJoinsRow.holds Try.pinned (OpenSpec.ofChange queueJoinsWrong)

/- THE SECOND FORM. 'bulk': how many values and letters a reading holds, each counted each time it is reached (what is shared counts as often as it is met; a slice's spare places count too). A statement '..UptoSaid' is the law's where the arguments, and the package variables that the reading takes, are together of bulk at most 1048576: NARROWER than '..Said'. Prove '..Said' where nothing that the law and all that it calls make is longer than what came in: it says more and counts as full. Else prove '..UptoSaid'. A law counts once. -/
mutual
def uptoBulk {H : Type} : DataW H → Nat
  | .lit (.string bytes) => bytes.length + 1
  | .lit _ => 1
  | .nil => 1
  | .ptr d => uptoBulk d + 1
  | .slice elems spare => uptoBulkAll elems + uptoBulkAll spare + 1
  | .agg parts => uptoBulkAll parts + 1
  | .iface _ d => uptoBulk d + 1
  | .map entries => uptoBulkEntries entries + 1
  | .held _ => 1
def uptoBulkAll {H : Type} : List (DataW H) → Nat
  | [] => 0
  | d :: r => uptoBulk d + uptoBulkAll r
def uptoBulkEntries {H : Type} : List (Lit × DataW H) → Nat
  | [] => 0
  | x :: r => uptoBulkEntry x + uptoBulkEntries r
def uptoBulkEntry {H : Type} : Lit × DataW H → Nat
  | (.string bytes, d) => bytes.length + uptoBulk d + 1
  | (_, d) => uptoBulk d + 1
 end
def uptoSmall : (H : Type) → List (DataW H) → Bool := fun _ ds => decide (uptoBulkAll ds ≤ 1048576)
def OpenSpec.upto (s : _root_.Go.ChangeSpec) : _root_.Go.OpenSpec := { _root_.Go.OpenSpec.ofChange s with cond := some uptoSmall }

/-- 'diapauselaw06.ShelfPlays', WHERE WHAT IT READS IS OF BULK AT MOST 1048576: true; the input reads as it did. -/
def shelfPlaysUptoRow : OpenClaim := { program := "ytpbnmfoecmhnnaa", sum := "0a3dcd1b6088896af6a7a7d5a59579df194e4d86ce1d08f6bc88c9c6324a7c99", func := "diapause/diapauselaw06.ShelfPlays", spec := "shelfPlays", unfollowed := true, recurses := true, apart := false, narrowed := true }
def ShelfPlaysUptoSaid : Prop := shelfPlaysUptoRow.holds Try.pinned (OpenSpec.upto shelfPlaysSpec)

/-- 'diapauselaw06.ShelfRises', WHERE WHAT IT READS IS OF BULK AT MOST 1048576: true; the input reads as it did. -/
def shelfRisesUptoRow : OpenClaim := { program := "ytpbnmfoecmhnnaa", sum := "0a3dcd1b6088896af6a7a7d5a59579df194e4d86ce1d08f6bc88c9c6324a7c99", func := "diapause/diapauselaw06.ShelfRises", spec := "shelfRises", unfollowed := true, recurses := true, apart := false, narrowed := true }
def ShelfRisesUptoSaid : Prop := shelfRisesUptoRow.holds Try.pinned (OpenSpec.upto shelfRisesSpec)

/-- 'diapauselaw06.ShelfFlat', WHERE WHAT IT READS IS OF BULK AT MOST 1048576: true; the input reads as it did. -/
def shelfFlatUptoRow : OpenClaim := { program := "ytpbnmfoecmhnnaa", sum := "0a3dcd1b6088896af6a7a7d5a59579df194e4d86ce1d08f6bc88c9c6324a7c99", func := "diapause/diapauselaw06.ShelfFlat", spec := "shelfFlat", unfollowed := true, recurses := true, apart := false, narrowed := true }
def ShelfFlatUptoSaid : Prop := shelfFlatUptoRow.holds Try.pinned (OpenSpec.upto shelfFlatSpec)

/-- 'diapauselaw06.ShelfOrder', WHERE WHAT IT READS IS OF BULK AT MOST 1048576: true; the input reads as it did. -/
def shelfOrderUptoRow : OpenClaim := { program := "ytpbnmfoecmhnnaa", sum := "0a3dcd1b6088896af6a7a7d5a59579df194e4d86ce1d08f6bc88c9c6324a7c99", func := "diapause/diapauselaw06.ShelfOrder", spec := "shelfOrder", unfollowed := true, recurses := true, apart := false, narrowed := true }
def ShelfOrderUptoSaid : Prop := shelfOrderUptoRow.holds Try.pinned (OpenSpec.upto shelfOrderSpec)

/-- 'diapauselaw06.ShelfBack', WHERE WHAT IT READS IS OF BULK AT MOST 1048576: true; the input reads as it did. -/
def shelfBackUptoRow : OpenClaim := { program := "ytpbnmfoecmhnnaa", sum := "0a3dcd1b6088896af6a7a7d5a59579df194e4d86ce1d08f6bc88c9c6324a7c99", func := "diapause/diapauselaw06.ShelfBack", spec := "shelfBack", unfollowed := true, recurses := true, apart := false, narrowed := true }
def ShelfBackUptoSaid : Prop := shelfBackUptoRow.holds Try.pinned (OpenSpec.upto shelfBackSpec)

/-- 'diapauselaw06.ShelfStops', WHERE WHAT IT READS IS OF BULK AT MOST 1048576: true; the input reads as it did. -/
def shelfStopsUptoRow : OpenClaim := { program := "ytpbnmfoecmhnnaa", sum := "0a3dcd1b6088896af6a7a7d5a59579df194e4d86ce1d08f6bc88c9c6324a7c99", func := "diapause/diapauselaw06.ShelfStops", spec := "shelfStops", unfollowed := true, recurses := true, apart := false, narrowed := true }
def ShelfStopsUptoSaid : Prop := shelfStopsUptoRow.holds Try.pinned (OpenSpec.upto shelfStopsSpec)

/-- 'diapauselaw06.ShelfSplits', WHERE WHAT IT READS IS OF BULK AT MOST 1048576: true; the input reads as it did. -/
def shelfSplitsUptoRow : OpenClaim := { program := "ytpbnmfoecmhnnaa", sum := "0a3dcd1b6088896af6a7a7d5a59579df194e4d86ce1d08f6bc88c9c6324a7c99", func := "diapause/diapauselaw06.ShelfSplits", spec := "shelfSplits", unfollowed := true, recurses := true, apart := false, narrowed := true }
def ShelfSplitsUptoSaid : Prop := shelfSplitsUptoRow.holds Try.pinned (OpenSpec.upto shelfSplitsSpec)

/-- 'diapauselaw07.QueuePlays', WHERE WHAT IT READS IS OF BULK AT MOST 1048576: true; the input reads as it did. -/
def queuePlaysUptoRow : OpenClaim := { program := "ytpbnmfoecmhnnaa", sum := "0a3dcd1b6088896af6a7a7d5a59579df194e4d86ce1d08f6bc88c9c6324a7c99", func := "diapause/diapauselaw07.QueuePlays", spec := "queuePlays", unfollowed := true, recurses := true, apart := false, narrowed := true }
def QueuePlaysUptoSaid : Prop := queuePlaysUptoRow.holds Try.pinned (OpenSpec.upto queuePlaysSpec)

/-- 'diapauselaw07.QueueLags', WHERE WHAT IT READS IS OF BULK AT MOST 1048576: true; the input reads as it did. -/
def queueLagsUptoRow : OpenClaim := { program := "ytpbnmfoecmhnnaa", sum := "0a3dcd1b6088896af6a7a7d5a59579df194e4d86ce1d08f6bc88c9c6324a7c99", func := "diapause/diapauselaw07.QueueLags", spec := "queueLags", unfollowed := true, recurses := true, apart := false, narrowed := true }
def QueueLagsUptoSaid : Prop := queueLagsUptoRow.holds Try.pinned (OpenSpec.upto queueLagsSpec)

/-- 'diapauselaw07.QueueMoves', WHERE WHAT IT READS IS OF BULK AT MOST 1048576: true; the input reads as it did. -/
def queueMovesUptoRow : OpenClaim := { program := "ytpbnmfoecmhnnaa", sum := "0a3dcd1b6088896af6a7a7d5a59579df194e4d86ce1d08f6bc88c9c6324a7c99", func := "diapause/diapauselaw07.QueueMoves", spec := "queueMoves", unfollowed := true, recurses := true, apart := false, narrowed := true }
def QueueMovesUptoSaid : Prop := queueMovesUptoRow.holds Try.pinned (OpenSpec.upto queueMovesSpec)

/-- 'diapauselaw07.QueueFair', WHERE WHAT IT READS IS OF BULK AT MOST 1048576: true; the input reads as it did. -/
def queueFairUptoRow : OpenClaim := { program := "ytpbnmfoecmhnnaa", sum := "0a3dcd1b6088896af6a7a7d5a59579df194e4d86ce1d08f6bc88c9c6324a7c99", func := "diapause/diapauselaw07.QueueFair", spec := "queueFair", unfollowed := true, recurses := true, apart := false, narrowed := true }
def QueueFairUptoSaid : Prop := queueFairUptoRow.holds Try.pinned (OpenSpec.upto queueFairSpec)

/-- 'diapauselaw07.QueueMean', WHERE WHAT IT READS IS OF BULK AT MOST 1048576: true; the input reads as it did. -/
def queueMeanUptoRow : OpenClaim := { program := "ytpbnmfoecmhnnaa", sum := "0a3dcd1b6088896af6a7a7d5a59579df194e4d86ce1d08f6bc88c9c6324a7c99", func := "diapause/diapauselaw07.QueueMean", spec := "queueMean", unfollowed := true, recurses := true, apart := false, narrowed := true }
def QueueMeanUptoSaid : Prop := queueMeanUptoRow.holds Try.pinned (OpenSpec.upto queueMeanSpec)

/-- 'diapauselaw07.QueueHalves', WHERE WHAT IT READS IS OF BULK AT MOST 1048576: true; the input reads as it did. -/
def queueHalvesUptoRow : OpenClaim := { program := "ytpbnmfoecmhnnaa", sum := "0a3dcd1b6088896af6a7a7d5a59579df194e4d86ce1d08f6bc88c9c6324a7c99", func := "diapause/diapauselaw07.QueueHalves", spec := "queueHalves", unfollowed := true, recurses := true, apart := false, narrowed := true }
def QueueHalvesUptoSaid : Prop := queueHalvesUptoRow.holds Try.pinned (OpenSpec.upto queueHalvesSpec)

/-- 'diapauselaw07.QueueJoins', WHERE WHAT IT READS IS OF BULK AT MOST 1048576: true; the input reads as it did. -/
def queueJoinsUptoRow : OpenClaim := { program := "ytpbnmfoecmhnnaa", sum := "0a3dcd1b6088896af6a7a7d5a59579df194e4d86ce1d08f6bc88c9c6324a7c99", func := "diapause/diapauselaw07.QueueJoins", spec := "queueJoins", unfollowed := true, recurses := true, apart := false, narrowed := true }
def QueueJoinsUptoSaid : Prop := queueJoinsUptoRow.holds Try.pinned (OpenSpec.upto queueJoinsSpec)

end Rows
end Go.Proofs.Ytpbnmfoecmhnnaa
