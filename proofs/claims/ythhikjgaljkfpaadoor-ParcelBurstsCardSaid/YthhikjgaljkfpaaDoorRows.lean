/-
  NARROWER THAN 'FOR EVERY INPUT', by the rows' own cells (each row's printed sentence says how): ParcelPacks: laid · ParcelReads: laid · ParcelBack: laid · ParcelBursts: laid · ParcelSizes: laid · ParcelFinds: laid.
  DERIVED. THE GIVEN ROWS OF THIS SEAT. 6 by the template 'for every input the law returns true; each argument reads behind the call as it read before'; 0 by the template 'total and deterministic' (their statements: YthhikjgaljkfpaaDoorTotals.lean).
  GIVEN WITH THE SEED: the statements are not yours to turn. If you find one false, say at which input.
  Laid BY PROGRAM, IN A SANDBOX (cutbox-rows.mjs): the forced cells as the released guide's own fill.sh prints them over the translation e8261c77ba13dfee… (all of the seat's roots in one cut). By AI agents, Wed Nov 11 2026. No macro, syntax, notation, axiom, sorry.
-/
import Derived.Test.YthhikjgaljkfpaaDoorChecked
import GoSem.Claim
import GoSem.ClaimJoined
import GoSem.ClaimMapViews
import Derived.JoinedTies
import Derived.KernelRfl
namespace Go.Proofs.YthhikjgaljkfpaaDoor
/- THE CELL 'sum', in the pinned program and in every row, IS THE sha256 OF THE DUMP (.gsa) THAT YthhikjgaljkfpaaDoorProg.lean LOADS. Nothing in Lean hashes anything: it is a label: what it is worth is what the hold of that sum in a sandbox is worth. -/
noncomputable def Tryd.pinned : Pinned := { name := "ythhikjgaljkfpaadoor", sum := "e8261c77ba13dfee6b943c7afa7c86f151d5c2c2c8a36e0a7b15ade5b6147188", checked := Tryd.checked }
namespace Rows
def none {H : Type} : Left H := { results := [], args := [] }

/- WHAT THE LISTED PACKAGE-LEVEL VARIABLES READ AS WHEN THE CALL BEGINS. Each datum BY PROGRAM (the guide's laid-datum.mjs) off the statement by which the dump's own 'gosem.cut.vars' lays the variable. In a bare row this is a premise. The card (YthhikjgaljkfpaaDoorCards.lean) ties it to the program's text. -/
def laid_diapause_crc_made {H : Type} : DataW H := .agg [.lit (.int .u32 0), .lit (.int .u32 498536548), .lit (.int .u32 997073096), .lit (.int .u32 651767980), .lit (.int .u32 1994146192), .lit (.int .u32 1802195444), .lit (.int .u32 1303535960), .lit (.int .u32 1342533948), .lit (.int .u32 3988292384), .lit (.int .u32 4027552580), .lit (.int .u32 3604390888), .lit (.int .u32 3412177804), .lit (.int .u32 2607071920), .lit (.int .u32 2262029012), .lit (.int .u32 2685067896), .lit (.int .u32 3183342108)]

/-- 'diapauselaw10.ParcelPacks': WHATEVER THE INPUT: true; the input reads as it did. -/
def parcelPacksSpec : ChangeSpec := { name := "parcelPacks", fn := fun _ => fun
  | [d1, d2] => { results := [.lit (.bool true)], args := [d1, d2] }
  | _ => none }
def parcelPacksRow : OpenClaim := { program := "ythhikjgaljkfpaadoor", sum := "e8261c77ba13dfee6b943c7afa7c86f151d5c2c2c8a36e0a7b15ade5b6147188", func := "diapause/diapauselaw10.ParcelPacks", spec := "parcelPacks", unfollowed := true, recurses := true, named := ["diapause/crc.made"], apart := false, laid := [("diapause/crc.made", laid_diapause_crc_made)] }
def ParcelPacksSaid : Prop := parcelPacksRow.holds Tryd.pinned (OpenSpec.ofChange parcelPacksSpec)

/-- ITS FALSE NEIGHBOUR: 'it returns false'. Refute it at one input. -/
def parcelPacksWrong : ChangeSpec := { name := "parcelPacks", fn := fun _ => fun
  | [d1, d2] => { results := [.lit (.bool false)], args := [d1, d2] }
  | _ => none }
def ParcelPacksWrongFalsely : Prop := parcelPacksRow.holds Tryd.pinned (OpenSpec.ofChange parcelPacksWrong)

/-- 'diapauselaw10.ParcelReads': WHATEVER THE INPUT: true; the input reads as it did. -/
def parcelReadsSpec : ChangeSpec := { name := "parcelReads", fn := fun _ => fun
  | [d] => { results := [.lit (.bool true)], args := [d] }
  | _ => none }
def parcelReadsRow : OpenClaim := { program := "ythhikjgaljkfpaadoor", sum := "e8261c77ba13dfee6b943c7afa7c86f151d5c2c2c8a36e0a7b15ade5b6147188", func := "diapause/diapauselaw10.ParcelReads", spec := "parcelReads", unfollowed := true, recurses := true, named := ["diapause/crc.made"], apart := false, laid := [("diapause/crc.made", laid_diapause_crc_made)] }
def ParcelReadsSaid : Prop := parcelReadsRow.holds Tryd.pinned (OpenSpec.ofChange parcelReadsSpec)

/-- ITS FALSE NEIGHBOUR: 'it returns false'. Refute it at one input. -/
def parcelReadsWrong : ChangeSpec := { name := "parcelReads", fn := fun _ => fun
  | [d] => { results := [.lit (.bool false)], args := [d] }
  | _ => none }
def ParcelReadsWrongFalsely : Prop := parcelReadsRow.holds Tryd.pinned (OpenSpec.ofChange parcelReadsWrong)

/-- 'diapauselaw10.ParcelBack': WHATEVER THE INPUT: true; the input reads as it did. -/
def parcelBackSpec : ChangeSpec := { name := "parcelBack", fn := fun _ => fun
  | [d1, d2] => { results := [.lit (.bool true)], args := [d1, d2] }
  | _ => none }
def parcelBackRow : OpenClaim := { program := "ythhikjgaljkfpaadoor", sum := "e8261c77ba13dfee6b943c7afa7c86f151d5c2c2c8a36e0a7b15ade5b6147188", func := "diapause/diapauselaw10.ParcelBack", spec := "parcelBack", unfollowed := true, recurses := true, named := ["diapause/crc.made"], apart := false, laid := [("diapause/crc.made", laid_diapause_crc_made)] }
def ParcelBackSaid : Prop := parcelBackRow.holds Tryd.pinned (OpenSpec.ofChange parcelBackSpec)

/-- ITS FALSE NEIGHBOUR: 'it returns false'. Refute it at one input. -/
def parcelBackWrong : ChangeSpec := { name := "parcelBack", fn := fun _ => fun
  | [d1, d2] => { results := [.lit (.bool false)], args := [d1, d2] }
  | _ => none }
def ParcelBackWrongFalsely : Prop := parcelBackRow.holds Tryd.pinned (OpenSpec.ofChange parcelBackWrong)

/-- 'diapauselaw10.ParcelBursts': WHATEVER THE INPUT: true; the input reads as it did. -/
def parcelBurstsSpec : ChangeSpec := { name := "parcelBursts", fn := fun _ => fun
  | [d1, d2, d3, d4, d5] => { results := [.lit (.bool true)], args := [d1, d2, d3, d4, d5] }
  | _ => none }
def parcelBurstsRow : OpenClaim := { program := "ythhikjgaljkfpaadoor", sum := "e8261c77ba13dfee6b943c7afa7c86f151d5c2c2c8a36e0a7b15ade5b6147188", func := "diapause/diapauselaw10.ParcelBursts", spec := "parcelBursts", unfollowed := true, recurses := true, named := ["diapause/crc.made"], apart := false, laid := [("diapause/crc.made", laid_diapause_crc_made)] }
def ParcelBurstsSaid : Prop := parcelBurstsRow.holds Tryd.pinned (OpenSpec.ofChange parcelBurstsSpec)

/-- ITS FALSE NEIGHBOUR: 'it returns false'. Refute it at one input. -/
def parcelBurstsWrong : ChangeSpec := { name := "parcelBursts", fn := fun _ => fun
  | [d1, d2, d3, d4, d5] => { results := [.lit (.bool false)], args := [d1, d2, d3, d4, d5] }
  | _ => none }
def ParcelBurstsWrongFalsely : Prop := parcelBurstsRow.holds Tryd.pinned (OpenSpec.ofChange parcelBurstsWrong)

/-- 'diapauselaw10.ParcelSizes': WHATEVER THE INPUT: true; the input reads as it did. -/
def parcelSizesSpec : ChangeSpec := { name := "parcelSizes", fn := fun _ => fun
  | [d1, d2] => { results := [.lit (.bool true)], args := [d1, d2] }
  | _ => none }
def parcelSizesRow : OpenClaim := { program := "ythhikjgaljkfpaadoor", sum := "e8261c77ba13dfee6b943c7afa7c86f151d5c2c2c8a36e0a7b15ade5b6147188", func := "diapause/diapauselaw10.ParcelSizes", spec := "parcelSizes", unfollowed := true, recurses := true, named := ["diapause/crc.made"], apart := false, laid := [("diapause/crc.made", laid_diapause_crc_made)] }
def ParcelSizesSaid : Prop := parcelSizesRow.holds Tryd.pinned (OpenSpec.ofChange parcelSizesSpec)

/-- ITS FALSE NEIGHBOUR: 'it returns false'. Refute it at one input. -/
def parcelSizesWrong : ChangeSpec := { name := "parcelSizes", fn := fun _ => fun
  | [d1, d2] => { results := [.lit (.bool false)], args := [d1, d2] }
  | _ => none }
def ParcelSizesWrongFalsely : Prop := parcelSizesRow.holds Tryd.pinned (OpenSpec.ofChange parcelSizesWrong)

/-- 'diapauselaw10.ParcelFinds': WHATEVER THE INPUT: true; the input reads as it did. -/
def parcelFindsSpec : ChangeSpec := { name := "parcelFinds", fn := fun _ => fun
  | [d1, d2] => { results := [.lit (.bool true)], args := [d1, d2] }
  | _ => none }
def parcelFindsRow : OpenClaim := { program := "ythhikjgaljkfpaadoor", sum := "e8261c77ba13dfee6b943c7afa7c86f151d5c2c2c8a36e0a7b15ade5b6147188", func := "diapause/diapauselaw10.ParcelFinds", spec := "parcelFinds", unfollowed := true, recurses := true, named := ["diapause/crc.made"], apart := false, laid := [("diapause/crc.made", laid_diapause_crc_made)] }
def ParcelFindsSaid : Prop := parcelFindsRow.holds Tryd.pinned (OpenSpec.ofChange parcelFindsSpec)

/-- ITS FALSE NEIGHBOUR: 'it returns false'. Refute it at one input. -/
def parcelFindsWrong : ChangeSpec := { name := "parcelFinds", fn := fun _ => fun
  | [d1, d2] => { results := [.lit (.bool false)], args := [d1, d2] }
  | _ => none }
def ParcelFindsWrongFalsely : Prop := parcelFindsRow.holds Tryd.pinned (OpenSpec.ofChange parcelFindsWrong)

/- THE SECOND FORM. 'bulk': how many values and letters a reading holds, each counted each time it is reached (what is shared counts as often as it is met; a slice's spare places count too). A statement '..UptoSaid' is the law's where the arguments, and the package variables that the reading takes, are together of bulk at most 1048576: NARROWER than '..Said'. Prove '..Said' where nothing that the law and all that it calls make is longer than what came in: it says more and counts as full. Else prove '..UptoSaid'. A law counts once. -/
mutual
def uptoBulk {H : Type} : DataW H → Nat
  | .lit (.string bytes) => bytes.length + 1
  | .lit _ => 1
  | .nil => 1
  | .ptr d => uptoBulk d + 1
  | .slice elems spare => uptoBulkAll elems + uptoBulkAll spare + 1
  | .agg parts => uptoBulkAll parts + 1
  | .iface _ d => uptoBulk d + 1
  | .map entries => uptoBulkEntries entries + 1
  | .held _ => 1
def uptoBulkAll {H : Type} : List (DataW H) → Nat
  | [] => 0
  | d :: r => uptoBulk d + uptoBulkAll r
def uptoBulkEntries {H : Type} : List (Lit × DataW H) → Nat
  | [] => 0
  | x :: r => uptoBulkEntry x + uptoBulkEntries r
def uptoBulkEntry {H : Type} : Lit × DataW H → Nat
  | (.string bytes, d) => bytes.length + uptoBulk d + 1
  | (_, d) => uptoBulk d + 1
 end
def uptoSmall : (H : Type) → List (DataW H) → Bool := fun _ ds => decide (uptoBulkAll ds ≤ 1048576)
def OpenSpec.upto (s : _root_.Go.ChangeSpec) : _root_.Go.OpenSpec := { _root_.Go.OpenSpec.ofChange s with cond := some uptoSmall }

/-- 'diapauselaw10.ParcelPacks', WHERE WHAT IT READS IS OF BULK AT MOST 1048576: true; the input reads as it did. -/
def parcelPacksUptoRow : OpenClaim := { program := "ythhikjgaljkfpaadoor", sum := "e8261c77ba13dfee6b943c7afa7c86f151d5c2c2c8a36e0a7b15ade5b6147188", func := "diapause/diapauselaw10.ParcelPacks", spec := "parcelPacks", unfollowed := true, recurses := true, named := ["diapause/crc.made"], apart := false, laid := [("diapause/crc.made", laid_diapause_crc_made)], narrowed := true }
def ParcelPacksUptoSaid : Prop := parcelPacksUptoRow.holds Tryd.pinned (OpenSpec.upto parcelPacksSpec)

/-- 'diapauselaw10.ParcelReads', WHERE WHAT IT READS IS OF BULK AT MOST 1048576: true; the input reads as it did. -/
def parcelReadsUptoRow : OpenClaim := { program := "ythhikjgaljkfpaadoor", sum := "e8261c77ba13dfee6b943c7afa7c86f151d5c2c2c8a36e0a7b15ade5b6147188", func := "diapause/diapauselaw10.ParcelReads", spec := "parcelReads", unfollowed := true, recurses := true, named := ["diapause/crc.made"], apart := false, laid := [("diapause/crc.made", laid_diapause_crc_made)], narrowed := true }
def ParcelReadsUptoSaid : Prop := parcelReadsUptoRow.holds Tryd.pinned (OpenSpec.upto parcelReadsSpec)

/-- 'diapauselaw10.ParcelBack', WHERE WHAT IT READS IS OF BULK AT MOST 1048576: true; the input reads as it did. -/
def parcelBackUptoRow : OpenClaim := { program := "ythhikjgaljkfpaadoor", sum := "e8261c77ba13dfee6b943c7afa7c86f151d5c2c2c8a36e0a7b15ade5b6147188", func := "diapause/diapauselaw10.ParcelBack", spec := "parcelBack", unfollowed := true, recurses := true, named := ["diapause/crc.made"], apart := false, laid := [("diapause/crc.made", laid_diapause_crc_made)], narrowed := true }
def ParcelBackUptoSaid : Prop := parcelBackUptoRow.holds Tryd.pinned (OpenSpec.upto parcelBackSpec)

/-- 'diapauselaw10.ParcelBursts', WHERE WHAT IT READS IS OF BULK AT MOST 1048576: true; the input reads as it did. -/
def parcelBurstsUptoRow : OpenClaim := { program := "ythhikjgaljkfpaadoor", sum := "e8261c77ba13dfee6b943c7afa7c86f151d5c2c2c8a36e0a7b15ade5b6147188", func := "diapause/diapauselaw10.ParcelBursts", spec := "parcelBursts", unfollowed := true, recurses := true, named := ["diapause/crc.made"], apart := false, laid := [("diapause/crc.made", laid_diapause_crc_made)], narrowed := true }
def ParcelBurstsUptoSaid : Prop := parcelBurstsUptoRow.holds Tryd.pinned (OpenSpec.upto parcelBurstsSpec)

/-- 'diapauselaw10.ParcelSizes', WHERE WHAT IT READS IS OF BULK AT MOST 1048576: true; the input reads as it did. -/
def parcelSizesUptoRow : OpenClaim := { program := "ythhikjgaljkfpaadoor", sum := "e8261c77ba13dfee6b943c7afa7c86f151d5c2c2c8a36e0a7b15ade5b6147188", func := "diapause/diapauselaw10.ParcelSizes", spec := "parcelSizes", unfollowed := true, recurses := true, named := ["diapause/crc.made"], apart := false, laid := [("diapause/crc.made", laid_diapause_crc_made)], narrowed := true }
def ParcelSizesUptoSaid : Prop := parcelSizesUptoRow.holds Tryd.pinned (OpenSpec.upto parcelSizesSpec)

/-- 'diapauselaw10.ParcelFinds', WHERE WHAT IT READS IS OF BULK AT MOST 1048576: true; the input reads as it did. -/
def parcelFindsUptoRow : OpenClaim := { program := "ythhikjgaljkfpaadoor", sum := "e8261c77ba13dfee6b943c7afa7c86f151d5c2c2c8a36e0a7b15ade5b6147188", func := "diapause/diapauselaw10.ParcelFinds", spec := "parcelFinds", unfollowed := true, recurses := true, named := ["diapause/crc.made"], apart := false, laid := [("diapause/crc.made", laid_diapause_crc_made)], narrowed := true }
def ParcelFindsUptoSaid : Prop := parcelFindsUptoRow.holds Tryd.pinned (OpenSpec.upto parcelFindsSpec)

end Rows
end Go.Proofs.YthhikjgaljkfpaaDoor
