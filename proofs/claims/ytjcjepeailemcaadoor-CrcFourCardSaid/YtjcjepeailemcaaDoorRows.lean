/-
  NARROWER THAN 'FOR EVERY INPUT', by the rows' own cells (each row's printed sentence says how): CrcTells: laid · CrcZeros: laid · CrcParts: laid · CrcMends: laid · CrcBursts: laid · CrcFour: laid · CrcThree: laid.
  DERIVED. THE GIVEN ROWS OF THIS SEAT. 7 by the template 'for every input the law returns true; each argument reads behind the call as it read before'; 0 by the template 'total and deterministic' (their statements: YtjcjepeailemcaaDoorTotals.lean).
  GIVEN WITH THE SEED: the statements are not yours to turn. If you find one false, say at which input.
  Laid BY PROGRAM, IN A SANDBOX (cutbox-rows.mjs): the forced cells as the released guide's own fill.sh prints them over the translation 70140ef5298961cb… (all of the seat's roots in one cut). By AI agents, Wed Nov 11 2026. No macro, syntax, notation, axiom, sorry.
-/
import Derived.Test.YtjcjepeailemcaaDoorChecked
import GoSem.Claim
import GoSem.ClaimJoined
import GoSem.ClaimMapViews
import Derived.JoinedTies
import Derived.KernelRfl
namespace Go.Proofs.YtjcjepeailemcaaDoor
/- THE CELL 'sum', in the pinned program and in every row, IS THE sha256 OF THE DUMP (.gsa) THAT YtjcjepeailemcaaDoorProg.lean LOADS. Nothing in Lean hashes anything: it is a label: what it is worth is what the hold of that sum in a sandbox is worth. -/
noncomputable def Tryd.pinned : Pinned := { name := "ytjcjepeailemcaadoor", sum := "70140ef5298961cba3bc95d99172ce1e6971daa842af0180fc590879fdfeddd0", checked := Tryd.checked }
namespace Rows
def none {H : Type} : Left H := { results := [], args := [] }

/- WHAT THE LISTED PACKAGE-LEVEL VARIABLES READ AS WHEN THE CALL BEGINS. Each datum BY PROGRAM (the guide's laid-datum.mjs) off the statement by which the dump's own 'gosem.cut.vars' lays the variable. In a bare row this is a premise. The card (YtjcjepeailemcaaDoorCards.lean) ties it to the program's text. -/
def laid_diapause_crc_made {H : Type} : DataW H := .agg [.lit (.int .u32 0), .lit (.int .u32 498536548), .lit (.int .u32 997073096), .lit (.int .u32 651767980), .lit (.int .u32 1994146192), .lit (.int .u32 1802195444), .lit (.int .u32 1303535960), .lit (.int .u32 1342533948), .lit (.int .u32 3988292384), .lit (.int .u32 4027552580), .lit (.int .u32 3604390888), .lit (.int .u32 3412177804), .lit (.int .u32 2607071920), .lit (.int .u32 2262029012), .lit (.int .u32 2685067896), .lit (.int .u32 3183342108)]

/-- 'diapauselaw02.CrcTells': WHATEVER THE INPUT: true; the input reads as it did. -/
def crcTellsSpec : ChangeSpec := { name := "crcTells", fn := fun _ => fun
  | [d1, d2] => { results := [.lit (.bool true)], args := [d1, d2] }
  | _ => none }
def crcTellsRow : OpenClaim := { program := "ytjcjepeailemcaadoor", sum := "70140ef5298961cba3bc95d99172ce1e6971daa842af0180fc590879fdfeddd0", func := "diapause/diapauselaw02.CrcTells", spec := "crcTells", named := ["diapause/crc.made"], apart := false, laid := [("diapause/crc.made", laid_diapause_crc_made)] }
def CrcTellsSaid : Prop := crcTellsRow.holds Tryd.pinned (OpenSpec.ofChange crcTellsSpec)

/-- ITS FALSE NEIGHBOUR: 'it returns false'. Refute it at one input. -/
def crcTellsWrong : ChangeSpec := { name := "crcTells", fn := fun _ => fun
  | [d1, d2] => { results := [.lit (.bool false)], args := [d1, d2] }
  | _ => none }
def CrcTellsWrongFalsely : Prop := crcTellsRow.holds Tryd.pinned (OpenSpec.ofChange crcTellsWrong)

/-- 'diapauselaw02.CrcZeros': WHATEVER THE INPUT: true; the input reads as it did. -/
def crcZerosSpec : ChangeSpec := { name := "crcZeros", fn := fun _ => fun
  | [d1, d2, d3] => { results := [.lit (.bool true)], args := [d1, d2, d3] }
  | _ => none }
def crcZerosRow : OpenClaim := { program := "ytjcjepeailemcaadoor", sum := "70140ef5298961cba3bc95d99172ce1e6971daa842af0180fc590879fdfeddd0", func := "diapause/diapauselaw02.CrcZeros", spec := "crcZeros", named := ["diapause/crc.made"], apart := false, laid := [("diapause/crc.made", laid_diapause_crc_made)] }
def CrcZerosSaid : Prop := crcZerosRow.holds Tryd.pinned (OpenSpec.ofChange crcZerosSpec)

/-- ITS FALSE NEIGHBOUR: 'it returns false'. Refute it at one input. -/
def crcZerosWrong : ChangeSpec := { name := "crcZeros", fn := fun _ => fun
  | [d1, d2, d3] => { results := [.lit (.bool false)], args := [d1, d2, d3] }
  | _ => none }
def CrcZerosWrongFalsely : Prop := crcZerosRow.holds Tryd.pinned (OpenSpec.ofChange crcZerosWrong)

/-- 'diapauselaw02.CrcParts': WHATEVER THE INPUT: true; the input reads as it did. -/
def crcPartsSpec : ChangeSpec := { name := "crcParts", fn := fun _ => fun
  | [d1, d2] => { results := [.lit (.bool true)], args := [d1, d2] }
  | _ => none }
def crcPartsRow : OpenClaim := { program := "ytjcjepeailemcaadoor", sum := "70140ef5298961cba3bc95d99172ce1e6971daa842af0180fc590879fdfeddd0", func := "diapause/diapauselaw02.CrcParts", spec := "crcParts", named := ["diapause/crc.made"], apart := false, laid := [("diapause/crc.made", laid_diapause_crc_made)] }
def CrcPartsSaid : Prop := crcPartsRow.holds Tryd.pinned (OpenSpec.ofChange crcPartsSpec)

/-- ITS FALSE NEIGHBOUR: 'it returns false'. Refute it at one input. -/
def crcPartsWrong : ChangeSpec := { name := "crcParts", fn := fun _ => fun
  | [d1, d2] => { results := [.lit (.bool false)], args := [d1, d2] }
  | _ => none }
def CrcPartsWrongFalsely : Prop := crcPartsRow.holds Tryd.pinned (OpenSpec.ofChange crcPartsWrong)

/-- 'diapauselaw02.CrcMends': WHATEVER THE INPUT: true; the input reads as it did. -/
def crcMendsSpec : ChangeSpec := { name := "crcMends", fn := fun _ => fun
  | [d1, d2, d3] => { results := [.lit (.bool true)], args := [d1, d2, d3] }
  | _ => none }
def crcMendsRow : OpenClaim := { program := "ytjcjepeailemcaadoor", sum := "70140ef5298961cba3bc95d99172ce1e6971daa842af0180fc590879fdfeddd0", func := "diapause/diapauselaw02.CrcMends", spec := "crcMends", named := ["diapause/crc.made"], apart := false, laid := [("diapause/crc.made", laid_diapause_crc_made)] }
def CrcMendsSaid : Prop := crcMendsRow.holds Tryd.pinned (OpenSpec.ofChange crcMendsSpec)

/-- ITS FALSE NEIGHBOUR: 'it returns false'. Refute it at one input. -/
def crcMendsWrong : ChangeSpec := { name := "crcMends", fn := fun _ => fun
  | [d1, d2, d3] => { results := [.lit (.bool false)], args := [d1, d2, d3] }
  | _ => none }
def CrcMendsWrongFalsely : Prop := crcMendsRow.holds Tryd.pinned (OpenSpec.ofChange crcMendsWrong)

/-- 'diapauselaw02.CrcBursts': WHATEVER THE INPUT: true; the input reads as it did. -/
def crcBurstsSpec : ChangeSpec := { name := "crcBursts", fn := fun _ => fun
  | [d1, d2, d3] => { results := [.lit (.bool true)], args := [d1, d2, d3] }
  | _ => none }
def crcBurstsRow : OpenClaim := { program := "ytjcjepeailemcaadoor", sum := "70140ef5298961cba3bc95d99172ce1e6971daa842af0180fc590879fdfeddd0", func := "diapause/diapauselaw02.CrcBursts", spec := "crcBursts", named := ["diapause/crc.made"], apart := false, laid := [("diapause/crc.made", laid_diapause_crc_made)] }
def CrcBurstsSaid : Prop := crcBurstsRow.holds Tryd.pinned (OpenSpec.ofChange crcBurstsSpec)

/-- ITS FALSE NEIGHBOUR: 'it returns false'. Refute it at one input. -/
def crcBurstsWrong : ChangeSpec := { name := "crcBursts", fn := fun _ => fun
  | [d1, d2, d3] => { results := [.lit (.bool false)], args := [d1, d2, d3] }
  | _ => none }
def CrcBurstsWrongFalsely : Prop := crcBurstsRow.holds Tryd.pinned (OpenSpec.ofChange crcBurstsWrong)

/-- 'diapauselaw02.CrcFour': WHATEVER THE INPUT: true; the input reads as it did. -/
def crcFourSpec : ChangeSpec := { name := "crcFour", fn := fun _ => fun
  | [d1, d2, d3, d4] => { results := [.lit (.bool true)], args := [d1, d2, d3, d4] }
  | _ => none }
def crcFourRow : OpenClaim := { program := "ytjcjepeailemcaadoor", sum := "70140ef5298961cba3bc95d99172ce1e6971daa842af0180fc590879fdfeddd0", func := "diapause/diapauselaw02.CrcFour", spec := "crcFour", named := ["diapause/crc.made"], apart := false, laid := [("diapause/crc.made", laid_diapause_crc_made)] }
def CrcFourSaid : Prop := crcFourRow.holds Tryd.pinned (OpenSpec.ofChange crcFourSpec)

/-- ITS FALSE NEIGHBOUR: 'it returns false'. Refute it at one input. -/
def crcFourWrong : ChangeSpec := { name := "crcFour", fn := fun _ => fun
  | [d1, d2, d3, d4] => { results := [.lit (.bool false)], args := [d1, d2, d3, d4] }
  | _ => none }
def CrcFourWrongFalsely : Prop := crcFourRow.holds Tryd.pinned (OpenSpec.ofChange crcFourWrong)

/-- 'diapauselaw02.CrcThree': WHATEVER THE INPUT: true; the input reads as it did. -/
def crcThreeSpec : ChangeSpec := { name := "crcThree", fn := fun _ => fun
  | [d1, d2, d3] => { results := [.lit (.bool true)], args := [d1, d2, d3] }
  | _ => none }
def crcThreeRow : OpenClaim := { program := "ytjcjepeailemcaadoor", sum := "70140ef5298961cba3bc95d99172ce1e6971daa842af0180fc590879fdfeddd0", func := "diapause/diapauselaw02.CrcThree", spec := "crcThree", named := ["diapause/crc.made"], apart := false, laid := [("diapause/crc.made", laid_diapause_crc_made)] }
def CrcThreeSaid : Prop := crcThreeRow.holds Tryd.pinned (OpenSpec.ofChange crcThreeSpec)

/-- ITS FALSE NEIGHBOUR: 'it returns false'. Refute it at one input. -/
def crcThreeWrong : ChangeSpec := { name := "crcThree", fn := fun _ => fun
  | [d1, d2, d3] => { results := [.lit (.bool false)], args := [d1, d2, d3] }
  | _ => none }
def CrcThreeWrongFalsely : Prop := crcThreeRow.holds Tryd.pinned (OpenSpec.ofChange crcThreeWrong)

/- THE SECOND FORM. 'bulk': how many values and letters a reading holds, each counted each time it is reached (what is shared counts as often as it is met; a slice's spare places count too). A statement '..UptoSaid' is the law's where the arguments, and the package variables that the reading takes, are together of bulk at most 1048576: NARROWER than '..Said'. Prove '..Said' where nothing that the law and all that it calls make is longer than what came in: it says more and counts as full. Else prove '..UptoSaid'. A law counts once. -/
mutual
def uptoBulk {H : Type} : DataW H → Nat
  | .lit (.string bytes) => bytes.length + 1
  | .lit _ => 1
  | .nil => 1
  | .ptr d => uptoBulk d + 1
  | .slice elems spare => uptoBulkAll elems + uptoBulkAll spare + 1
  | .agg parts => uptoBulkAll parts + 1
  | .iface _ d => uptoBulk d + 1
  | .map entries => uptoBulkEntries entries + 1
  | .held _ => 1
def uptoBulkAll {H : Type} : List (DataW H) → Nat
  | [] => 0
  | d :: r => uptoBulk d + uptoBulkAll r
def uptoBulkEntries {H : Type} : List (Lit × DataW H) → Nat
  | [] => 0
  | x :: r => uptoBulkEntry x + uptoBulkEntries r
def uptoBulkEntry {H : Type} : Lit × DataW H → Nat
  | (.string bytes, d) => bytes.length + uptoBulk d + 1
  | (_, d) => uptoBulk d + 1
 end
def uptoSmall : (H : Type) → List (DataW H) → Bool := fun _ ds => decide (uptoBulkAll ds ≤ 1048576)
def OpenSpec.upto (s : _root_.Go.ChangeSpec) : _root_.Go.OpenSpec := { _root_.Go.OpenSpec.ofChange s with cond := some uptoSmall }

/-- 'diapauselaw02.CrcTells', WHERE WHAT IT READS IS OF BULK AT MOST 1048576: true; the input reads as it did. -/
def crcTellsUptoRow : OpenClaim := { program := "ytjcjepeailemcaadoor", sum := "70140ef5298961cba3bc95d99172ce1e6971daa842af0180fc590879fdfeddd0", func := "diapause/diapauselaw02.CrcTells", spec := "crcTells", named := ["diapause/crc.made"], apart := false, laid := [("diapause/crc.made", laid_diapause_crc_made)], narrowed := true }
def CrcTellsUptoSaid : Prop := crcTellsUptoRow.holds Tryd.pinned (OpenSpec.upto crcTellsSpec)

/-- 'diapauselaw02.CrcZeros', WHERE WHAT IT READS IS OF BULK AT MOST 1048576: true; the input reads as it did. -/
def crcZerosUptoRow : OpenClaim := { program := "ytjcjepeailemcaadoor", sum := "70140ef5298961cba3bc95d99172ce1e6971daa842af0180fc590879fdfeddd0", func := "diapause/diapauselaw02.CrcZeros", spec := "crcZeros", named := ["diapause/crc.made"], apart := false, laid := [("diapause/crc.made", laid_diapause_crc_made)], narrowed := true }
def CrcZerosUptoSaid : Prop := crcZerosUptoRow.holds Tryd.pinned (OpenSpec.upto crcZerosSpec)

/-- 'diapauselaw02.CrcParts', WHERE WHAT IT READS IS OF BULK AT MOST 1048576: true; the input reads as it did. -/
def crcPartsUptoRow : OpenClaim := { program := "ytjcjepeailemcaadoor", sum := "70140ef5298961cba3bc95d99172ce1e6971daa842af0180fc590879fdfeddd0", func := "diapause/diapauselaw02.CrcParts", spec := "crcParts", named := ["diapause/crc.made"], apart := false, laid := [("diapause/crc.made", laid_diapause_crc_made)], narrowed := true }
def CrcPartsUptoSaid : Prop := crcPartsUptoRow.holds Tryd.pinned (OpenSpec.upto crcPartsSpec)

/-- 'diapauselaw02.CrcMends', WHERE WHAT IT READS IS OF BULK AT MOST 1048576: true; the input reads as it did. -/
def crcMendsUptoRow : OpenClaim := { program := "ytjcjepeailemcaadoor", sum := "70140ef5298961cba3bc95d99172ce1e6971daa842af0180fc590879fdfeddd0", func := "diapause/diapauselaw02.CrcMends", spec := "crcMends", named := ["diapause/crc.made"], apart := false, laid := [("diapause/crc.made", laid_diapause_crc_made)], narrowed := true }
def CrcMendsUptoSaid : Prop := crcMendsUptoRow.holds Tryd.pinned (OpenSpec.upto crcMendsSpec)

/-- 'diapauselaw02.CrcBursts', WHERE WHAT IT READS IS OF BULK AT MOST 1048576: true; the input reads as it did. -/
def crcBurstsUptoRow : OpenClaim := { program := "ytjcjepeailemcaadoor", sum := "70140ef5298961cba3bc95d99172ce1e6971daa842af0180fc590879fdfeddd0", func := "diapause/diapauselaw02.CrcBursts", spec := "crcBursts", named := ["diapause/crc.made"], apart := false, laid := [("diapause/crc.made", laid_diapause_crc_made)], narrowed := true }
def CrcBurstsUptoSaid : Prop := crcBurstsUptoRow.holds Tryd.pinned (OpenSpec.upto crcBurstsSpec)

/-- 'diapauselaw02.CrcFour', WHERE WHAT IT READS IS OF BULK AT MOST 1048576: true; the input reads as it did. -/
def crcFourUptoRow : OpenClaim := { program := "ytjcjepeailemcaadoor", sum := "70140ef5298961cba3bc95d99172ce1e6971daa842af0180fc590879fdfeddd0", func := "diapause/diapauselaw02.CrcFour", spec := "crcFour", named := ["diapause/crc.made"], apart := false, laid := [("diapause/crc.made", laid_diapause_crc_made)], narrowed := true }
def CrcFourUptoSaid : Prop := crcFourUptoRow.holds Tryd.pinned (OpenSpec.upto crcFourSpec)

/-- 'diapauselaw02.CrcThree', WHERE WHAT IT READS IS OF BULK AT MOST 1048576: true; the input reads as it did. -/
def crcThreeUptoRow : OpenClaim := { program := "ytjcjepeailemcaadoor", sum := "70140ef5298961cba3bc95d99172ce1e6971daa842af0180fc590879fdfeddd0", func := "diapause/diapauselaw02.CrcThree", spec := "crcThree", named := ["diapause/crc.made"], apart := false, laid := [("diapause/crc.made", laid_diapause_crc_made)], narrowed := true }
def CrcThreeUptoSaid : Prop := crcThreeUptoRow.holds Tryd.pinned (OpenSpec.upto crcThreeSpec)

end Rows
end Go.Proofs.YtjcjepeailemcaaDoor
