/-
  NARROWER THAN 'FOR EVERY INPUT', by the rows' own cells (each row's printed sentence says how): SlotsCrashes: laid · SlotsBack: laid · SlotsFalls: laid · SlotsRefuses: laid · SlotsIdle: laid.
  DERIVED. THE GIVEN ROWS OF THIS SEAT. 5 by the template 'for every input the law returns true; each argument reads behind the call as it read before'; 0 by the template 'total and deterministic' (their statements: YteficflfmbecbaaDoorTotals.lean).
  GIVEN WITH THE SEED: the statements are not yours to turn. If you find one false, say at which input.
  Laid BY PROGRAM, IN A SANDBOX (cutbox-rows.mjs): the forced cells as the released guide's own fill.sh prints them over the translation 92fe840353cbf276… (all of the seat's roots in one cut). By AI agents, Wed Nov 11 2026. No macro, syntax, notation, axiom, sorry.
-/
import Derived.Test.YteficflfmbecbaaDoorChecked
import GoSem.Claim
import GoSem.ClaimJoined
import GoSem.ClaimMapViews
import Derived.JoinedTies
import Derived.KernelRfl
namespace Go.Proofs.YteficflfmbecbaaDoor
/- THE CELL 'sum', in the pinned program and in every row, IS THE sha256 OF THE DUMP (.gsa) THAT YteficflfmbecbaaDoorProg.lean LOADS. Nothing in Lean hashes anything: it is a label: what it is worth is what the hold of that sum in a sandbox is worth. -/
noncomputable def Tryd.pinned : Pinned := { name := "yteficflfmbecbaadoor", sum := "92fe840353cbf2760fe8dbc330a8f64008ddc5789fb3c37ae231809357a4bcdc", checked := Tryd.checked }
namespace Rows
def none {H : Type} : Left H := { results := [], args := [] }

/- WHAT THE LISTED PACKAGE-LEVEL VARIABLES READ AS WHEN THE CALL BEGINS. Each datum BY PROGRAM (the guide's laid-datum.mjs) off the statement by which the dump's own 'gosem.cut.vars' lays the variable. In a bare row this is a premise. The card (YteficflfmbecbaaDoorCards.lean) ties it to the program's text. -/
def laid_diapause_crc_made {H : Type} : DataW H := .agg [.lit (.int .u32 0), .lit (.int .u32 498536548), .lit (.int .u32 997073096), .lit (.int .u32 651767980), .lit (.int .u32 1994146192), .lit (.int .u32 1802195444), .lit (.int .u32 1303535960), .lit (.int .u32 1342533948), .lit (.int .u32 3988292384), .lit (.int .u32 4027552580), .lit (.int .u32 3604390888), .lit (.int .u32 3412177804), .lit (.int .u32 2607071920), .lit (.int .u32 2262029012), .lit (.int .u32 2685067896), .lit (.int .u32 3183342108)]

/-- 'diapauselaw11.SlotsCrashes': WHATEVER THE INPUT: true; the input reads as it did. -/
def slotsCrashesSpec : ChangeSpec := { name := "slotsCrashes", fn := fun _ => fun
  | [d1, d2, d3, d4] => { results := [.lit (.bool true)], args := [d1, d2, d3, d4] }
  | _ => none }
def slotsCrashesRow : OpenClaim := { program := "yteficflfmbecbaadoor", sum := "92fe840353cbf2760fe8dbc330a8f64008ddc5789fb3c37ae231809357a4bcdc", func := "diapause/diapauselaw11.SlotsCrashes", spec := "slotsCrashes", unfollowed := true, recurses := true, named := ["diapause/crc.made"], apart := false, laid := [("diapause/crc.made", laid_diapause_crc_made)] }
def SlotsCrashesSaid : Prop := slotsCrashesRow.holds Tryd.pinned (OpenSpec.ofChange slotsCrashesSpec)

/-- ITS FALSE NEIGHBOUR: 'it returns false'. Refute it at one input. -/
def slotsCrashesWrong : ChangeSpec := { name := "slotsCrashes", fn := fun _ => fun
  | [d1, d2, d3, d4] => { results := [.lit (.bool false)], args := [d1, d2, d3, d4] }
  | _ => none }
def SlotsCrashesWrongFalsely : Prop := slotsCrashesRow.holds Tryd.pinned (OpenSpec.ofChange slotsCrashesWrong)

/-- 'diapauselaw11.SlotsBack': WHATEVER THE INPUT: true; the input reads as it did. -/
def slotsBackSpec : ChangeSpec := { name := "slotsBack", fn := fun _ => fun
  | [d] => { results := [.lit (.bool true)], args := [d] }
  | _ => none }
def slotsBackRow : OpenClaim := { program := "yteficflfmbecbaadoor", sum := "92fe840353cbf2760fe8dbc330a8f64008ddc5789fb3c37ae231809357a4bcdc", func := "diapause/diapauselaw11.SlotsBack", spec := "slotsBack", unfollowed := true, recurses := true, named := ["diapause/crc.made"], apart := false, laid := [("diapause/crc.made", laid_diapause_crc_made)] }
def SlotsBackSaid : Prop := slotsBackRow.holds Tryd.pinned (OpenSpec.ofChange slotsBackSpec)

/-- ITS FALSE NEIGHBOUR: 'it returns false'. Refute it at one input. -/
def slotsBackWrong : ChangeSpec := { name := "slotsBack", fn := fun _ => fun
  | [d] => { results := [.lit (.bool false)], args := [d] }
  | _ => none }
def SlotsBackWrongFalsely : Prop := slotsBackRow.holds Tryd.pinned (OpenSpec.ofChange slotsBackWrong)

/-- 'diapauselaw11.SlotsFalls': WHATEVER THE INPUT: true; the input reads as it did. -/
def slotsFallsSpec : ChangeSpec := { name := "slotsFalls", fn := fun _ => fun
  | [d1, d2, d3] => { results := [.lit (.bool true)], args := [d1, d2, d3] }
  | _ => none }
def slotsFallsRow : OpenClaim := { program := "yteficflfmbecbaadoor", sum := "92fe840353cbf2760fe8dbc330a8f64008ddc5789fb3c37ae231809357a4bcdc", func := "diapause/diapauselaw11.SlotsFalls", spec := "slotsFalls", unfollowed := true, recurses := true, named := ["diapause/crc.made"], apart := false, laid := [("diapause/crc.made", laid_diapause_crc_made)] }
def SlotsFallsSaid : Prop := slotsFallsRow.holds Tryd.pinned (OpenSpec.ofChange slotsFallsSpec)

/-- ITS FALSE NEIGHBOUR: 'it returns false'. Refute it at one input. -/
def slotsFallsWrong : ChangeSpec := { name := "slotsFalls", fn := fun _ => fun
  | [d1, d2, d3] => { results := [.lit (.bool false)], args := [d1, d2, d3] }
  | _ => none }
def SlotsFallsWrongFalsely : Prop := slotsFallsRow.holds Tryd.pinned (OpenSpec.ofChange slotsFallsWrong)

/-- 'diapauselaw11.SlotsRefuses': WHATEVER THE INPUT: true; the input reads as it did. -/
def slotsRefusesSpec : ChangeSpec := { name := "slotsRefuses", fn := fun _ => fun
  | [d1, d2, d3] => { results := [.lit (.bool true)], args := [d1, d2, d3] }
  | _ => none }
def slotsRefusesRow : OpenClaim := { program := "yteficflfmbecbaadoor", sum := "92fe840353cbf2760fe8dbc330a8f64008ddc5789fb3c37ae231809357a4bcdc", func := "diapause/diapauselaw11.SlotsRefuses", spec := "slotsRefuses", unfollowed := true, recurses := true, named := ["diapause/crc.made"], apart := false, laid := [("diapause/crc.made", laid_diapause_crc_made)] }
def SlotsRefusesSaid : Prop := slotsRefusesRow.holds Tryd.pinned (OpenSpec.ofChange slotsRefusesSpec)

/-- ITS FALSE NEIGHBOUR: 'it returns false'. Refute it at one input. -/
def slotsRefusesWrong : ChangeSpec := { name := "slotsRefuses", fn := fun _ => fun
  | [d1, d2, d3] => { results := [.lit (.bool false)], args := [d1, d2, d3] }
  | _ => none }
def SlotsRefusesWrongFalsely : Prop := slotsRefusesRow.holds Tryd.pinned (OpenSpec.ofChange slotsRefusesWrong)

/-- 'diapauselaw11.SlotsIdle': WHATEVER THE INPUT: true; the input reads as it did. -/
def slotsIdleSpec : ChangeSpec := { name := "slotsIdle", fn := fun _ => fun
  | [d1, d2] => { results := [.lit (.bool true)], args := [d1, d2] }
  | _ => none }
def slotsIdleRow : OpenClaim := { program := "yteficflfmbecbaadoor", sum := "92fe840353cbf2760fe8dbc330a8f64008ddc5789fb3c37ae231809357a4bcdc", func := "diapause/diapauselaw11.SlotsIdle", spec := "slotsIdle", unfollowed := true, recurses := true, named := ["diapause/crc.made"], apart := false, laid := [("diapause/crc.made", laid_diapause_crc_made)] }
def SlotsIdleSaid : Prop := slotsIdleRow.holds Tryd.pinned (OpenSpec.ofChange slotsIdleSpec)

/-- ITS FALSE NEIGHBOUR: 'it returns false'. Refute it at one input. -/
def slotsIdleWrong : ChangeSpec := { name := "slotsIdle", fn := fun _ => fun
  | [d1, d2] => { results := [.lit (.bool false)], args := [d1, d2] }
  | _ => none }
def SlotsIdleWrongFalsely : Prop := slotsIdleRow.holds Tryd.pinned (OpenSpec.ofChange slotsIdleWrong)

/- THE SECOND FORM. 'bulk': how many values and letters a reading holds, each counted each time it is reached (what is shared counts as often as it is met; a slice's spare places count too). A statement '..UptoSaid' is the law's where the arguments, and the package variables that the reading takes, are together of bulk at most 1048576: NARROWER than '..Said'. Prove '..Said' where nothing that the law and all that it calls make is longer than what came in: it says more and counts as full. Else prove '..UptoSaid'. A law counts once. -/
mutual
def uptoBulk {H : Type} : DataW H → Nat
  | .lit (.string bytes) => bytes.length + 1
  | .lit _ => 1
  | .nil => 1
  | .ptr d => uptoBulk d + 1
  | .slice elems spare => uptoBulkAll elems + uptoBulkAll spare + 1
  | .agg parts => uptoBulkAll parts + 1
  | .iface _ d => uptoBulk d + 1
  | .map entries => uptoBulkEntries entries + 1
  | .held _ => 1
def uptoBulkAll {H : Type} : List (DataW H) → Nat
  | [] => 0
  | d :: r => uptoBulk d + uptoBulkAll r
def uptoBulkEntries {H : Type} : List (Lit × DataW H) → Nat
  | [] => 0
  | x :: r => uptoBulkEntry x + uptoBulkEntries r
def uptoBulkEntry {H : Type} : Lit × DataW H → Nat
  | (.string bytes, d) => bytes.length + uptoBulk d + 1
  | (_, d) => uptoBulk d + 1
 end
def uptoSmall : (H : Type) → List (DataW H) → Bool := fun _ ds => decide (uptoBulkAll ds ≤ 1048576)
def OpenSpec.upto (s : _root_.Go.ChangeSpec) : _root_.Go.OpenSpec := { _root_.Go.OpenSpec.ofChange s with cond := some uptoSmall }

/-- 'diapauselaw11.SlotsCrashes', WHERE WHAT IT READS IS OF BULK AT MOST 1048576: true; the input reads as it did. -/
def slotsCrashesUptoRow : OpenClaim := { program := "yteficflfmbecbaadoor", sum := "92fe840353cbf2760fe8dbc330a8f64008ddc5789fb3c37ae231809357a4bcdc", func := "diapause/diapauselaw11.SlotsCrashes", spec := "slotsCrashes", unfollowed := true, recurses := true, named := ["diapause/crc.made"], apart := false, laid := [("diapause/crc.made", laid_diapause_crc_made)], narrowed := true }
def SlotsCrashesUptoSaid : Prop := slotsCrashesUptoRow.holds Tryd.pinned (OpenSpec.upto slotsCrashesSpec)

/-- 'diapauselaw11.SlotsBack', WHERE WHAT IT READS IS OF BULK AT MOST 1048576: true; the input reads as it did. -/
def slotsBackUptoRow : OpenClaim := { program := "yteficflfmbecbaadoor", sum := "92fe840353cbf2760fe8dbc330a8f64008ddc5789fb3c37ae231809357a4bcdc", func := "diapause/diapauselaw11.SlotsBack", spec := "slotsBack", unfollowed := true, recurses := true, named := ["diapause/crc.made"], apart := false, laid := [("diapause/crc.made", laid_diapause_crc_made)], narrowed := true }
def SlotsBackUptoSaid : Prop := slotsBackUptoRow.holds Tryd.pinned (OpenSpec.upto slotsBackSpec)

/-- 'diapauselaw11.SlotsFalls', WHERE WHAT IT READS IS OF BULK AT MOST 1048576: true; the input reads as it did. -/
def slotsFallsUptoRow : OpenClaim := { program := "yteficflfmbecbaadoor", sum := "92fe840353cbf2760fe8dbc330a8f64008ddc5789fb3c37ae231809357a4bcdc", func := "diapause/diapauselaw11.SlotsFalls", spec := "slotsFalls", unfollowed := true, recurses := true, named := ["diapause/crc.made"], apart := false, laid := [("diapause/crc.made", laid_diapause_crc_made)], narrowed := true }
def SlotsFallsUptoSaid : Prop := slotsFallsUptoRow.holds Tryd.pinned (OpenSpec.upto slotsFallsSpec)

/-- 'diapauselaw11.SlotsRefuses', WHERE WHAT IT READS IS OF BULK AT MOST 1048576: true; the input reads as it did. -/
def slotsRefusesUptoRow : OpenClaim := { program := "yteficflfmbecbaadoor", sum := "92fe840353cbf2760fe8dbc330a8f64008ddc5789fb3c37ae231809357a4bcdc", func := "diapause/diapauselaw11.SlotsRefuses", spec := "slotsRefuses", unfollowed := true, recurses := true, named := ["diapause/crc.made"], apart := false, laid := [("diapause/crc.made", laid_diapause_crc_made)], narrowed := true }
def SlotsRefusesUptoSaid : Prop := slotsRefusesUptoRow.holds Tryd.pinned (OpenSpec.upto slotsRefusesSpec)

/-- 'diapauselaw11.SlotsIdle', WHERE WHAT IT READS IS OF BULK AT MOST 1048576: true; the input reads as it did. -/
def slotsIdleUptoRow : OpenClaim := { program := "yteficflfmbecbaadoor", sum := "92fe840353cbf2760fe8dbc330a8f64008ddc5789fb3c37ae231809357a4bcdc", func := "diapause/diapauselaw11.SlotsIdle", spec := "slotsIdle", unfollowed := true, recurses := true, named := ["diapause/crc.made"], apart := false, laid := [("diapause/crc.made", laid_diapause_crc_made)], narrowed := true }
def SlotsIdleUptoSaid : Prop := slotsIdleUptoRow.holds Tryd.pinned (OpenSpec.upto slotsIdleSpec)

end Rows
end Go.Proofs.YteficflfmbecbaaDoor
