/-
  DERIVED. GIVEN WITH THE SEED: THE CARDS: each row of YteficflfmbecbaaDoorRows.lean that lists a variable, with what it lists TIED to the program's text (the seventh form; the later family's looks); each row that meets fmt, with fmt's text TOLD by the authors' own Lean function (tested against real Go, not proved from fmt's source: count such statements apart). THE CARD IS WHAT COUNTS. Prove the row's statement (the work); the ties are given (YteficflfmbecbaaDoorTie.lean); close each card by the builder's one call (the guide's Derived/Test/ToyasCard.lean, 'card_holds'). Laid BY PROGRAM, IN A SANDBOX (cutbox-door.mjs). By AI agents, Wed Nov 11 2026. No macro, syntax, notation, axiom, sorry.
-/
import Derived.Test.YteficflfmbecbaaDoorRows
import GoSem.ClaimSeven
namespace Go.Proofs.YteficflfmbecbaaDoor
namespace Rows

/-- THE TIED CARD OF 'diapauselaw11.SlotsCrashes'. -/
def slotsCrashesCard : Claim7 := { stood := { row := slotsCrashesRow, standIns := [], harness := (true, "f4426210a853ff9d7946d08fc60b4f16b4cb935290f1d510c32715fa86623862"), looks := false }, kinds := [], alts := [], laidByText := true, laidKinds := [.data], laidTests := true, laidLooks := .later }
def SlotsCrashesCardSaid : Prop := Claim7.holds Tryd.pinned (.plain (OpenSpec.ofChange slotsCrashesSpec)) slotsCrashesCard

/-- THE TIED CARD OF 'diapauselaw11.SlotsBack'. -/
def slotsBackCard : Claim7 := { stood := { row := slotsBackRow, standIns := [], harness := (true, "f4426210a853ff9d7946d08fc60b4f16b4cb935290f1d510c32715fa86623862"), looks := false }, kinds := [], alts := [], laidByText := true, laidKinds := [.data], laidTests := true, laidLooks := .later }
def SlotsBackCardSaid : Prop := Claim7.holds Tryd.pinned (.plain (OpenSpec.ofChange slotsBackSpec)) slotsBackCard

/-- THE TIED CARD OF 'diapauselaw11.SlotsFalls'. -/
def slotsFallsCard : Claim7 := { stood := { row := slotsFallsRow, standIns := [], harness := (true, "f4426210a853ff9d7946d08fc60b4f16b4cb935290f1d510c32715fa86623862"), looks := false }, kinds := [], alts := [], laidByText := true, laidKinds := [.data], laidTests := true, laidLooks := .later }
def SlotsFallsCardSaid : Prop := Claim7.holds Tryd.pinned (.plain (OpenSpec.ofChange slotsFallsSpec)) slotsFallsCard

/-- THE TIED CARD OF 'diapauselaw11.SlotsRefuses'. -/
def slotsRefusesCard : Claim7 := { stood := { row := slotsRefusesRow, standIns := [], harness := (true, "f4426210a853ff9d7946d08fc60b4f16b4cb935290f1d510c32715fa86623862"), looks := false }, kinds := [], alts := [], laidByText := true, laidKinds := [.data], laidTests := true, laidLooks := .later }
def SlotsRefusesCardSaid : Prop := Claim7.holds Tryd.pinned (.plain (OpenSpec.ofChange slotsRefusesSpec)) slotsRefusesCard

/-- THE TIED CARD OF 'diapauselaw11.SlotsIdle'. -/
def slotsIdleCard : Claim7 := { stood := { row := slotsIdleRow, standIns := [], harness := (true, "f4426210a853ff9d7946d08fc60b4f16b4cb935290f1d510c32715fa86623862"), looks := false }, kinds := [], alts := [], laidByText := true, laidKinds := [.data], laidTests := true, laidLooks := .later }
def SlotsIdleCardSaid : Prop := Claim7.holds Tryd.pinned (.plain (OpenSpec.ofChange slotsIdleSpec)) slotsIdleCard

/-- THE SECOND FORM's CARD OF 'diapauselaw11.SlotsCrashes'. -/
def slotsCrashesUptoCard : Claim7 := { stood := { row := slotsCrashesUptoRow, standIns := [], harness := (true, "f4426210a853ff9d7946d08fc60b4f16b4cb935290f1d510c32715fa86623862"), looks := false }, kinds := [], alts := [], laidByText := true, laidKinds := [.data], laidTests := true, laidLooks := .later }
def SlotsCrashesUptoCardSaid : Prop := Claim7.holds Tryd.pinned (.plain (OpenSpec.upto slotsCrashesSpec)) slotsCrashesUptoCard

/-- THE SECOND FORM's CARD OF 'diapauselaw11.SlotsBack'. -/
def slotsBackUptoCard : Claim7 := { stood := { row := slotsBackUptoRow, standIns := [], harness := (true, "f4426210a853ff9d7946d08fc60b4f16b4cb935290f1d510c32715fa86623862"), looks := false }, kinds := [], alts := [], laidByText := true, laidKinds := [.data], laidTests := true, laidLooks := .later }
def SlotsBackUptoCardSaid : Prop := Claim7.holds Tryd.pinned (.plain (OpenSpec.upto slotsBackSpec)) slotsBackUptoCard

/-- THE SECOND FORM's CARD OF 'diapauselaw11.SlotsFalls'. -/
def slotsFallsUptoCard : Claim7 := { stood := { row := slotsFallsUptoRow, standIns := [], harness := (true, "f4426210a853ff9d7946d08fc60b4f16b4cb935290f1d510c32715fa86623862"), looks := false }, kinds := [], alts := [], laidByText := true, laidKinds := [.data], laidTests := true, laidLooks := .later }
def SlotsFallsUptoCardSaid : Prop := Claim7.holds Tryd.pinned (.plain (OpenSpec.upto slotsFallsSpec)) slotsFallsUptoCard

/-- THE SECOND FORM's CARD OF 'diapauselaw11.SlotsRefuses'. -/
def slotsRefusesUptoCard : Claim7 := { stood := { row := slotsRefusesUptoRow, standIns := [], harness := (true, "f4426210a853ff9d7946d08fc60b4f16b4cb935290f1d510c32715fa86623862"), looks := false }, kinds := [], alts := [], laidByText := true, laidKinds := [.data], laidTests := true, laidLooks := .later }
def SlotsRefusesUptoCardSaid : Prop := Claim7.holds Tryd.pinned (.plain (OpenSpec.upto slotsRefusesSpec)) slotsRefusesUptoCard

/-- THE SECOND FORM's CARD OF 'diapauselaw11.SlotsIdle'. -/
def slotsIdleUptoCard : Claim7 := { stood := { row := slotsIdleUptoRow, standIns := [], harness := (true, "f4426210a853ff9d7946d08fc60b4f16b4cb935290f1d510c32715fa86623862"), looks := false }, kinds := [], alts := [], laidByText := true, laidKinds := [.data], laidTests := true, laidLooks := .later }
def SlotsIdleUptoCardSaid : Prop := Claim7.holds Tryd.pinned (.plain (OpenSpec.upto slotsIdleSpec)) slotsIdleUptoCard
end Rows
end Go.Proofs.YteficflfmbecbaaDoor
