/-
  DERIVED. GIVEN WITH THE SEED: THE CARDS: each row of YtomoiihckbdjdaaGreatDoorRows.lean that lists a variable, with what it lists TIED to the program's text (the seventh form; the later family's looks); each row that meets fmt, with fmt's text TOLD by the authors' own Lean function (tested against real Go, not proved from fmt's source: count such statements apart). THE CARD IS WHAT COUNTS. Prove the row's statement (the work); the ties are given (YtomoiihckbdjdaaGreatDoorTie.lean); close each card by the builder's one call (the guide's Derived/Test/ToyasCard.lean, 'card_holds'). Laid BY PROGRAM, IN A SANDBOX (cutbox-door.mjs). By AI agents, Wed Nov 11 2026. No macro, syntax, notation, axiom, sorry.
-/
import Derived.Test.YtomoiihckbdjdaaGreatDoorRows
import GoSem.ClaimSeven
namespace Go.Proofs.YtomoiihckbdjdaaGreatDoor
namespace Rows

/-- THE TIED CARD OF 'diapauselaw14.ImageTells'. -/
def imageTellsCard : Claim7 := { stood := { row := imageTellsRow, standIns := [], harness := (true, "7ad568ad39ea177cd61bcbfe9ff50c84ddb777c1bd2bed9e9d30f19cba557462"), looks := false }, kinds := [], alts := [], laidByText := true, laidKinds := [.data], laidTests := true, laidLooks := .later }
def ImageTellsCardSaid : Prop := Claim7.holds Tryz.pinned (.plain (OpenSpec.ofChange imageTellsSpec)) imageTellsCard

/-- THE TIED CARD OF 'diapauselaw14.ImageReads'. -/
def imageReadsCard : Claim7 := { stood := { row := imageReadsRow, standIns := [], harness := (true, "7ad568ad39ea177cd61bcbfe9ff50c84ddb777c1bd2bed9e9d30f19cba557462"), looks := false }, kinds := [], alts := [], laidByText := true, laidKinds := [.data], laidTests := true, laidLooks := .later }
def ImageReadsCardSaid : Prop := Claim7.holds Tryz.pinned (.plain (OpenSpec.ofChange imageReadsSpec)) imageReadsCard

/-- THE TIED CARD OF 'diapauselaw14.ImageBack'. -/
def imageBackCard : Claim7 := { stood := { row := imageBackRow, standIns := [], harness := (true, "7ad568ad39ea177cd61bcbfe9ff50c84ddb777c1bd2bed9e9d30f19cba557462"), looks := false }, kinds := [], alts := [], laidByText := true, laidKinds := [.data], laidTests := true, laidLooks := .later }
def ImageBackCardSaid : Prop := Claim7.holds Tryz.pinned (.plain (OpenSpec.ofChange imageBackSpec)) imageBackCard

/-- THE TIED CARD OF 'diapauselaw14.ImageAgain'. -/
def imageAgainCard : Claim7 := { stood := { row := imageAgainRow, standIns := [], harness := (true, "7ad568ad39ea177cd61bcbfe9ff50c84ddb777c1bd2bed9e9d30f19cba557462"), looks := false }, kinds := [], alts := [], laidByText := true, laidKinds := [.data], laidTests := true, laidLooks := .later }
def ImageAgainCardSaid : Prop := Claim7.holds Tryz.pinned (.plain (OpenSpec.ofChange imageAgainSpec)) imageAgainCard

/-- THE TIED CARD OF 'diapauselaw14.ImageBursts'. -/
def imageBurstsCard : Claim7 := { stood := { row := imageBurstsRow, standIns := [], harness := (true, "7ad568ad39ea177cd61bcbfe9ff50c84ddb777c1bd2bed9e9d30f19cba557462"), looks := false }, kinds := [], alts := [], laidByText := true, laidKinds := [.data], laidTests := true, laidLooks := .later }
def ImageBurstsCardSaid : Prop := Claim7.holds Tryz.pinned (.plain (OpenSpec.ofChange imageBurstsSpec)) imageBurstsCard

/-- THE TIED CARD OF 'diapauselaw14.ImageUnlike'. -/
def imageUnlikeCard : Claim7 := { stood := { row := imageUnlikeRow, standIns := [], harness := (true, "7ad568ad39ea177cd61bcbfe9ff50c84ddb777c1bd2bed9e9d30f19cba557462"), looks := false }, kinds := [], alts := [], laidByText := true, laidKinds := [.data], laidTests := true, laidLooks := .later }
def ImageUnlikeCardSaid : Prop := Claim7.holds Tryz.pinned (.plain (OpenSpec.ofChange imageUnlikeSpec)) imageUnlikeCard

/-- THE SECOND FORM's CARD OF 'diapauselaw14.ImageTells'. -/
def imageTellsUptoCard : Claim7 := { stood := { row := imageTellsUptoRow, standIns := [], harness := (true, "7ad568ad39ea177cd61bcbfe9ff50c84ddb777c1bd2bed9e9d30f19cba557462"), looks := false }, kinds := [], alts := [], laidByText := true, laidKinds := [.data], laidTests := true, laidLooks := .later }
def ImageTellsUptoCardSaid : Prop := Claim7.holds Tryz.pinned (.plain (OpenSpec.upto imageTellsSpec)) imageTellsUptoCard

/-- THE SECOND FORM's CARD OF 'diapauselaw14.ImageReads'. -/
def imageReadsUptoCard : Claim7 := { stood := { row := imageReadsUptoRow, standIns := [], harness := (true, "7ad568ad39ea177cd61bcbfe9ff50c84ddb777c1bd2bed9e9d30f19cba557462"), looks := false }, kinds := [], alts := [], laidByText := true, laidKinds := [.data], laidTests := true, laidLooks := .later }
def ImageReadsUptoCardSaid : Prop := Claim7.holds Tryz.pinned (.plain (OpenSpec.upto imageReadsSpec)) imageReadsUptoCard

/-- THE SECOND FORM's CARD OF 'diapauselaw14.ImageBack'. -/
def imageBackUptoCard : Claim7 := { stood := { row := imageBackUptoRow, standIns := [], harness := (true, "7ad568ad39ea177cd61bcbfe9ff50c84ddb777c1bd2bed9e9d30f19cba557462"), looks := false }, kinds := [], alts := [], laidByText := true, laidKinds := [.data], laidTests := true, laidLooks := .later }
def ImageBackUptoCardSaid : Prop := Claim7.holds Tryz.pinned (.plain (OpenSpec.upto imageBackSpec)) imageBackUptoCard

/-- THE SECOND FORM's CARD OF 'diapauselaw14.ImageAgain'. -/
def imageAgainUptoCard : Claim7 := { stood := { row := imageAgainUptoRow, standIns := [], harness := (true, "7ad568ad39ea177cd61bcbfe9ff50c84ddb777c1bd2bed9e9d30f19cba557462"), looks := false }, kinds := [], alts := [], laidByText := true, laidKinds := [.data], laidTests := true, laidLooks := .later }
def ImageAgainUptoCardSaid : Prop := Claim7.holds Tryz.pinned (.plain (OpenSpec.upto imageAgainSpec)) imageAgainUptoCard

/-- THE SECOND FORM's CARD OF 'diapauselaw14.ImageBursts'. -/
def imageBurstsUptoCard : Claim7 := { stood := { row := imageBurstsUptoRow, standIns := [], harness := (true, "7ad568ad39ea177cd61bcbfe9ff50c84ddb777c1bd2bed9e9d30f19cba557462"), looks := false }, kinds := [], alts := [], laidByText := true, laidKinds := [.data], laidTests := true, laidLooks := .later }
def ImageBurstsUptoCardSaid : Prop := Claim7.holds Tryz.pinned (.plain (OpenSpec.upto imageBurstsSpec)) imageBurstsUptoCard

/-- THE SECOND FORM's CARD OF 'diapauselaw14.ImageUnlike'. -/
def imageUnlikeUptoCard : Claim7 := { stood := { row := imageUnlikeUptoRow, standIns := [], harness := (true, "7ad568ad39ea177cd61bcbfe9ff50c84ddb777c1bd2bed9e9d30f19cba557462"), looks := false }, kinds := [], alts := [], laidByText := true, laidKinds := [.data], laidTests := true, laidLooks := .later }
def ImageUnlikeUptoCardSaid : Prop := Claim7.holds Tryz.pinned (.plain (OpenSpec.upto imageUnlikeSpec)) imageUnlikeUptoCard
end Rows
end Go.Proofs.YtomoiihckbdjdaaGreatDoor
