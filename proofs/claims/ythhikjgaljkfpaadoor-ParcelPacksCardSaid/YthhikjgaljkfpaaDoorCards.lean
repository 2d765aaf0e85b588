/-
  DERIVED. GIVEN WITH THE SEED: THE CARDS: each row of YthhikjgaljkfpaaDoorRows.lean that lists a variable, with what it lists TIED to the program's text (the seventh form; the later family's looks); each row that meets fmt, with fmt's text TOLD by the authors' own Lean function (tested against real Go, not proved from fmt's source: count such statements apart). THE CARD IS WHAT COUNTS. Prove the row's statement (the work); the ties are given (YthhikjgaljkfpaaDoorTie.lean); close each card by the builder's one call (the guide's Derived/Test/ToyasCard.lean, 'card_holds'). Laid BY PROGRAM, IN A SANDBOX (cutbox-door.mjs). By AI agents, Wed Nov 11 2026. No macro, syntax, notation, axiom, sorry.
-/
import Derived.Test.YthhikjgaljkfpaaDoorRows
import GoSem.ClaimSeven
namespace Go.Proofs.YthhikjgaljkfpaaDoor
namespace Rows

/-- THE TIED CARD OF 'diapauselaw10.ParcelPacks'. -/
def parcelPacksCard : Claim7 := { stood := { row := parcelPacksRow, standIns := [], harness := (true, "12b70219b1b85abcc9a72290db427e791522d35261cbe2b9c86dd654feb01740"), looks := false }, kinds := [], alts := [], laidByText := true, laidKinds := [.data], laidTests := true, laidLooks := .later }
def ParcelPacksCardSaid : Prop := Claim7.holds Tryd.pinned (.plain (OpenSpec.ofChange parcelPacksSpec)) parcelPacksCard

/-- THE TIED CARD OF 'diapauselaw10.ParcelReads'. -/
def parcelReadsCard : Claim7 := { stood := { row := parcelReadsRow, standIns := [], harness := (true, "12b70219b1b85abcc9a72290db427e791522d35261cbe2b9c86dd654feb01740"), looks := false }, kinds := [], alts := [], laidByText := true, laidKinds := [.data], laidTests := true, laidLooks := .later }
def ParcelReadsCardSaid : Prop := Claim7.holds Tryd.pinned (.plain (OpenSpec.ofChange parcelReadsSpec)) parcelReadsCard

/-- THE TIED CARD OF 'diapauselaw10.ParcelBack'. -/
def parcelBackCard : Claim7 := { stood := { row := parcelBackRow, standIns := [], harness := (true, "12b70219b1b85abcc9a72290db427e791522d35261cbe2b9c86dd654feb01740"), looks := false }, kinds := [], alts := [], laidByText := true, laidKinds := [.data], laidTests := true, laidLooks := .later }
def ParcelBackCardSaid : Prop := Claim7.holds Tryd.pinned (.plain (OpenSpec.ofChange parcelBackSpec)) parcelBackCard

/-- THE TIED CARD OF 'diapauselaw10.ParcelBursts'. -/
def parcelBurstsCard : Claim7 := { stood := { row := parcelBurstsRow, standIns := [], harness := (true, "12b70219b1b85abcc9a72290db427e791522d35261cbe2b9c86dd654feb01740"), looks := false }, kinds := [], alts := [], laidByText := true, laidKinds := [.data], laidTests := true, laidLooks := .later }
def ParcelBurstsCardSaid : Prop := Claim7.holds Tryd.pinned (.plain (OpenSpec.ofChange parcelBurstsSpec)) parcelBurstsCard

/-- THE TIED CARD OF 'diapauselaw10.ParcelSizes'. -/
def parcelSizesCard : Claim7 := { stood := { row := parcelSizesRow, standIns := [], harness := (true, "12b70219b1b85abcc9a72290db427e791522d35261cbe2b9c86dd654feb01740"), looks := false }, kinds := [], alts := [], laidByText := true, laidKinds := [.data], laidTests := true, laidLooks := .later }
def ParcelSizesCardSaid : Prop := Claim7.holds Tryd.pinned (.plain (OpenSpec.ofChange parcelSizesSpec)) parcelSizesCard

/-- THE TIED CARD OF 'diapauselaw10.ParcelFinds'. -/
def parcelFindsCard : Claim7 := { stood := { row := parcelFindsRow, standIns := [], harness := (true, "12b70219b1b85abcc9a72290db427e791522d35261cbe2b9c86dd654feb01740"), looks := false }, kinds := [], alts := [], laidByText := true, laidKinds := [.data], laidTests := true, laidLooks := .later }
def ParcelFindsCardSaid : Prop := Claim7.holds Tryd.pinned (.plain (OpenSpec.ofChange parcelFindsSpec)) parcelFindsCard

/-- THE SECOND FORM's CARD OF 'diapauselaw10.ParcelPacks'. -/
def parcelPacksUptoCard : Claim7 := { stood := { row := parcelPacksUptoRow, standIns := [], harness := (true, "12b70219b1b85abcc9a72290db427e791522d35261cbe2b9c86dd654feb01740"), looks := false }, kinds := [], alts := [], laidByText := true, laidKinds := [.data], laidTests := true, laidLooks := .later }
def ParcelPacksUptoCardSaid : Prop := Claim7.holds Tryd.pinned (.plain (OpenSpec.upto parcelPacksSpec)) parcelPacksUptoCard

/-- THE SECOND FORM's CARD OF 'diapauselaw10.ParcelReads'. -/
def parcelReadsUptoCard : Claim7 := { stood := { row := parcelReadsUptoRow, standIns := [], harness := (true, "12b70219b1b85abcc9a72290db427e791522d35261cbe2b9c86dd654feb01740"), looks := false }, kinds := [], alts := [], laidByText := true, laidKinds := [.data], laidTests := true, laidLooks := .later }
def ParcelReadsUptoCardSaid : Prop := Claim7.holds Tryd.pinned (.plain (OpenSpec.upto parcelReadsSpec)) parcelReadsUptoCard

/-- THE SECOND FORM's CARD OF 'diapauselaw10.ParcelBack'. -/
def parcelBackUptoCard : Claim7 := { stood := { row := parcelBackUptoRow, standIns := [], harness := (true, "12b70219b1b85abcc9a72290db427e791522d35261cbe2b9c86dd654feb01740"), looks := false }, kinds := [], alts := [], laidByText := true, laidKinds := [.data], laidTests := true, laidLooks := .later }
def ParcelBackUptoCardSaid : Prop := Claim7.holds Tryd.pinned (.plain (OpenSpec.upto parcelBackSpec)) parcelBackUptoCard

/-- THE SECOND FORM's CARD OF 'diapauselaw10.ParcelBursts'. -/
def parcelBurstsUptoCard : Claim7 := { stood := { row := parcelBurstsUptoRow, standIns := [], harness := (true, "12b70219b1b85abcc9a72290db427e791522d35261cbe2b9c86dd654feb01740"), looks := false }, kinds := [], alts := [], laidByText := true, laidKinds := [.data], laidTests := true, laidLooks := .later }
def ParcelBurstsUptoCardSaid : Prop := Claim7.holds Tryd.pinned (.plain (OpenSpec.upto parcelBurstsSpec)) parcelBurstsUptoCard

/-- THE SECOND FORM's CARD OF 'diapauselaw10.ParcelSizes'. -/
def parcelSizesUptoCard : Claim7 := { stood := { row := parcelSizesUptoRow, standIns := [], harness := (true, "12b70219b1b85abcc9a72290db427e791522d35261cbe2b9c86dd654feb01740"), looks := false }, kinds := [], alts := [], laidByText := true, laidKinds := [.data], laidTests := true, laidLooks := .later }
def ParcelSizesUptoCardSaid : Prop := Claim7.holds Tryd.pinned (.plain (OpenSpec.upto parcelSizesSpec)) parcelSizesUptoCard

/-- THE SECOND FORM's CARD OF 'diapauselaw10.ParcelFinds'. -/
def parcelFindsUptoCard : Claim7 := { stood := { row := parcelFindsUptoRow, standIns := [], harness := (true, "12b70219b1b85abcc9a72290db427e791522d35261cbe2b9c86dd654feb01740"), looks := false }, kinds := [], alts := [], laidByText := true, laidKinds := [.data], laidTests := true, laidLooks := .later }
def ParcelFindsUptoCardSaid : Prop := Claim7.holds Tryd.pinned (.plain (OpenSpec.upto parcelFindsSpec)) parcelFindsUptoCard
end Rows
end Go.Proofs.YthhikjgaljkfpaaDoor
