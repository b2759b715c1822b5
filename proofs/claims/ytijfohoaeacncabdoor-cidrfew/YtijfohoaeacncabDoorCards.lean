/-
  DERIVED. GIVEN WITH THE SEED: THE CARDS: each row of YtijfohoaeacncabDoorRows.lean that lists a variable, with what it lists TIED to the program's text (the seventh form; the later family's looks); each row that meets fmt, with fmt's text TOLD by the authors' own Lean function (tested against real Go, not proved from fmt's source: count such statements apart). THE CARD IS WHAT COUNTS. Prove the row's statement (the work); the ties are given (YtijfohoaeacncabDoorTie.lean); close each card by the builder's one call (the guide's Derived/Test/ToyasCard.lean, 'card_holds'). Laid BY PROGRAM, IN A SANDBOX (cutbox-door.mjs). By AI agents, Wed Nov 11 2026. No macro, syntax, notation, axiom, sorry.
-/
import Derived.Test.YtijfohoaeacncabDoorRows
import GoSem.ClaimSeven
namespace Go.Proofs.YtijfohoaeacncabDoor
namespace Rows

/-- THE TIED CARD OF 'crossbucklaw03.CidrTexts'. -/
def cidrTextsCard : Claim7 := { stood := { row := cidrTextsRow, standIns := [], harness := (true, "5152053e9c554baf3fc98578c7bc5367826f99f069a3f1a27a0e35b8f63fe94f"), looks := false }, kinds := [], alts := [], laidByText := true, laidKinds := [.data, .data, .data, .data, .pinned], laidTests := true, laidLooks := .later }
def CidrTextsCardSaid : Prop := Claim7.holds Tryd.pinned (.plain (OpenSpec.ofChange cidrTextsSpec)) cidrTextsCard

/-- THE TIED CARD OF 'crossbucklaw03.CidrReads'. -/
def cidrReadsCard : Claim7 := { stood := { row := cidrReadsRow, standIns := [], harness := (true, "5152053e9c554baf3fc98578c7bc5367826f99f069a3f1a27a0e35b8f63fe94f"), looks := false }, kinds := [], alts := [], laidByText := true, laidKinds := [.data, .data, .pinned], laidTests := true, laidLooks := .later }
def CidrReadsCardSaid : Prop := Claim7.holds Tryd.pinned (.plain (OpenSpec.ofChange cidrReadsSpec)) cidrReadsCard

/-- THE TIED CARD OF 'crossbucklaw03.CidrHalves'. -/
def cidrHalvesCard : Claim7 := { stood := { row := cidrHalvesRow, standIns := [], harness := (true, "5152053e9c554baf3fc98578c7bc5367826f99f069a3f1a27a0e35b8f63fe94f"), looks := false }, kinds := [], alts := [], laidByText := true, laidKinds := [.data], laidTests := true, laidLooks := .later }
def CidrHalvesCardSaid : Prop := Claim7.holds Tryd.pinned (.plain (OpenSpec.ofChange cidrHalvesSpec)) cidrHalvesCard

/-- THE TIED CARD OF 'crossbucklaw03.CidrFew'. -/
def cidrFewCard : Claim7 := { stood := { row := cidrFewRow, standIns := [], harness := (true, "5152053e9c554baf3fc98578c7bc5367826f99f069a3f1a27a0e35b8f63fe94f"), looks := false }, kinds := [], alts := [], laidByText := true, laidKinds := [.data], laidTests := true, laidLooks := .later }
def CidrFewCardSaid : Prop := Claim7.holds Tryd.pinned (.plain (OpenSpec.ofChange cidrFewSpec)) cidrFewCard

/-- THE TIED CARD OF 'crossbucklaw04.FilterMatches'. -/
def filterMatchesCard : Claim7 := { stood := { row := filterMatchesRow, standIns := [], harness := (true, "5152053e9c554baf3fc98578c7bc5367826f99f069a3f1a27a0e35b8f63fe94f"), looks := false }, kinds := [], alts := [], laidByText := true, laidKinds := [.data, .pinned], laidTests := true, laidLooks := .later }
def FilterMatchesCardSaid : Prop := Claim7.holds Tryd.pinned (.plain (OpenSpec.ofChange filterMatchesSpec)) filterMatchesCard

/-- THE TIED CARD OF 'crossbucklaw04.FilterMeets'. -/
def filterMeetsCard : Claim7 := { stood := { row := filterMeetsRow, standIns := [], harness := (true, "5152053e9c554baf3fc98578c7bc5367826f99f069a3f1a27a0e35b8f63fe94f"), looks := false }, kinds := [], alts := [], laidByText := true, laidKinds := [.data, .pinned], laidTests := true, laidLooks := .later }
def FilterMeetsCardSaid : Prop := Claim7.holds Tryd.pinned (.plain (OpenSpec.ofChange filterMeetsSpec)) filterMeetsCard

/-- THE TIED CARD OF 'crossbucklaw04.FilterTexts'. -/
def filterTextsCard : Claim7 := { stood := { row := filterTextsRow, standIns := [], harness := (true, "5152053e9c554baf3fc98578c7bc5367826f99f069a3f1a27a0e35b8f63fe94f"), looks := false }, kinds := [], alts := [], laidByText := true, laidKinds := [.data, .data, .data, .data, .pinned], laidTests := true, laidLooks := .later }
def FilterTextsCardSaid : Prop := Claim7.holds Tryd.pinned (.plain (OpenSpec.ofChange filterTextsSpec)) filterTextsCard

/-- THE TIED CARD OF 'crossbucklaw04.FilterParts'. -/
def filterPartsCard : Claim7 := { stood := { row := filterPartsRow, standIns := [], harness := (true, "5152053e9c554baf3fc98578c7bc5367826f99f069a3f1a27a0e35b8f63fe94f"), looks := false }, kinds := [], alts := [], laidByText := true, laidKinds := [.data, .pinned], laidTests := true, laidLooks := .later }
def FilterPartsCardSaid : Prop := Claim7.holds Tryd.pinned (.plain (OpenSpec.ofChange filterPartsSpec)) filterPartsCard

/-- THE SECOND FORM's CARD OF 'crossbucklaw03.CidrTexts'. -/
def cidrTextsUptoCard : Claim7 := { stood := { row := cidrTextsUptoRow, standIns := [], harness := (true, "5152053e9c554baf3fc98578c7bc5367826f99f069a3f1a27a0e35b8f63fe94f"), looks := false }, kinds := [], alts := [], laidByText := true, laidKinds := [.data, .data, .data, .data, .pinned], laidTests := true, laidLooks := .later }
def CidrTextsUptoCardSaid : Prop := Claim7.holds Tryd.pinned (.plain (OpenSpec.upto cidrTextsSpec)) cidrTextsUptoCard

/-- THE SECOND FORM's CARD OF 'crossbucklaw03.CidrReads'. -/
def cidrReadsUptoCard : Claim7 := { stood := { row := cidrReadsUptoRow, standIns := [], harness := (true, "5152053e9c554baf3fc98578c7bc5367826f99f069a3f1a27a0e35b8f63fe94f"), looks := false }, kinds := [], alts := [], laidByText := true, laidKinds := [.data, .data, .pinned], laidTests := true, laidLooks := .later }
def CidrReadsUptoCardSaid : Prop := Claim7.holds Tryd.pinned (.plain (OpenSpec.upto cidrReadsSpec)) cidrReadsUptoCard

/-- THE SECOND FORM's CARD OF 'crossbucklaw03.CidrHalves'. -/
def cidrHalvesUptoCard : Claim7 := { stood := { row := cidrHalvesUptoRow, standIns := [], harness := (true, "5152053e9c554baf3fc98578c7bc5367826f99f069a3f1a27a0e35b8f63fe94f"), looks := false }, kinds := [], alts := [], laidByText := true, laidKinds := [.data], laidTests := true, laidLooks := .later }
def CidrHalvesUptoCardSaid : Prop := Claim7.holds Tryd.pinned (.plain (OpenSpec.upto cidrHalvesSpec)) cidrHalvesUptoCard

/-- THE SECOND FORM's CARD OF 'crossbucklaw03.CidrFew'. -/
def cidrFewUptoCard : Claim7 := { stood := { row := cidrFewUptoRow, standIns := [], harness := (true, "5152053e9c554baf3fc98578c7bc5367826f99f069a3f1a27a0e35b8f63fe94f"), looks := false }, kinds := [], alts := [], laidByText := true, laidKinds := [.data], laidTests := true, laidLooks := .later }
def CidrFewUptoCardSaid : Prop := Claim7.holds Tryd.pinned (.plain (OpenSpec.upto cidrFewSpec)) cidrFewUptoCard

/-- THE SECOND FORM's CARD OF 'crossbucklaw04.FilterMatches'. -/
def filterMatchesUptoCard : Claim7 := { stood := { row := filterMatchesUptoRow, standIns := [], harness := (true, "5152053e9c554baf3fc98578c7bc5367826f99f069a3f1a27a0e35b8f63fe94f"), looks := false }, kinds := [], alts := [], laidByText := true, laidKinds := [.data, .pinned], laidTests := true, laidLooks := .later }
def FilterMatchesUptoCardSaid : Prop := Claim7.holds Tryd.pinned (.plain (OpenSpec.upto filterMatchesSpec)) filterMatchesUptoCard

/-- THE SECOND FORM's CARD OF 'crossbucklaw04.FilterMeets'. -/
def filterMeetsUptoCard : Claim7 := { stood := { row := filterMeetsUptoRow, standIns := [], harness := (true, "5152053e9c554baf3fc98578c7bc5367826f99f069a3f1a27a0e35b8f63fe94f"), looks := false }, kinds := [], alts := [], laidByText := true, laidKinds := [.data, .pinned], laidTests := true, laidLooks := .later }
def FilterMeetsUptoCardSaid : Prop := Claim7.holds Tryd.pinned (.plain (OpenSpec.upto filterMeetsSpec)) filterMeetsUptoCard

/-- THE SECOND FORM's CARD OF 'crossbucklaw04.FilterTexts'. -/
def filterTextsUptoCard : Claim7 := { stood := { row := filterTextsUptoRow, standIns := [], harness := (true, "5152053e9c554baf3fc98578c7bc5367826f99f069a3f1a27a0e35b8f63fe94f"), looks := false }, kinds := [], alts := [], laidByText := true, laidKinds := [.data, .data, .data, .data, .pinned], laidTests := true, laidLooks := .later }
def FilterTextsUptoCardSaid : Prop := Claim7.holds Tryd.pinned (.plain (OpenSpec.upto filterTextsSpec)) filterTextsUptoCard

/-- THE SECOND FORM's CARD OF 'crossbucklaw04.FilterParts'. -/
def filterPartsUptoCard : Claim7 := { stood := { row := filterPartsUptoRow, standIns := [], harness := (true, "5152053e9c554baf3fc98578c7bc5367826f99f069a3f1a27a0e35b8f63fe94f"), looks := false }, kinds := [], alts := [], laidByText := true, laidKinds := [.data, .pinned], laidTests := true, laidLooks := .later }
def FilterPartsUptoCardSaid : Prop := Claim7.holds Tryd.pinned (.plain (OpenSpec.upto filterPartsSpec)) filterPartsUptoCard
end Rows
end Go.Proofs.YtijfohoaeacncabDoor
