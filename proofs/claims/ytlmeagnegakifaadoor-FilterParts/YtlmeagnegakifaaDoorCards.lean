/-
  DERIVED. GIVEN WITH THE SEED: THE CARDS: each row of YtlmeagnegakifaaDoorRows.lean that lists a variable, with what it lists TIED to the program's text (the seventh form; the later family's looks); each row that meets fmt, with fmt's text TOLD by the authors' own Lean function (tested against real Go, not proved from fmt's source: count such statements apart). THE CARD IS WHAT COUNTS. Prove the row's statement (the work); the ties are given (YtlmeagnegakifaaDoorTie.lean); close each card by the builder's one call (the guide's Derived/Test/ToyasCard.lean, 'card_holds'). Laid BY PROGRAM, IN A SANDBOX (cutbox-door.mjs). By AI agents, Wed Nov 11 2026. No macro, syntax, notation, axiom, sorry.
-/
import Derived.Test.YtlmeagnegakifaaDoorRows
import GoSem.ClaimSeven
namespace Go.Proofs.YtlmeagnegakifaaDoor
namespace Rows

/-- THE TIED CARD OF 'crossbucklaw02.HdrTexts'. -/
def hdrTextsCard : Claim7 := { stood := { row := hdrTextsRow, standIns := [], harness := (true, "383a91d159c21f3b97869dc6035146e1c2afe3fa42b8f5e2847b64e2cba6f13f"), looks := false }, kinds := [], alts := [], laidByText := true, laidKinds := [.data, .data, .data, .data, .pinned], laidTests := true, laidLooks := .later }
def HdrTextsCardSaid : Prop := Claim7.holds Tryd.pinned (.plain (OpenSpec.ofChange hdrTextsSpec)) hdrTextsCard

/-- THE TIED CARD OF 'crossbucklaw02.HdrReads'. -/
def hdrReadsCard : Claim7 := { stood := { row := hdrReadsRow, standIns := [], harness := (true, "383a91d159c21f3b97869dc6035146e1c2afe3fa42b8f5e2847b64e2cba6f13f"), looks := false }, kinds := [], alts := [], laidByText := true, laidKinds := [.data, .data, .data, .data, .pinned], laidTests := true, laidLooks := .later }
def HdrReadsCardSaid : Prop := Claim7.holds Tryd.pinned (.plain (OpenSpec.ofChange hdrReadsSpec)) hdrReadsCard

/-- THE TIED CARD OF 'crossbucklaw03.CidrTexts'. -/
def cidrTextsCard : Claim7 := { stood := { row := cidrTextsRow, standIns := [], harness := (true, "383a91d159c21f3b97869dc6035146e1c2afe3fa42b8f5e2847b64e2cba6f13f"), looks := false }, kinds := [], alts := [], laidByText := true, laidKinds := [.data, .data, .data, .data, .pinned], laidTests := true, laidLooks := .later }
def CidrTextsCardSaid : Prop := Claim7.holds Tryd.pinned (.plain (OpenSpec.ofChange cidrTextsSpec)) cidrTextsCard

/-- THE TIED CARD OF 'crossbucklaw03.CidrReads'. -/
def cidrReadsCard : Claim7 := { stood := { row := cidrReadsRow, standIns := [], harness := (true, "383a91d159c21f3b97869dc6035146e1c2afe3fa42b8f5e2847b64e2cba6f13f"), looks := false }, kinds := [], alts := [], laidByText := true, laidKinds := [.data, .data, .pinned], laidTests := true, laidLooks := .later }
def CidrReadsCardSaid : Prop := Claim7.holds Tryd.pinned (.plain (OpenSpec.ofChange cidrReadsSpec)) cidrReadsCard

/-- THE TIED CARD OF 'crossbucklaw04.FilterMatches'. -/
def filterMatchesCard : Claim7 := { stood := { row := filterMatchesRow, standIns := [], harness := (true, "383a91d159c21f3b97869dc6035146e1c2afe3fa42b8f5e2847b64e2cba6f13f"), looks := false }, kinds := [], alts := [], laidByText := true, laidKinds := [.data, .pinned], laidTests := true, laidLooks := .later }
def FilterMatchesCardSaid : Prop := Claim7.holds Tryd.pinned (.plain (OpenSpec.ofChange filterMatchesSpec)) filterMatchesCard

/-- THE TIED CARD OF 'crossbucklaw04.FilterMeets'. -/
def filterMeetsCard : Claim7 := { stood := { row := filterMeetsRow, standIns := [], harness := (true, "383a91d159c21f3b97869dc6035146e1c2afe3fa42b8f5e2847b64e2cba6f13f"), looks := false }, kinds := [], alts := [], laidByText := true, laidKinds := [.data, .pinned], laidTests := true, laidLooks := .later }
def FilterMeetsCardSaid : Prop := Claim7.holds Tryd.pinned (.plain (OpenSpec.ofChange filterMeetsSpec)) filterMeetsCard

/-- THE TIED CARD OF 'crossbucklaw04.FilterTexts'. -/
def filterTextsCard : Claim7 := { stood := { row := filterTextsRow, standIns := [], harness := (true, "383a91d159c21f3b97869dc6035146e1c2afe3fa42b8f5e2847b64e2cba6f13f"), looks := false }, kinds := [], alts := [], laidByText := true, laidKinds := [.data, .data, .data, .data, .pinned], laidTests := true, laidLooks := .later }
def FilterTextsCardSaid : Prop := Claim7.holds Tryd.pinned (.plain (OpenSpec.ofChange filterTextsSpec)) filterTextsCard

/-- THE TIED CARD OF 'crossbucklaw04.FilterParts'. -/
def filterPartsCard : Claim7 := { stood := { row := filterPartsRow, standIns := [], harness := (true, "383a91d159c21f3b97869dc6035146e1c2afe3fa42b8f5e2847b64e2cba6f13f"), looks := false }, kinds := [], alts := [], laidByText := true, laidKinds := [.data, .pinned], laidTests := true, laidLooks := .later }
def FilterPartsCardSaid : Prop := Claim7.holds Tryd.pinned (.plain (OpenSpec.ofChange filterPartsSpec)) filterPartsCard

/-- THE SECOND FORM's CARD OF 'crossbucklaw02.HdrTexts'. -/
def hdrTextsUptoCard : Claim7 := { stood := { row := hdrTextsUptoRow, standIns := [], harness := (true, "383a91d159c21f3b97869dc6035146e1c2afe3fa42b8f5e2847b64e2cba6f13f"), looks := false }, kinds := [], alts := [], laidByText := true, laidKinds := [.data, .data, .data, .data, .pinned], laidTests := true, laidLooks := .later }
def HdrTextsUptoCardSaid : Prop := Claim7.holds Tryd.pinned (.plain (OpenSpec.upto hdrTextsSpec)) hdrTextsUptoCard

/-- THE SECOND FORM's CARD OF 'crossbucklaw02.HdrReads'. -/
def hdrReadsUptoCard : Claim7 := { stood := { row := hdrReadsUptoRow, standIns := [], harness := (true, "383a91d159c21f3b97869dc6035146e1c2afe3fa42b8f5e2847b64e2cba6f13f"), looks := false }, kinds := [], alts := [], laidByText := true, laidKinds := [.data, .data, .data, .data, .pinned], laidTests := true, laidLooks := .later }
def HdrReadsUptoCardSaid : Prop := Claim7.holds Tryd.pinned (.plain (OpenSpec.upto hdrReadsSpec)) hdrReadsUptoCard

/-- THE SECOND FORM's CARD OF 'crossbucklaw03.CidrTexts'. -/
def cidrTextsUptoCard : Claim7 := { stood := { row := cidrTextsUptoRow, standIns := [], harness := (true, "383a91d159c21f3b97869dc6035146e1c2afe3fa42b8f5e2847b64e2cba6f13f"), looks := false }, kinds := [], alts := [], laidByText := true, laidKinds := [.data, .data, .data, .data, .pinned], laidTests := true, laidLooks := .later }
def CidrTextsUptoCardSaid : Prop := Claim7.holds Tryd.pinned (.plain (OpenSpec.upto cidrTextsSpec)) cidrTextsUptoCard

/-- THE SECOND FORM's CARD OF 'crossbucklaw03.CidrReads'. -/
def cidrReadsUptoCard : Claim7 := { stood := { row := cidrReadsUptoRow, standIns := [], harness := (true, "383a91d159c21f3b97869dc6035146e1c2afe3fa42b8f5e2847b64e2cba6f13f"), looks := false }, kinds := [], alts := [], laidByText := true, laidKinds := [.data, .data, .pinned], laidTests := true, laidLooks := .later }
def CidrReadsUptoCardSaid : Prop := Claim7.holds Tryd.pinned (.plain (OpenSpec.upto cidrReadsSpec)) cidrReadsUptoCard

/-- THE SECOND FORM's CARD OF 'crossbucklaw04.FilterMatches'. -/
def filterMatchesUptoCard : Claim7 := { stood := { row := filterMatchesUptoRow, standIns := [], harness := (true, "383a91d159c21f3b97869dc6035146e1c2afe3fa42b8f5e2847b64e2cba6f13f"), looks := false }, kinds := [], alts := [], laidByText := true, laidKinds := [.data, .pinned], laidTests := true, laidLooks := .later }
def FilterMatchesUptoCardSaid : Prop := Claim7.holds Tryd.pinned (.plain (OpenSpec.upto filterMatchesSpec)) filterMatchesUptoCard

/-- THE SECOND FORM's CARD OF 'crossbucklaw04.FilterMeets'. -/
def filterMeetsUptoCard : Claim7 := { stood := { row := filterMeetsUptoRow, standIns := [], harness := (true, "383a91d159c21f3b97869dc6035146e1c2afe3fa42b8f5e2847b64e2cba6f13f"), looks := false }, kinds := [], alts := [], laidByText := true, laidKinds := [.data, .pinned], laidTests := true, laidLooks := .later }
def FilterMeetsUptoCardSaid : Prop := Claim7.holds Tryd.pinned (.plain (OpenSpec.upto filterMeetsSpec)) filterMeetsUptoCard

/-- THE SECOND FORM's CARD OF 'crossbucklaw04.FilterTexts'. -/
def filterTextsUptoCard : Claim7 := { stood := { row := filterTextsUptoRow, standIns := [], harness := (true, "383a91d159c21f3b97869dc6035146e1c2afe3fa42b8f5e2847b64e2cba6f13f"), looks := false }, kinds := [], alts := [], laidByText := true, laidKinds := [.data, .data, .data, .data, .pinned], laidTests := true, laidLooks := .later }
def FilterTextsUptoCardSaid : Prop := Claim7.holds Tryd.pinned (.plain (OpenSpec.upto filterTextsSpec)) filterTextsUptoCard

/-- THE SECOND FORM's CARD OF 'crossbucklaw04.FilterParts'. -/
def filterPartsUptoCard : Claim7 := { stood := { row := filterPartsUptoRow, standIns := [], harness := (true, "383a91d159c21f3b97869dc6035146e1c2afe3fa42b8f5e2847b64e2cba6f13f"), looks := false }, kinds := [], alts := [], laidByText := true, laidKinds := [.data, .pinned], laidTests := true, laidLooks := .later }
def FilterPartsUptoCardSaid : Prop := Claim7.holds Tryd.pinned (.plain (OpenSpec.upto filterPartsSpec)) filterPartsUptoCard
end Rows
end Go.Proofs.YtlmeagnegakifaaDoor
