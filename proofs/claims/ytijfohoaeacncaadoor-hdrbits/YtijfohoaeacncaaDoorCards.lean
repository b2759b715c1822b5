/-
  DERIVED. GIVEN WITH THE SEED: THE CARDS: each row of YtijfohoaeacncaaDoorRows.lean that lists a variable, with what it lists TIED to the program's text (the seventh form; the later family's looks); each row that meets fmt, with fmt's text TOLD by the authors' own Lean function (tested against real Go, not proved from fmt's source: count such statements apart). THE CARD IS WHAT COUNTS. Prove the row's statement (the work); the ties are given (YtijfohoaeacncaaDoorTie.lean); close each card by the builder's one call (the guide's Derived/Test/ToyasCard.lean, 'card_holds'). Laid BY PROGRAM, IN A SANDBOX (cutbox-door.mjs). By AI agents, Wed Nov 11 2026. No macro, syntax, notation, axiom, sorry.
-/
import Derived.Test.YtijfohoaeacncaaDoorRows
import GoSem.ClaimSeven
namespace Go.Proofs.YtijfohoaeacncaaDoor
namespace Rows

/-- THE TIED CARD OF 'crossbucklaw02.HdrBits'. -/
def hdrBitsCard : Claim7 := { stood := { row := hdrBitsRow, standIns := [], harness := (true, "118238c13b3ba23866e30dd50a545314961ebc72619522e1cda02add1a15ea5e"), looks := false }, kinds := [], alts := [], laidByText := true, laidKinds := [.data, .data, .data], laidTests := true, laidLooks := .later }
def HdrBitsCardSaid : Prop := Claim7.holds Tryd.pinned (.plain (OpenSpec.ofChange hdrBitsSpec)) hdrBitsCard

/-- THE TIED CARD OF 'crossbucklaw02.HdrTexts'. -/
def hdrTextsCard : Claim7 := { stood := { row := hdrTextsRow, standIns := [], harness := (true, "118238c13b3ba23866e30dd50a545314961ebc72619522e1cda02add1a15ea5e"), looks := false }, kinds := [], alts := [], laidByText := true, laidKinds := [.data, .data, .data, .data, .pinned], laidTests := true, laidLooks := .later }
def HdrTextsCardSaid : Prop := Claim7.holds Tryd.pinned (.plain (OpenSpec.ofChange hdrTextsSpec)) hdrTextsCard

/-- THE TIED CARD OF 'crossbucklaw02.HdrReads'. -/
def hdrReadsCard : Claim7 := { stood := { row := hdrReadsRow, standIns := [], harness := (true, "118238c13b3ba23866e30dd50a545314961ebc72619522e1cda02add1a15ea5e"), looks := false }, kinds := [], alts := [], laidByText := true, laidKinds := [.data, .data, .data, .data, .pinned], laidTests := true, laidLooks := .later }
def HdrReadsCardSaid : Prop := Claim7.holds Tryd.pinned (.plain (OpenSpec.ofChange hdrReadsSpec)) hdrReadsCard

/-- THE TIED CARD OF 'crossbucklaw02.HdrTurns'. -/
def hdrTurnsCard : Claim7 := { stood := { row := hdrTurnsRow, standIns := [], harness := (true, "118238c13b3ba23866e30dd50a545314961ebc72619522e1cda02add1a15ea5e"), looks := false }, kinds := [], alts := [], laidByText := true, laidKinds := [.data, .data, .data], laidTests := true, laidLooks := .later }
def HdrTurnsCardSaid : Prop := Claim7.holds Tryd.pinned (.plain (OpenSpec.ofChange hdrTurnsSpec)) hdrTurnsCard

/-- THE TIED CARD OF 'crossbucklaw02.HdrNumbers'. -/
def hdrNumbersCard : Claim7 := { stood := { row := hdrNumbersRow, standIns := [], harness := (true, "118238c13b3ba23866e30dd50a545314961ebc72619522e1cda02add1a15ea5e"), looks := false }, kinds := [], alts := [], laidByText := true, laidKinds := [.data, .data, .data], laidTests := true, laidLooks := .later }
def HdrNumbersCardSaid : Prop := Claim7.holds Tryd.pinned (.plain (OpenSpec.ofChange hdrNumbersSpec)) hdrNumbersCard

/-- THE TIED CARD OF 'crossbucklaw03.CidrPrefixes'. -/
def cidrPrefixesCard : Claim7 := { stood := { row := cidrPrefixesRow, standIns := [], harness := (true, "118238c13b3ba23866e30dd50a545314961ebc72619522e1cda02add1a15ea5e"), looks := false }, kinds := [], alts := [], laidByText := true, laidKinds := [.data], laidTests := true, laidLooks := .later }
def CidrPrefixesCardSaid : Prop := Claim7.holds Tryd.pinned (.plain (OpenSpec.ofChange cidrPrefixesSpec)) cidrPrefixesCard

/-- THE TIED CARD OF 'crossbucklaw03.CidrBlocks'. -/
def cidrBlocksCard : Claim7 := { stood := { row := cidrBlocksRow, standIns := [], harness := (true, "118238c13b3ba23866e30dd50a545314961ebc72619522e1cda02add1a15ea5e"), looks := false }, kinds := [], alts := [], laidByText := true, laidKinds := [.data], laidTests := true, laidLooks := .later }
def CidrBlocksCardSaid : Prop := Claim7.holds Tryd.pinned (.plain (OpenSpec.ofChange cidrBlocksSpec)) cidrBlocksCard

/-- THE SECOND FORM's CARD OF 'crossbucklaw02.HdrBits'. -/
def hdrBitsUptoCard : Claim7 := { stood := { row := hdrBitsUptoRow, standIns := [], harness := (true, "118238c13b3ba23866e30dd50a545314961ebc72619522e1cda02add1a15ea5e"), looks := false }, kinds := [], alts := [], laidByText := true, laidKinds := [.data, .data, .data], laidTests := true, laidLooks := .later }
def HdrBitsUptoCardSaid : Prop := Claim7.holds Tryd.pinned (.plain (OpenSpec.upto hdrBitsSpec)) hdrBitsUptoCard

/-- THE SECOND FORM's CARD OF 'crossbucklaw02.HdrTexts'. -/
def hdrTextsUptoCard : Claim7 := { stood := { row := hdrTextsUptoRow, standIns := [], harness := (true, "118238c13b3ba23866e30dd50a545314961ebc72619522e1cda02add1a15ea5e"), looks := false }, kinds := [], alts := [], laidByText := true, laidKinds := [.data, .data, .data, .data, .pinned], laidTests := true, laidLooks := .later }
def HdrTextsUptoCardSaid : Prop := Claim7.holds Tryd.pinned (.plain (OpenSpec.upto hdrTextsSpec)) hdrTextsUptoCard

/-- THE SECOND FORM's CARD OF 'crossbucklaw02.HdrReads'. -/
def hdrReadsUptoCard : Claim7 := { stood := { row := hdrReadsUptoRow, standIns := [], harness := (true, "118238c13b3ba23866e30dd50a545314961ebc72619522e1cda02add1a15ea5e"), looks := false }, kinds := [], alts := [], laidByText := true, laidKinds := [.data, .data, .data, .data, .pinned], laidTests := true, laidLooks := .later }
def HdrReadsUptoCardSaid : Prop := Claim7.holds Tryd.pinned (.plain (OpenSpec.upto hdrReadsSpec)) hdrReadsUptoCard

/-- THE SECOND FORM's CARD OF 'crossbucklaw02.HdrTurns'. -/
def hdrTurnsUptoCard : Claim7 := { stood := { row := hdrTurnsUptoRow, standIns := [], harness := (true, "118238c13b3ba23866e30dd50a545314961ebc72619522e1cda02add1a15ea5e"), looks := false }, kinds := [], alts := [], laidByText := true, laidKinds := [.data, .data, .data], laidTests := true, laidLooks := .later }
def HdrTurnsUptoCardSaid : Prop := Claim7.holds Tryd.pinned (.plain (OpenSpec.upto hdrTurnsSpec)) hdrTurnsUptoCard

/-- THE SECOND FORM's CARD OF 'crossbucklaw02.HdrNumbers'. -/
def hdrNumbersUptoCard : Claim7 := { stood := { row := hdrNumbersUptoRow, standIns := [], harness := (true, "118238c13b3ba23866e30dd50a545314961ebc72619522e1cda02add1a15ea5e"), looks := false }, kinds := [], alts := [], laidByText := true, laidKinds := [.data, .data, .data], laidTests := true, laidLooks := .later }
def HdrNumbersUptoCardSaid : Prop := Claim7.holds Tryd.pinned (.plain (OpenSpec.upto hdrNumbersSpec)) hdrNumbersUptoCard

/-- THE SECOND FORM's CARD OF 'crossbucklaw03.CidrPrefixes'. -/
def cidrPrefixesUptoCard : Claim7 := { stood := { row := cidrPrefixesUptoRow, standIns := [], harness := (true, "118238c13b3ba23866e30dd50a545314961ebc72619522e1cda02add1a15ea5e"), looks := false }, kinds := [], alts := [], laidByText := true, laidKinds := [.data], laidTests := true, laidLooks := .later }
def CidrPrefixesUptoCardSaid : Prop := Claim7.holds Tryd.pinned (.plain (OpenSpec.upto cidrPrefixesSpec)) cidrPrefixesUptoCard

/-- THE SECOND FORM's CARD OF 'crossbucklaw03.CidrBlocks'. -/
def cidrBlocksUptoCard : Claim7 := { stood := { row := cidrBlocksUptoRow, standIns := [], harness := (true, "118238c13b3ba23866e30dd50a545314961ebc72619522e1cda02add1a15ea5e"), looks := false }, kinds := [], alts := [], laidByText := true, laidKinds := [.data], laidTests := true, laidLooks := .later }
def CidrBlocksUptoCardSaid : Prop := Claim7.holds Tryd.pinned (.plain (OpenSpec.upto cidrBlocksSpec)) cidrBlocksUptoCard
end Rows
end Go.Proofs.YtijfohoaeacncaaDoor
