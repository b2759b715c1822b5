/-
  DERIVED. GIVEN WITH THE SEED: THE CARDS: each row of YteinkjlnofmalaaDoorRows.lean that lists a variable, with what it lists TIED to the program's text (the seventh form; the later family's looks); each row that meets fmt, with fmt's text TOLD by the authors' own Lean function (tested against real Go, not proved from fmt's source: count such statements apart). THE CARD IS WHAT COUNTS. Prove the row's statement (the work); the ties are given (YteinkjlnofmalaaDoorTie.lean); close each card by the builder's one call (the guide's Derived/Test/ToyasCard.lean, 'card_holds'). Laid BY PROGRAM, IN A SANDBOX (cutbox-door.mjs). By AI agents, Wed Nov 11 2026. No macro, syntax, notation, axiom, sorry.
-/
import Derived.Test.YteinkjlnofmalaaDoorRows
import GoSem.ClaimSeven
namespace Go.Proofs.YteinkjlnofmalaaDoor
namespace Rows

/-- THE TIED CARD OF 'crossbucklaw02.HdrBits'. -/
def hdrBitsCard : Claim7 := { stood := { row := hdrBitsRow, standIns := [], harness := (true, "d41eb8e71d45bad62755ded05d643b1a2613586c83b9a4aa5762686bd9497a27"), looks := false }, kinds := [], alts := [], laidByText := true, laidKinds := [.data, .data, .data], laidTests := true, laidLooks := .later }
def HdrBitsCardSaid : Prop := Claim7.holds Tryd.pinned (.plain (OpenSpec.ofChange hdrBitsSpec)) hdrBitsCard

/-- THE TIED CARD OF 'crossbucklaw02.HdrTexts'. -/
def hdrTextsCard : Claim7 := { stood := { row := hdrTextsRow, standIns := [], harness := (true, "d41eb8e71d45bad62755ded05d643b1a2613586c83b9a4aa5762686bd9497a27"), looks := false }, kinds := [], alts := [], laidByText := true, laidKinds := [.data, .data, .data, .data, .pinned], laidTests := true, laidLooks := .later }
def HdrTextsCardSaid : Prop := Claim7.holds Tryd.pinned (.plain (OpenSpec.ofChange hdrTextsSpec)) hdrTextsCard

/-- THE TIED CARD OF 'crossbucklaw02.HdrReads'. -/
def hdrReadsCard : Claim7 := { stood := { row := hdrReadsRow, standIns := [], harness := (true, "d41eb8e71d45bad62755ded05d643b1a2613586c83b9a4aa5762686bd9497a27"), looks := false }, kinds := [], alts := [], laidByText := true, laidKinds := [.data, .data, .data, .data, .pinned], laidTests := true, laidLooks := .later }
def HdrReadsCardSaid : Prop := Claim7.holds Tryd.pinned (.plain (OpenSpec.ofChange hdrReadsSpec)) hdrReadsCard

/-- THE TIED CARD OF 'crossbucklaw02.HdrTurns'. -/
def hdrTurnsCard : Claim7 := { stood := { row := hdrTurnsRow, standIns := [], harness := (true, "d41eb8e71d45bad62755ded05d643b1a2613586c83b9a4aa5762686bd9497a27"), looks := false }, kinds := [], alts := [], laidByText := true, laidKinds := [.data, .data, .data], laidTests := true, laidLooks := .later }
def HdrTurnsCardSaid : Prop := Claim7.holds Tryd.pinned (.plain (OpenSpec.ofChange hdrTurnsSpec)) hdrTurnsCard

/-- THE TIED CARD OF 'crossbucklaw02.HdrNumbers'. -/
def hdrNumbersCard : Claim7 := { stood := { row := hdrNumbersRow, standIns := [], harness := (true, "d41eb8e71d45bad62755ded05d643b1a2613586c83b9a4aa5762686bd9497a27"), looks := false }, kinds := [], alts := [], laidByText := true, laidKinds := [.data, .data, .data], laidTests := true, laidLooks := .later }
def HdrNumbersCardSaid : Prop := Claim7.holds Tryd.pinned (.plain (OpenSpec.ofChange hdrNumbersSpec)) hdrNumbersCard

/-- THE SECOND FORM's CARD OF 'crossbucklaw02.HdrBits'. -/
def hdrBitsUptoCard : Claim7 := { stood := { row := hdrBitsUptoRow, standIns := [], harness := (true, "d41eb8e71d45bad62755ded05d643b1a2613586c83b9a4aa5762686bd9497a27"), looks := false }, kinds := [], alts := [], laidByText := true, laidKinds := [.data, .data, .data], laidTests := true, laidLooks := .later }
def HdrBitsUptoCardSaid : Prop := Claim7.holds Tryd.pinned (.plain (OpenSpec.upto hdrBitsSpec)) hdrBitsUptoCard

/-- THE SECOND FORM's CARD OF 'crossbucklaw02.HdrTexts'. -/
def hdrTextsUptoCard : Claim7 := { stood := { row := hdrTextsUptoRow, standIns := [], harness := (true, "d41eb8e71d45bad62755ded05d643b1a2613586c83b9a4aa5762686bd9497a27"), looks := false }, kinds := [], alts := [], laidByText := true, laidKinds := [.data, .data, .data, .data, .pinned], laidTests := true, laidLooks := .later }
def HdrTextsUptoCardSaid : Prop := Claim7.holds Tryd.pinned (.plain (OpenSpec.upto hdrTextsSpec)) hdrTextsUptoCard

/-- THE SECOND FORM's CARD OF 'crossbucklaw02.HdrReads'. -/
def hdrReadsUptoCard : Claim7 := { stood := { row := hdrReadsUptoRow, standIns := [], harness := (true, "d41eb8e71d45bad62755ded05d643b1a2613586c83b9a4aa5762686bd9497a27"), looks := false }, kinds := [], alts := [], laidByText := true, laidKinds := [.data, .data, .data, .data, .pinned], laidTests := true, laidLooks := .later }
def HdrReadsUptoCardSaid : Prop := Claim7.holds Tryd.pinned (.plain (OpenSpec.upto hdrReadsSpec)) hdrReadsUptoCard

/-- THE SECOND FORM's CARD OF 'crossbucklaw02.HdrTurns'. -/
def hdrTurnsUptoCard : Claim7 := { stood := { row := hdrTurnsUptoRow, standIns := [], harness := (true, "d41eb8e71d45bad62755ded05d643b1a2613586c83b9a4aa5762686bd9497a27"), looks := false }, kinds := [], alts := [], laidByText := true, laidKinds := [.data, .data, .data], laidTests := true, laidLooks := .later }
def HdrTurnsUptoCardSaid : Prop := Claim7.holds Tryd.pinned (.plain (OpenSpec.upto hdrTurnsSpec)) hdrTurnsUptoCard

/-- THE SECOND FORM's CARD OF 'crossbucklaw02.HdrNumbers'. -/
def hdrNumbersUptoCard : Claim7 := { stood := { row := hdrNumbersUptoRow, standIns := [], harness := (true, "d41eb8e71d45bad62755ded05d643b1a2613586c83b9a4aa5762686bd9497a27"), looks := false }, kinds := [], alts := [], laidByText := true, laidKinds := [.data, .data, .data], laidTests := true, laidLooks := .later }
def HdrNumbersUptoCardSaid : Prop := Claim7.holds Tryd.pinned (.plain (OpenSpec.upto hdrNumbersSpec)) hdrNumbersUptoCard
end Rows
end Go.Proofs.YteinkjlnofmalaaDoor
