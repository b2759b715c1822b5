/-
  DERIVED. GIVEN WITH THE SEED: THE CARDS: each row of YtgbphocmnpjjpabDoorRows.lean that lists a variable, with what it lists TIED to the program's text (the seventh form; the later family's looks); each row that meets fmt, with fmt's text TOLD by the authors' own Lean function (tested against real Go, not proved from fmt's source: count such statements apart). THE CARD IS WHAT COUNTS. Prove the row's statement (the work); the ties are given (YtgbphocmnpjjpabDoorTie.lean); close each card by the builder's one call (the guide's Derived/Test/ToyasCard.lean, 'card_holds'). Laid BY PROGRAM, IN A SANDBOX (cutbox-door.mjs). By AI agents, Wed Nov 11 2026. No macro, syntax, notation, axiom, sorry.
-/
import Derived.Test.YtgbphocmnpjjpabDoorRows
import GoSem.ClaimSeven
namespace Go.Proofs.YtgbphocmnpjjpabDoor
namespace Rows

/-- THE TIED CARD OF 'crossbucklaw03.CidrHalves'. -/
def cidrHalvesCard : Claim7 := { stood := { row := cidrHalvesRow, standIns := [], harness := (true, "98f455ea35f2d85880871423dbcefef972c79a38b0d713261bd8c2d1f69aa901"), looks := false }, kinds := [], alts := [], laidByText := true, laidKinds := [.data], laidTests := true, laidLooks := .later }
def CidrHalvesCardSaid : Prop := Claim7.holds Tryd.pinned (.plain (OpenSpec.ofChange cidrHalvesSpec)) cidrHalvesCard

/-- THE SECOND FORM's CARD OF 'crossbucklaw03.CidrHalves'. -/
def cidrHalvesUptoCard : Claim7 := { stood := { row := cidrHalvesUptoRow, standIns := [], harness := (true, "98f455ea35f2d85880871423dbcefef972c79a38b0d713261bd8c2d1f69aa901"), looks := false }, kinds := [], alts := [], laidByText := true, laidKinds := [.data], laidTests := true, laidLooks := .later }
def CidrHalvesUptoCardSaid : Prop := Claim7.holds Tryd.pinned (.plain (OpenSpec.upto cidrHalvesSpec)) cidrHalvesUptoCard
end Rows
end Go.Proofs.YtgbphocmnpjjpabDoor
