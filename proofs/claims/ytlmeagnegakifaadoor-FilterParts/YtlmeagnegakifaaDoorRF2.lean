/- What the rows of layer 4 share: the two tables that three of them list. -/
import Derived.Test.YtlmeagnegakifaaDoorRD
import Derived.Test.YtlmeagnegakifaaDoorHF
import Derived.Test.YtlmeagnegakifaaDoorFO
namespace Go.Proofs.YtlmeagnegakifaaDoor
open Go.ChangeShapes Go.WideShapes Go.ChangeAt Go.RowKit Go.Joins

def laid2 : List (String × DataW Unit) := [("unicode/utf8.acceptRanges", Rows.laid_unicode_utf8_acceptRanges), ("unicode/utf8.first", Rows.laid_unicode_utf8_first)]
theorem laid2_met (os : Os) (args : Array Value) : laidMetH Tryd.prog laid2 ((World.laidAll Tryd.prog os laid2).forCall (fun _ _ => 0) ⟨#[], args, []⟩).memory := by
  rw [MakeChecks.laidMetH_plain _ _ _ (by kernel_rfl)]
  exact laidMet_laidAll _ (by kernel_rfl) (by kernel_rfl)
end Go.Proofs.YtlmeagnegakifaaDoor
