/- What the rows of layer 3 with texts share. -/
import Derived.Test.YtgbphocmnpjjpaaDoorRD
import Derived.Test.YtgbphocmnpjjpaaDoorRCC
import Derived.Test.YtgbphocmnpjjpaaDoorT3
namespace Go.Proofs.YtgbphocmnpjjpaaDoor
open Go.ChangeShapes Go.WideShapes Go.ChangeAt Go.RowKit Go.Joins

/-- The three tables that CidrReads lists. -/
def laid3r : List (String × DataW Unit) := [("math/bits.deBruijn32tab", Rows.laid_math_bits_deBruijn32tab), ("unicode/utf8.acceptRanges", Rows.laid_unicode_utf8_acceptRanges), ("unicode/utf8.first", Rows.laid_unicode_utf8_first)]
theorem laid3r_met (os : Os) (args : Array Value) : laidMetH Tryd.prog laid3r ((World.laidAll Tryd.prog os laid3r).forCall (fun _ _ => 0) ⟨#[], args, []⟩).memory := by
  rw [MakeChecks.laidMetH_plain _ _ _ (by kernel_rfl)]
  exact laidMet_laidAll _ (by kernel_rfl) (by kernel_rfl)
theorem db_of_laid5 {W : World} (h : laidMetH Tryd.prog laid5 W) : DbTab W := by
  rw [MakeChecks.laidMetH_plain _ _ _ (by kernel_rfl)] at h
  exact tab_of_head h
theorem db_of_laid3r {W : World} (h : laidMetH Tryd.prog laid3r W) : DbTab W := by
  rw [MakeChecks.laidMetH_plain _ _ _ (by kernel_rfl)] at h
  exact tab_of_head h
end Go.Proofs.YtgbphocmnpjjpaaDoor
