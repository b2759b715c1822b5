/- What the rows of layer 3 share: the table that the door lays; how a prefix and a range that are handed in read. -/
import Derived.Test.YtlmeagnegakifaaDoorC4
import Derived.Test.YtlmeagnegakifaaDoorPostB
import Derived.ProofKit
import Derived.OpenShut
import Derived.Lib.SmallJoins
import Derived.Lib.LaidTab
import Derived.LaidMore
import Derived.Stop.Joined
namespace Go.Proofs.YtlmeagnegakifaaDoor
open Go.ChangeShapes Go.WideShapes Go.ChangeAt Go.RowKit Go.Joins

theorem cown : ownKnob Tryd.prog.godebug = none := by kernel_rfl
/-- The one table that the rows without texts list. -/
def laid1 {H : Type} : List (String × DataW H) := [("math/bits.deBruijn32tab", Rows.laid_math_bits_deBruijn32tab)]
theorem door_met1 (os : Os) (args : Array Value) : laidMetH Tryd.prog laid1 ((World.doorLaid Tryd.prog 400 os).forCall (fun _ _ => 0) ⟨#[], args, []⟩).memory :=
  laidMetH_of_parts3 (fuel := 8) (laidMet_of_run' 8 (by kernel_rfl) (by kernel_rfl)) (by kernel_rfl) (by kernel_rfl)
theorem gTab : Tryd.prog.globalNamed "math/bits.deBruijn32tab" = some 1 := by kernel_rfl
theorem tTab : (Tryd.prog.globals[1]?).map (·.type) = some 143 := by kernel_rfl
theorem tab_of_head {W : World} {rest : List (String × DataW Unit)} (h : laidMet Tryd.prog (("math/bits.deBruijn32tab", Rows.laid_math_bits_deBruijn32tab) :: rest) W) : DbTab W := by
  have h1 : Lib.TabIs Tryd.prog W "math/bits.deBruijn32tab" .u8 dbTab := Lib.tabIs_of_head gTab tTab Tryd.underlying143 Tryd.underlying5 (by kernel_rfl) (by kernel_rfl) h
  exact fun i hi => h1.cell gTab i hi
theorem tab_of_laid1 {W : World} (h : laidMetH Tryd.prog laid1 W) : DbTab W := by
  rw [MakeChecks.laidMetH_plain _ _ _ (by kernel_rfl)] at h
  exact tab_of_head h
theorem cellsPre : Tryd.prog.cellsOf 45 = 2 := by kernel_rfl
theorem cellsRng : Tryd.prog.cellsOf 47 = 2 := by kernel_rfl
set_option maxRecDepth 100000 in
theorem pre_open {H : Type} {enc : TypeId × Value → H} {W : World} {base : Nat} {v : Value} {d : DataW H} {p : List MemPlace}
    (hv : Value.okWide Tryd.prog W .any base 45 v) (h : DataW.Trod enc Tryd.prog W 0 (fun _ => true) true 45 v d p) :
    ∃ (a : Nat) (n : Int), a < 4294967296 ∧ -9223372036854775808 ≤ n ∧ n ≤ 9223372036854775807 ∧ v = pv a n ∧ p = [] ∧ ∀ (W' : World) (sp : Nat → Bool), DataW.Trod enc Tryd.prog W' 0 sp true 45 v d [] := by
  obtain ⟨c0, c1, y0, y1, m, rfl, rfl, rfl, hy0, hy1⟩ := open_agg2 Tryd.underlying45 (by kernel_rfl) cellsPre hv h
  obtain ⟨x, e0, rfl, wx⟩ := DataW.trod_int Tryd.underlying22 hy0
  obtain ⟨y, e1, rfl, wy⟩ := DataW.trod_int Tryd.underlying3 hy1
  simp at e0 e1
  subst e0 e1
  obtain ⟨x0, x1⟩ := bounds_u32 wx
  obtain ⟨y0, y1⟩ := bounds_i64 wy
  obtain ⟨x, rfl⟩ := Int.eq_ofNat_of_zero_le x0
  refine ⟨x, y, by omega, by omega, by omega, rfl, rfl, fun W' sp => ?_⟩
  exact shut_agg2 (y0 := (.lit (.int .u32 x), [])) (y1 := (.lit (.int .i64 y), [])) Tryd.underlying45 (by kernel_rfl) cellsPre ⟨1, by simp [DataW.trod, Tryd.underlying22, wx]⟩ ⟨1, by simp [DataW.trod, Tryd.underlying3, wy]⟩
set_option maxRecDepth 100000 in
theorem rng_open {H : Type} {enc : TypeId × Value → H} {W : World} {base : Nat} {v : Value} {d : DataW H} {p : List MemPlace}
    (hv : Value.okWide Tryd.prog W .any base 47 v) (h : DataW.Trod enc Tryd.prog W 0 (fun _ => true) true 47 v d p) :
    ∃ (l k : Nat), l < 65536 ∧ k < 65536 ∧ v = .agg #[.int .u16 l, .int .u16 k] ∧ p = [] ∧ ∀ (W' : World) (sp : Nat → Bool), DataW.Trod enc Tryd.prog W' 0 sp true 47 v d [] := by
  obtain ⟨c0, c1, y0, y1, m, rfl, rfl, rfl, hy0, hy1⟩ := open_agg2 Tryd.underlying47 (by kernel_rfl) cellsRng hv h
  obtain ⟨x, e0, rfl, wx⟩ := DataW.trod_int Tryd.underlying23 hy0
  obtain ⟨y, e1, rfl, wy⟩ := DataW.trod_int Tryd.underlying23 hy1
  simp at e0 e1
  subst e0 e1
  obtain ⟨x0, x1⟩ := bounds_u16 wx
  obtain ⟨y0, y1⟩ := bounds_u16 wy
  obtain ⟨x, rfl⟩ := Int.eq_ofNat_of_zero_le x0
  obtain ⟨y, rfl⟩ := Int.eq_ofNat_of_zero_le y0
  refine ⟨x, y, by omega, by omega, rfl, rfl, fun W' sp => ?_⟩
  exact shut_agg2 (y0 := (.lit (.int .u16 x), [])) (y1 := (.lit (.int .u16 y), [])) Tryd.underlying47 (by kernel_rfl) cellsRng ⟨1, by simp [DataW.trod, Tryd.underlying23, wx]⟩ ⟨1, by simp [DataW.trod, Tryd.underlying23, wy]⟩
end Go.Proofs.YtlmeagnegakifaaDoor
