/- How a count that is handed in reads, and reads again. -/
import Derived.Test.YteinkjlnofmalaaW1
import Derived.Test.YteinkjlnofmalaaPostB
import Derived.ProofKit
import Derived.OpenShut
import Derived.Lib.SmallJoins
namespace Go.Proofs.Yteinkjlnofmalaa
open Go.ChangeShapes Go.WideShapes Go.ChangeAt Go.RowKit Go.Joins

theorem own : ownKnob Try.prog.godebug = none := by kernel_rfl
theorem cellsRef : Try.prog.cellsOf 24 = 2 := by kernel_rfl
theorem cnt_open {H : Type} {enc : TypeId × Value → H} {W : World} {base : Nat} {v : Value} {d : DataW H} {p : List MemPlace}
    (hv : Value.okWide Try.prog W .any base 24 v) (h : DataW.Trod enc Try.prog W 0 (fun _ => true) true 24 v d p) :
    ∃ a, a < MM ∧ v = cn a ∧ p = [] ∧ ∀ (W' : World) (sp : Nat → Bool), DataW.Trod enc Try.prog W' 0 sp true 24 v d [] := by
  obtain ⟨c0, c1, y0, y1, m, rfl, rfl, rfl, hy0, hy1⟩ := open_agg2 Try.underlying24 (by kernel_rfl) cellsRef hv h
  obtain ⟨x, e0, rfl, wx⟩ := DataW.trod_int Try.underlying22 hy0
  obtain ⟨y, e1, rfl, wy⟩ := DataW.trod_int Try.underlying22 hy1
  simp at e0 e1
  subst e0 e1
  obtain ⟨x0, x1⟩ := bounds_u64 wx
  obtain ⟨y0, y1⟩ := bounds_u64 wy
  obtain ⟨a, ha, rfl, rfl⟩ := cn_of x y x0 x1 y0 y1
  refine ⟨a, ha, rfl, rfl, fun W' sp => ?_⟩
  exact shut_agg2 (y0 := (.lit (.int .u64 (hi a)), [])) (y1 := (.lit (.int .u64 (lo a)), [])) Try.underlying24 (by kernel_rfl) cellsRef ⟨1, by simp [DataW.trod, Try.underlying22, wx]⟩ ⟨1, by simp [DataW.trod, Try.underlying22, wy]⟩
end Go.Proofs.Yteinkjlnofmalaa
