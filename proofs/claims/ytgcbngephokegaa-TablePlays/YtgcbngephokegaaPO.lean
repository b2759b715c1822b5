/- A prefix as it is handed in. -/
import Derived.Test.YtgcbngephokegaaKO
import Derived.OpenShut
import Derived.ProofKit
namespace Go.Proofs.Ytgcbngephokegaa
open Go.ChangeMaps (open_string shut_string)
open Go.ChangeShapes Go.WideShapes Go.ChangeAt Go.RowKit Go.Joins
set_option maxRecDepth 100000 in
theorem pre_open {H : Type} {enc : TypeId × Value → H} {W : World} {base : Nat} {v : Value} {d : DataW H} {p : List MemPlace}
    (hv : Value.okWide Try.prog W .any base 25 v) (h : DataW.Trod enc Try.prog W 0 (fun _ => true) true 25 v d p) :
    ∃ (a : Nat) (n : Int), a < 4294967296 ∧ -9223372036854775808 ≤ n ∧ n ≤ 9223372036854775807 ∧ v = pv a n := by
  obtain ⟨c0, c1, y0, y1, m, rfl, rfl, rfl, hy0, hy1⟩ := open_agg2 Try.underlying25 (by kernel_rfl) cellsPre hv h
  obtain ⟨x, e0, rfl, wx⟩ := DataW.trod_int Try.underlying23 hy0
  obtain ⟨y, e1, rfl, wy⟩ := DataW.trod_int Try.underlying3 hy1
  simp at e0 e1
  subst e0 e1
  obtain ⟨x0, x1⟩ := bounds_u32 wx
  obtain ⟨y0, y1⟩ := bounds_i64 wy
  obtain ⟨x, rfl⟩ := Int.eq_ofNat_of_zero_le x0
  exact ⟨x, y, by omega, by omega, by omega, rfl⟩
end Go.Proofs.Ytgcbngephokegaa
