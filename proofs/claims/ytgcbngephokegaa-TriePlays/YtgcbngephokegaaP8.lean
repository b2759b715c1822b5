/- The document's Add of a wrong prefix. -/
import Derived.Test.YtgcbngephokegaaP6
namespace Go.Proofs.Ytgcbngephokegaa
open Go.RowKit
set_option linter.unusedVariables false
set_option linter.unusedSimpArgs false

set_option maxRecDepth 100000 in
theorem radd_wrong (W : World) (l : Value) (A : Nat) (n v : Int) (hA : A < 4294967296) (hr : rightB A n = false) :
    Calls Try.prog 12 #[l, pv (A : Nat) n, .int .i64 v] W fun e w' => e = .returned (.tuple #[l, .int .i64 13]) ∧ Below W.heap.size W w' := by
  have hC := Lib.hid (rright_any A n hA)
  rw [hr] at hC
  go_enter Try.func12, Try.ntmps12
  go_wp2_with fail
  refine (hC.out _).mono ?_
  rintro e w2 ⟨rfl, hb⟩
  have B2 := Lib.hid (bel_on' (bel_al (Below.refl W.heap.size W) _) hb)
  clear hb hC
  go_wp2
  exact bodyPost_ret (v := .tuple #[l, .int .i64 13]) (by simp [results, Try.results12, go_sem]) rfl ⟨rfl, B2.out⟩
end Go.Proofs.Ytgcbngephokegaa
