/- Restrict. -/
import Derived.Test.YtioanjpeddipmacAW
import Derived.Test.YtioanjpeddipmacAJ
namespace Go.Proofs.Ytioanjpeddipmac
open Go.RowKit
set_option linter.unusedVariables false

theorem chkF_one (n : Nat) (f : Int) : chkF n [f] = if hasB n f then 0 else 1 := by unfold chkF; simp [List.all_cons]
theorem resJ_chk (most : Nat) (ns : List Nd) (f : Int) (a : AL) {c : Int} (hc : chkF ns.length [f] = c) : ∀ W b, Ar W a most ns → W.cell? ⟨b, 0, none⟩ = some (.int .i64 f) → Calls Try.prog 42 #[.pointer (some ⟨a.p, 0, none⟩), .slice (some ⟨b, 0, none⟩) 1 1] W fun e w' => e = .returned (.int .i64 c) ∧ W = w' := fun W b hA h0 => by
  subst hc
  exact check_any a most ns W hA b 1 [f] (by simp) (fun i v hv => by
    match i, hv with
    | 0, hv => cases hv; exact h0)
end Go.Proofs.Ytioanjpeddipmac
