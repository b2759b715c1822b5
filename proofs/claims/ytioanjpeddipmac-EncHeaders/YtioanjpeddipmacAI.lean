/- Ite. -/
import Derived.Test.YtioanjpeddipmacAJ
namespace Go.Proofs.Ytioanjpeddipmac
open Go.RowKit
set_option linter.unusedVariables false

theorem chkF_three (n : Nat) (f g h : Int) : chkF n [f, g, h] = if hasB n f && (hasB n g && hasB n h) then 0 else 1 := by unfold chkF; simp [List.all_cons]
theorem iteJ_chk (most : Nat) (ns : List Nd) (f g h : Int) (a : AL) {c : Int} (hc : chkF ns.length [f, g, h] = c) : ∀ W b, Ar W a most ns → W.cell? ⟨b, 0, none⟩ = some (.int .i64 f) → W.cell? ⟨b, 1, none⟩ = some (.int .i64 g) → W.cell? ⟨b, 2, none⟩ = some (.int .i64 h) → Calls Try.prog 42 #[.pointer (some ⟨a.p, 0, none⟩), .slice (some ⟨b, 0, none⟩) 3 3] W fun e w' => e = .returned (.int .i64 c) ∧ W = w' := fun W b hA h0 h1 h2 => by
  subst hc
  exact check_any a most ns W hA b 3 [f, g, h] (by simp) (fun i v hv => by
    match i, hv with
    | 0, hv => cases hv; exact h0
    | 1, hv => cases hv; exact h1
    | 2, hv => cases hv; exact h2)
end Go.Proofs.Ytioanjpeddipmac
