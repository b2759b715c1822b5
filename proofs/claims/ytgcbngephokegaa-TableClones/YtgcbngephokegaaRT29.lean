/- TableClones answers true for any changes, any more, and any turn, and leaves what it is handed as it was. No condition. -/
import Derived.Test.YtgcbngephokegaaT29
import Derived.Test.YtgcbngephokegaaRCh
import Derived.Test.YtgcbngephokegaaLaw
import Derived.Test.YtgcbngephokegaaRows
import Derived.ProofKit
import Derived.OpenShut
namespace Go.Proofs.Ytgcbngephokegaa
open Go.ChangeMaps (open_string shut_string)
open Go.ChangeShapes Go.WideShapes Go.ChangeAt Go.RowKit Go.Joins

theorem clones_own : ownKnob Try.prog.godebug = none := by kernel_rfl
set_option maxRecDepth 100000 in
theorem clones_lifted (os : Os) (started : os.Started) (H : Type) (enc : TypeId × Value → H) :
    ReturnsInHanded {} Try.checked os 6 .any (Rows.tableClonesSpec.pre6 enc Try.prog Try.f6 Rows.tableClonesRow.domain false) (Rows.tableClonesSpec.post enc Try.prog Try.f6 false true false false) := by
  refine returnsInHanded_of_change (C := Try.checked) clones_own started (by kernel_rfl) Try.func6
    (ChangeSpec.witness6 (enc := enc) (C := Try.checked) false ⟨#[], #[.slice none 0 0, .slice none 0 0, .int .u8 0], []⟩ 8 (by kernel_rfl) (by kernel_rfl) (by kernel_rfl) (by kernel_rfl)) ?_
  intro W base args ds gs before hval0 hW _ _
  have hval : ∀ (j : Nat) t v, Try.f6.params[j]? = some t → args[j]? = some v → Value.okWide Try.prog W .any base t v := hval0
  have hW' := hW
  obtain ⟨p, q, hA0, hV, rfl, _, _⟩ := hW
  have hA : DataW.TrodAll enc Try.prog W 0 (fun _ => true) true Try.f6.params.toList args.toList ds p := hA0
  have hAk := hA
  rw [Try.params6] at hA hval
  obtain ⟨v0, v1, v2, d0, d1, d2, p0, p1, p2, rfl, rfl, rfl, h0, h1, h2⟩ := trodAll_three hA
  obtain ⟨rfl, rfl⟩ := trodVars_none hV
  obtain ⟨L0, la0, lc0, hO0⟩ := chgs_open (hval 0 _ v0 rfl rfl) h0
  obtain ⟨L1, la1, lc1, hO1⟩ := chgs_open (hval 1 _ v1 rfl rfl) h1
  obtain ⟨x2, rfl, -, -, hw2⟩ := open_int Try.underlying5 (hval 2 _ v2 rfl rfl) h2
  obtain ⟨i2, hi2, rfl⟩ := nat_u8 hw2
  have hv0 := hO0.v
  subst hv0
  have hv1 := hO1.v
  subst hv1
  clear hA0 hval0
  simp only [List.append_nil] at hW'
  refine (clones_any L0 la0 lc0 L1 la1 lc1 i2 hi2 W hO0.r hO0.ok hO1.r hO1.ok).mono fun e W' ⟨he, hw⟩ => ?_
  subst he
  exact ⟨_, rfl, law_post (by kernel_rfl) (by kernel_rfl) hW' hAk rfl rfl rfl rfl hw⟩

/-- For any changes, any more, and any turn the call returns true, and each argument reads as it did. -/
theorem clones_holds : Rows.TableClonesSaid :=
  OpenClaim.holds_of_wide 6 Try.f6 rfl rfl rfl rfl rfl rfl rfl ⟨rfl, rfl, rfl, rfl, rfl⟩ rfl rfl rfl rfl rfl (by kernel_rfl) Try.func6 (by kernel_rfl)
    (of_decide_eq_true (by kernel_rfl)) (by unfold Func.isWrapper; first | (rw [if_pos (by decide +kernel)]; kernel_rfl) | (rw [if_neg (by decide +kernel)]; exact ⟨rfl, rfl⟩))
    (fun os started H enc _ => clones_lifted os started H enc)
end Go.Proofs.Ytgcbngephokegaa
