/- TableHidden answers true for any changes, any ID and any address, and leaves what it is handed as it was. No condition. -/
import Derived.Test.YtgcbngephokegaaT33
import Derived.Test.YtgcbngephokegaaRCh
import Derived.Test.YtgcbngephokegaaLaw
import Derived.Test.YtgcbngephokegaaRows
import Derived.ProofKit
import Derived.OpenShut
namespace Go.Proofs.Ytgcbngephokegaa
open Go.ChangeMaps (open_string shut_string)
open Go.ChangeShapes Go.WideShapes Go.ChangeAt Go.RowKit Go.Joins

theorem hidden_own : ownKnob Try.prog.godebug = none := by kernel_rfl
set_option maxRecDepth 100000 in
theorem hidden_lifted (os : Os) (started : os.Started) (H : Type) (enc : TypeId × Value → H) :
    ReturnsInHanded {} Try.checked os 5 .any (Rows.tableHiddenSpec.pre6 enc Try.prog Try.f5 Rows.tableHiddenRow.domain false) (Rows.tableHiddenSpec.post enc Try.prog Try.f5 false true false false) := by
  refine returnsInHanded_of_change (C := Try.checked) hidden_own started (by kernel_rfl) Try.func5
    (ChangeSpec.witness6 (enc := enc) (C := Try.checked) false ⟨#[], #[.slice none 0 0, .int .i64 0, .int .u32 0], []⟩ 8 (by kernel_rfl) (by kernel_rfl) (by kernel_rfl) (by kernel_rfl)) ?_
  intro W base args ds gs before hval0 hW _ _
  have hval : ∀ (j : Nat) t v, Try.f5.params[j]? = some t → args[j]? = some v → Value.okWide Try.prog W .any base t v := hval0
  have hW' := hW
  obtain ⟨p, q, hA0, hV, rfl, _, _⟩ := hW
  have hA : DataW.TrodAll enc Try.prog W 0 (fun _ => true) true Try.f5.params.toList args.toList ds p := hA0
  have hAk := hA
  rw [Try.params5] at hA hval
  obtain ⟨v0, v1, v2, d0, d1, d2, p0, p1, p2, rfl, rfl, rfl, h0, h1, h2⟩ := trodAll_three hA
  obtain ⟨rfl, rfl⟩ := trodVars_none hV
  obtain ⟨L0, la0, lc0, hO0⟩ := chgs_open (hval 0 _ v0 rfl rfl) h0
  obtain ⟨x1, rfl, -, -, hw1⟩ := open_int Try.underlying3 (hval 1 _ v1 rfl rfl) h1
  obtain ⟨b1, b2⟩ := bounds_i64 hw1
  obtain ⟨x2, rfl, -, -, hw2⟩ := open_int Try.underlying23 (hval 2 _ v2 rfl rfl) h2
  obtain ⟨i2, hi2, rfl⟩ := nat_u32 hw2
  have hv0 := hO0.v
  subst hv0
  clear hA0 hval0
  simp only [List.append_nil] at hW'
  refine (hidden_any L0 la0 lc0 x1 i2 hi2 ⟨by omega, by omega⟩ W hO0.r hO0.ok).mono fun e W' ⟨he, hw⟩ => ?_
  subst he
  exact ⟨_, rfl, law_post (by kernel_rfl) (by kernel_rfl) hW' hAk rfl rfl rfl rfl hw⟩

/-- For any changes, any ID and any address the call returns true, and each argument reads as it did. -/
theorem hidden_holds : Rows.TableHiddenSaid :=
  OpenClaim.holds_of_wide 5 Try.f5 rfl rfl rfl rfl rfl rfl rfl ⟨rfl, rfl, rfl, rfl, rfl⟩ rfl rfl rfl rfl rfl (by kernel_rfl) Try.func5 (by kernel_rfl)
    (of_decide_eq_true (by kernel_rfl)) (by unfold Func.isWrapper; first | (rw [if_pos (by decide +kernel)]; kernel_rfl) | (rw [if_neg (by decide +kernel)]; exact ⟨rfl, rfl⟩))
    (fun os started H enc _ => hidden_lifted os started H enc)
end Go.Proofs.Ytgcbngephokegaa
