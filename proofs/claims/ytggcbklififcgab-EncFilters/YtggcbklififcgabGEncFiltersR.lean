/- EncFilters answers true for any two filters and any headers, and leaves what it is handed as it was. No condition. -/
import Derived.Test.YtggcbklififcgabG357218c4a9
import Derived.Test.YtggcbklififcgabGRH
import Derived.Test.YtggcbklififcgabGb914f46262
import Derived.Test.YtggcbklififcgabRows
import Derived.ProofKit
import Derived.OpenShut
namespace Go.Proofs.Ytggcbklififcgab
open Go.ChangeMaps (open_string shut_string)
open Go.ChangeShapes Go.WideShapes Go.ChangeAt Go.RowKit Go.Joins

theorem efilters_own : ownKnob Try.prog.godebug = none := by kernel_rfl
set_option maxRecDepth 100000 in
theorem efilters_lifted (os : Os) (started : os.Started) (H : Type) (enc : TypeId × Value → H) :
    ReturnsInHanded {} Try.checked os 4 .any (Rows.encFiltersSpec.pre6 enc Try.prog Try.f4 Rows.encFiltersRow.domain false) (Rows.encFiltersSpec.post enc Try.prog Try.f4 false true false false) := by
  refine returnsInHanded_of_change (C := Try.checked) efilters_own started (by kernel_rfl) Try.func4
    (ChangeSpec.witness6 (enc := enc) (C := Try.checked) false ⟨#[], #[fv 0 0 0 0 0 0 0 0 0, fv 0 0 0 0 0 0 0 0 0, .slice none 0 0], []⟩ 8 (by kernel_rfl) (by kernel_rfl) (by kernel_rfl) (by kernel_rfl)) ?_
  intro W base args ds gs before hval0 hW _ _
  have hval : ∀ (j : Nat) t v, Try.f4.params[j]? = some t → args[j]? = some v → Value.okWide Try.prog W .any base t v := hval0
  have hW' := hW
  obtain ⟨p, q, hA0, hV, rfl, _, _⟩ := hW
  have hA : DataW.TrodAll enc Try.prog W 0 (fun _ => true) true Try.f4.params.toList args.toList ds p := hA0
  have hAk := hA
  rw [Try.params4] at hA hval
  obtain ⟨v0, v1, v2, d0, d1, d2, p0, p1, p2, rfl, rfl, rfl, h0, h1, h2⟩ := trodAll_three hA
  obtain ⟨rfl, rfl⟩ := trodVars_none hV
  obtain ⟨fa, fn, fb, fm, fp, fl, fh, fu, fw, Bfa, rfl⟩ := flt_open (hval 0 _ v0 rfl rfl) h0
  obtain ⟨ga, gn, gb, gm, gp, gl, gh, gu, gw, Bga, rfl⟩ := flt_open (hval 1 _ v1 rfl rfl) h1
  obtain ⟨L2, la2, lc2, hG2⟩ := hds_open (hval 2 _ v2 rfl rfl) h2
  have hv2 := hG2.v
  subst hv2
  clear hA0 hval0
  simp only [List.append_nil] at hW'
  refine (encFilters_any fa fn fb fm fp fl fh fu fw ga gn gb gm gp gl gh gu gw Bfa.a Bfa.b Bfa.l Bfa.h Bfa.u Bfa.v Bga.a Bga.b Bga.l Bga.h Bga.u Bga.v L2 la2 lc2 hG2.cap W hG2.r hG2.ok).mono fun e W' ⟨he, hw⟩ => ?_
  subst he
  exact ⟨_, rfl, law_post (by kernel_rfl) (by kernel_rfl) hW' hAk rfl rfl rfl rfl hw⟩

/-- For any two filters and any headers the call returns true, and each argument reads as it did. -/
theorem efilters_holds : Rows.EncFiltersSaid :=
  OpenClaim.holds_of_wide 4 Try.f4 rfl rfl rfl rfl rfl rfl rfl ⟨rfl, rfl, rfl, rfl, rfl⟩ rfl rfl rfl rfl rfl (by kernel_rfl) Try.func4 (by kernel_rfl)
    (of_decide_eq_true (by kernel_rfl)) (by unfold Func.isWrapper; first | (rw [if_pos (by decide +kernel)]; kernel_rfl) | (rw [if_neg (by decide +kernel)]; exact ⟨rfl, rfl⟩))
    (fun os started H enc _ => efilters_lifted os started H enc)
end Go.Proofs.Ytggcbklififcgab
