/- EncParts answers true for any range, port and prefix, and leaves what it is handed as it was. No condition. -/
import Derived.Test.YtggcbklififcgabGb9d5e9c8a6
import Derived.Test.YtggcbklififcgabGb914f46262
import Derived.Test.YtggcbklififcgabRows
import Derived.ProofKit
import Derived.OpenShut
namespace Go.Proofs.Ytggcbklififcgab
open Go.ChangeMaps (open_string shut_string)
open Go.ChangeShapes Go.WideShapes Go.ChangeAt Go.RowKit Go.Joins

theorem eparts_own : ownKnob Try.prog.godebug = none := by kernel_rfl
set_option maxRecDepth 100000 in
theorem eparts_lifted (os : Os) (started : os.Started) (H : Type) (enc : TypeId × Value → H) :
    ReturnsInHanded {} Try.checked os 6 .any (Rows.encPartsSpec.pre6 enc Try.prog Try.f6 Rows.encPartsRow.domain false) (Rows.encPartsSpec.post enc Try.prog Try.f6 false true false false) := by
  refine returnsInHanded_of_change (C := Try.checked) eparts_own started (by kernel_rfl) Try.func6
    (ChangeSpec.witness6 (enc := enc) (C := Try.checked) false ⟨#[], #[.agg #[.int .u16 0, .int .u16 0], .int .u16 0, pv 0 0], []⟩ 8 (by kernel_rfl) (by kernel_rfl) (by kernel_rfl) (by kernel_rfl)) ?_
  intro W base args ds gs before hval0 hW _ _
  have hval : ∀ (j : Nat) t v, Try.f6.params[j]? = some t → args[j]? = some v → Value.okWide Try.prog W .any base t v := hval0
  have hW' := hW
  obtain ⟨p, q, hA0, hV, rfl, _, _⟩ := hW
  have hA : DataW.TrodAll enc Try.prog W 0 (fun _ => true) true Try.f6.params.toList args.toList ds p := hA0
  have hAk := hA
  rw [Try.params6] at hA hval
  obtain ⟨v0, v1, v2, d0, d1, d2, p0, p1, p2, rfl, rfl, rfl, h0, h1, h2⟩ := trodAll_three hA
  obtain ⟨rfl, rfl⟩ := trodVars_none hV
  obtain ⟨lo, hi, hblo, hbhi, rfl, -, -⟩ := rng_open (hval 0 _ v0 rfl rfl) h0
  obtain ⟨a, rfl, -, -, wa⟩ := open_int Try.underlying25 (hval 1 _ v1 rfl rfl) h1
  obtain ⟨A, n, hbA, -, -, rfl, -, -⟩ := pre_open (hval 2 _ v2 rfl rfl) h2
  obtain ⟨a0, a1⟩ := bounds_u16 wa
  obtain ⟨a, rfl⟩ := Int.eq_ofNat_of_zero_le a0
  clear hA0 hval0
  simp only [List.append_nil] at hW'
  refine (encParts_any lo hi a A n hblo hbhi (by omega) hbA W).mono fun e W' ⟨he, hw⟩ => ?_
  subst he
  exact ⟨_, rfl, law_post (by kernel_rfl) (by kernel_rfl) hW' hAk rfl rfl rfl rfl hw⟩

/-- For any range, port and prefix the call returns true, and each argument reads as it did. -/
theorem eparts_holds : Rows.EncPartsSaid :=
  OpenClaim.holds_of_wide 6 Try.f6 rfl rfl rfl rfl rfl rfl rfl ⟨rfl, rfl, rfl, rfl, rfl⟩ rfl rfl rfl rfl rfl (by kernel_rfl) Try.func6 (by kernel_rfl)
    (of_decide_eq_true (by kernel_rfl)) (by unfold Func.isWrapper; first | (rw [if_pos (by decide +kernel)]; kernel_rfl) | (rw [if_neg (by decide +kernel)]; exact ⟨rfl, rfl⟩))
    (fun os started H enc _ => eparts_lifted os started H enc)
end Go.Proofs.Ytggcbklififcgab
