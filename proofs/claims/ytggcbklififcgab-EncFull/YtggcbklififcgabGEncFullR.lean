/- EncFull answers true for any filter, room and header, and leaves what it is handed as it was. No condition. -/
import Derived.Test.YtggcbklififcgabGb80aa32f54
import Derived.Test.YtggcbklififcgabGb914f46262
import Derived.Test.YtggcbklififcgabRows
import Derived.ProofKit
import Derived.OpenShut
namespace Go.Proofs.Ytggcbklififcgab
open Go.ChangeMaps (open_string shut_string)
open Go.ChangeShapes Go.WideShapes Go.ChangeAt Go.RowKit Go.Joins

theorem efull_own : ownKnob Try.prog.godebug = none := by kernel_rfl
set_option maxRecDepth 100000 in
theorem efull_lifted (os : Os) (started : os.Started) (H : Type) (enc : TypeId × Value → H) :
    ReturnsInHanded {} Try.checked os 5 .any (Rows.encFullSpec.pre6 enc Try.prog Try.f5 Rows.encFullRow.domain false) (Rows.encFullSpec.post enc Try.prog Try.f5 false true false false) := by
  refine returnsInHanded_of_change (C := Try.checked) efull_own started (by kernel_rfl) Try.func5
    (ChangeSpec.witness6 (enc := enc) (C := Try.checked) false ⟨#[], #[fv 0 0 0 0 0 0 0 0 0, .int .u8 0, hv 0 0 0 0 0], []⟩ 8 (by kernel_rfl) (by kernel_rfl) (by kernel_rfl) (by kernel_rfl)) ?_
  intro W base args ds gs before hval0 hW _ _
  have hval : ∀ (j : Nat) t v, Try.f5.params[j]? = some t → args[j]? = some v → Value.okWide Try.prog W .any base t v := hval0
  have hW' := hW
  obtain ⟨p, q, hA0, hV, rfl, _, _⟩ := hW
  have hA : DataW.TrodAll enc Try.prog W 0 (fun _ => true) true Try.f5.params.toList args.toList ds p := hA0
  have hAk := hA
  rw [Try.params5] at hA hval
  obtain ⟨v0, v1, v2, d0, d1, d2, p0, p1, p2, rfl, rfl, rfl, h0, h1, h2⟩ := trodAll_three hA
  obtain ⟨rfl, rfl⟩ := trodVars_none hV
  obtain ⟨fa, fn, fb, fm, fp, fl, fh, fu, fw, Bfa, rfl⟩ := flt_open (hval 0 _ v0 rfl rfl) h0
  obtain ⟨r, rfl, -, -, wr⟩ := open_int Try.underlying5 (hval 1 _ v1 rfl rfl) h1
  obtain ⟨hd, hs, hq, hx, hy, b1, b2, b3, b4, b5, rfl, -, -⟩ := hdr_five (hval 2 _ v2 rfl rfl) h2
  obtain ⟨r0, r1⟩ := bounds_u8 wr
  obtain ⟨r, rfl⟩ := Int.eq_ofNat_of_zero_le r0
  clear hA0 hval0
  simp only [List.append_nil] at hW'
  refine (encFull_any fa fn fb fm fp fl fh fu fw hd hs hq hx hy r Bfa.a Bfa.b Bfa.l Bfa.h Bfa.u Bfa.v ⟨b1, b2, b3, b4, b5⟩ (by omega) W).mono fun e W' ⟨he, hw⟩ => ?_
  subst he
  exact ⟨_, rfl, law_post (by kernel_rfl) (by kernel_rfl) hW' hAk rfl rfl rfl rfl hw⟩

/-- For any filter, room and header the call returns true, and each argument reads as it did. -/
theorem efull_holds : Rows.EncFullSaid :=
  OpenClaim.holds_of_wide 5 Try.f5 rfl rfl rfl rfl rfl rfl rfl ⟨rfl, rfl, rfl, rfl, rfl⟩ rfl rfl rfl rfl rfl (by kernel_rfl) Try.func5 (by kernel_rfl)
    (of_decide_eq_true (by kernel_rfl)) (by unfold Func.isWrapper; first | (rw [if_pos (by decide +kernel)]; kernel_rfl) | (rw [if_neg (by decide +kernel)]; exact ⟨rfl, rfl⟩))
    (fun os started H enc _ => efull_lifted os started H enc)
end Go.Proofs.Ytggcbklififcgab
