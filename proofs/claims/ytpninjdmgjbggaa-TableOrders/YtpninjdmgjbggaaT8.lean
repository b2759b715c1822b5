/- TableOrders, whole. -/
import Derived.Test.YtpninjdmgjbggaaT7a
import Derived.Test.YtpninjdmgjbggaaT7b
import Derived.Test.YtpninjdmgjbggaaT7c
import Derived.Test.YtpninjdmgjbggaaT7d
namespace Go.Proofs.Ytpninjdmgjbggaa
open Go.RowKit
set_option linter.unusedVariables false

theorem comp_is (x y : Ru) (k : Int) (h : compR x y = k) : Hid (∀ w, Calls Try.prog 44 #[rv x, rv y] w fun e w' => e = .returned (.int .i64 k) ∧ Below w.heap.size w w') :=
  Lib.hid (fun w => by rw [← h]; exact compare_any x y w)
theorem orders_any (x y z : Ru) (W : World) : Calls Try.prog 10 #[rv x, rv y, rv z] W fun e w' => e = .returned (.bool true) ∧ Below W.heap.size W w' := by
  have hn := compR_neg x y
  have hab : ∀ b : Bool, (compR x y < 0 ↔ b = true) → aheadB x y = b := fun b h => by
    have := compR_lt x y
    cases b with
    | true => exact this.1 (h.2 rfl)
    | false =>
      cases c : aheadB x y with
      | false => rfl
      | true => have := h.1 (this.2 c); cases this
  rcases compR_vals x y with e | e | e
  · rw [e] at hn
    have ha := hab true (by rw [e]; simp)
    rcases compR_vals y z with f | f | f
    · have g : compR x z = -1 := by
        have := compR_trans x y z (by omega) (by omega)
        rcases compR_vals x z with q | q | q <;> omega
      exact orders_m1 x y z W (comp_is _ _ _ e) (comp_is _ _ _ f) (comp_is _ _ _ g) (comp_is _ _ _ hn) (comp_is _ _ _ (compR_self x)) ha
    · exact orders_m0 x y z _ _ W (comp_is _ _ _ e) (comp_is _ _ _ f) (comp_is _ _ _ rfl) (comp_is _ _ _ hn) (comp_is _ _ _ (compR_self x)) ha (by omega) (by decide)
    · exact orders_m0 x y z _ _ W (comp_is _ _ _ e) (comp_is _ _ _ f) (comp_is _ _ _ rfl) (comp_is _ _ _ hn) (comp_is _ _ _ (compR_self x)) ha (by omega) (by decide)
  · rw [e] at hn
    have ha := hab false (by rw [e]; simp)
    obtain ⟨p1, -, p2⟩ := (compR_zero x y).1 e
    exact orders_z x y z _ _ W (comp_is _ _ _ e) (comp_is _ _ _ rfl) (comp_is _ _ _ rfl) (comp_is _ _ _ hn) (comp_is _ _ _ (compR_self x)) ha (by simp [p1]) (by simp [p2]) (by simp [p1]) (by simp [p2]) (by simp [p1]) (by simp [p2])
  · rw [e] at hn
    have ha := hab false (by rw [e]; simp)
    exact orders_p x y z _ _ W (comp_is _ _ _ e) (comp_is _ _ _ rfl) (comp_is _ _ _ rfl) (comp_is _ _ _ hn) (comp_is _ _ _ (compR_self x)) ha
end Go.Proofs.Ytpninjdmgjbggaa
