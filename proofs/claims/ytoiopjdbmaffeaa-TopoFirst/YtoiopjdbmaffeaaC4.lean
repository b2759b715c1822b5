/- Whether a range has a port. -/
import Derived.Test.YtoiopjdbmaffeaaC1
namespace Go.Proofs.Ytoiopjdbmaffeaa
open Go.RowKit
set_option linter.unusedVariables false

def inR (l h p : Nat) : Bool := decide (l ≤ p ∧ p ≤ h)
set_option maxHeartbeats 400000 in
theorem in_any (l h p : Nat) (w : World) : Calls Try.prog 19 #[.agg #[.int .u16 l, .int .u16 h], .int .u16 p] w fun e w' => e = .returned (.bool (inR l h p)) ∧ w.alloc (.cells #[.int .u16 l, .int .u16 h] 37) = w' := by
  unfold inR
  by_cases c : l ≤ p
  · by_cases d : p ≤ h
    · rw [decide_eq_true (And.intro c d)]
      go_enter Try.func19, Try.ntmps19
      go_wp2
      go_ret
      exact ⟨cret_bool (by simp; try omega), rfl⟩
    · rw [decide_eq_false (by omega)]
      go_enter Try.func19, Try.ntmps19
      go_wp2
      go_ret
      exact ⟨cret_bool (by simp; try omega), rfl⟩
  · rw [decide_eq_false (by omega)]
    go_enter Try.func19, Try.ntmps19
    go_wp2
    go_ret
    exact ⟨cret_bool (by simp; try omega), rfl⟩
end Go.Proofs.Ytoiopjdbmaffeaa
