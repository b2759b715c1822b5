/- The document's 'number': so many bits from a place on. -/
import Derived.Test.YtioanjpeddipmacH1
import Derived.Lib.Hide
namespace Go.Proofs.Ytioanjpeddipmac
open Go.RowKit
set_option linter.unusedVariables false

/-- So many bits from a place on, the highest first. -/
def numB (B : Nat → Bool) (p : Nat) : Nat → Nat
  | 0 => 0
  | k + 1 => numB B p k * 2 + (B (p + k)).toNat
theorem numB_lt (B : Nat → Bool) (p : Nat) : ∀ k, numB B p k < 2 ^ k
  | 0 => by simp [numB]
  | k + 1 => by
    have := numB_lt B p k
    have h : (B (p + k)).toNat ≤ 1 := Bool.toNat_le _
    rw [numB, Nat.pow_succ]; omega
theorem numB_lt32 (B : Nat → Bool) (p k : Nat) (h : k ≤ 31) : numB B p k < 2147483648 := by
  have := numB_lt B p k
  have h2 : 2 ^ k ≤ 2 ^ 31 := Nat.pow_le_pow_right (by decide) h
  rw [show (2 : Nat) ^ 31 = 2147483648 from by decide] at h2
  omega
end Go.Proofs.Ytioanjpeddipmac
