/- Plain: the digits of a number. No program in sight. -/
import Derived.Test.YteinkjlnofmalaaWM
namespace Go.Proofs.Yteinkjlnofmalaa
set_option linter.unusedVariables false

/-- The last k digits of a number, as bytes. -/
def digN : Nat → Nat → List UInt8
  | 0, _ => []
  | k + 1, a => digN k (a / 10) ++ [UInt8.ofNat (48 + a % 10)]
theorem digN_length : ∀ (k a : Nat), (digN k a).length = k
  | 0, _ => rfl
  | k + 1, a => by rw [digN, List.length_append, digN_length k]; rfl
theorem digN_front : ∀ (k a : Nat), digN (k + 1) a = UInt8.ofNat (48 + a / 10 ^ k % 10) :: digN k a
  | 0, a => by simp [digN]
  | k + 1, a => by
    rw [digN, digN_front k (a / 10), digN, Nat.div_div_eq_div_mul, ← Nat.pow_succ']; rfl
/-- How many digits a number has (at least one); looked for up to k. -/
def ndF : Nat → Nat → Nat
  | 0, _ => 0
  | k + 1, a => if a < 10 then 1 else ndF k (a / 10) + 1
def nd (a : Nat) : Nat := ndF (a + 1) a
/-- A number in digits, without noughts ahead. -/
def dig (a : Nat) : List UInt8 := digN (nd a) a
theorem ndF_big : ∀ (k j a : Nat), a < k → a < j → ndF k a = ndF j a
  | 0, _, _, h, _ => by omega
  | _ + 1, 0, _, _, h => by omega
  | k + 1, j + 1, a, h, h' => by
    rw [ndF, ndF]
    split
    · rfl
    · rw [ndF_big k j (a / 10) (by omega) (by omega)]
theorem nd_small (a : Nat) (h : a < 10) : nd a = 1 := by rw [nd, ndF, if_pos h]
theorem nd_step (a : Nat) (h : 10 ≤ a) : nd a = nd (a / 10) + 1 := by
  rw [nd, ndF, if_neg (by omega), nd, ndF_big a (a / 10 + 1) (a / 10) (by omega) (by omega)]
theorem nd_pos (a : Nat) : 1 ≤ nd a := by
  by_cases h : a < 10
  · rw [nd_small a h]; exact Nat.le_refl _
  · rw [nd_step a (by omega)]; omega
/-- The number of digits is k just if the number is below 10^k, and (of more than one) not below 10^(k-1). -/
theorem nd_eq : ∀ (k a : Nat), 1 ≤ k → a < 10 ^ k → (2 ≤ k → 10 ^ (k - 1) ≤ a) → nd a = k
  | 0, _, h, _, _ => by omega
  | 1, a, _, h, _ => nd_small a (by simpa using h)
  | k + 2, a, _, h, h' => by
    have h1 := h' (by omega)
    have e1 : 10 ^ (k + 2) = 10 ^ (k + 1) * 10 := Nat.pow_succ ..
    have e2 : 10 ^ (k + 1) = 10 ^ k * 10 := Nat.pow_succ ..
    have p : 1 ≤ 10 ^ k := Nat.one_le_pow _ _ (by decide)
    have e3 : k + 2 - 1 = k + 1 := by omega
    rw [e3] at h1
    rw [nd_step a (by omega), nd_eq (k + 1) (a / 10) (by omega) (by omega) (fun _ => by
      have e4 : k + 1 - 1 = k := by omega
      rw [e4]; omega)]
theorem ten39 : MM ≤ 10 ^ 39 := by decide
theorem ten38 : 10 ^ 38 < MM := by decide
theorem div_of_lt (a k : Nat) : a / 10 ^ k = 0 ↔ a < 10 ^ k := Nat.div_eq_zero_iff_lt (Nat.pow_pos (by decide))
end Go.Proofs.Yteinkjlnofmalaa
