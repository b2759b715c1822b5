/- Plain: words of bits: one bit set, or not. No program in sight. -/
import Derived.Laws.Bits64b
import Derived.Lib.EndianBits
namespace Go.Proofs.Ytioanjpeddipmac
set_option linter.unusedVariables false

/-- A word without a mask's bits; with or without them. -/
def clr (a m : Nat) : Nat := a ^^^ (a &&& m)
def wo (a m : Nat) (on : Bool) : Nat := if on then a ||| m else clr a m
theorem clr_bit (a m j : Nat) : (clr a m).testBit j = (a.testBit j && !m.testBit j) := by
  unfold clr; rw [Nat.testBit_xor, Nat.testBit_and]; cases a.testBit j <;> cases m.testBit j <;> rfl
theorem wo_bit (a m j : Nat) (on : Bool) : (wo a m on).testBit j = if m.testBit j then on else a.testBit j := by
  unfold wo; cases on
  · simp only [Bool.false_eq_true, if_false, clr_bit]; cases a.testBit j <;> cases m.testBit j <;> rfl
  · simp only [if_true, Nat.testBit_or]; cases a.testBit j <;> cases m.testBit j <;> rfl
theorem clr_or (a m : Nat) : clr a m ||| m = a ||| m := by
  apply Nat.eq_of_testBit_eq; intro j
  rw [Nat.testBit_or, Nat.testBit_or, clr_bit]; cases a.testBit j <;> cases m.testBit j <;> rfl
theorem wo_zero (a : Nat) (on : Bool) : wo a 0 on = a := by
  apply Nat.eq_of_testBit_eq; intro j
  rw [wo_bit, Nat.zero_testBit]; rfl
theorem wo_lt (a m j : Nat) (on : Bool) (ha : a < 2 ^ j) (hm : m < 2 ^ j) : wo a m on < 2 ^ j := by
  unfold wo; cases on
  · exact Nat.xor_lt_two_pow ha (Nat.lt_of_le_of_lt Nat.and_le_left ha)
  · exact Nat.or_lt_two_pow ha hm
theorem and_pow (a j : Nat) : decide ((a &&& 2 ^ j) ≠ 0) = a.testBit j := by
  cases hb : a.testBit j
  · have e : a &&& 2 ^ j = 0 := by
      apply Nat.eq_of_testBit_eq; intro q
      rw [Nat.testBit_and, Nat.testBit_two_pow, Nat.zero_testBit]
      by_cases h : j = q
      · subst h; rw [hb]; rfl
      · simp [h]
    rw [e]; rfl
  · refine decide_eq_true (fun e => ?_)
    have h := congrArg (fun n => Nat.testBit n j) e
    simp [hb] at h
/-- What is flipped once and again is what it was. -/
theorem wo_back (a m : Nat) (j : Nat) (hm : m = 2 ^ j) (on : Bool) : wo (wo a m on) m (a.testBit j) = a := by
  subst hm
  apply Nat.eq_of_testBit_eq; intro q
  rw [wo_bit, wo_bit, Nat.testBit_two_pow]
  by_cases h : j = q
  · subst h; simp
  · simp [h]
theorem wo_same (a j : Nat) : wo a (2 ^ j) (a.testBit j) = a := by
  apply Nat.eq_of_testBit_eq; intro q
  rw [wo_bit, Nat.testBit_two_pow]
  by_cases h : j = q
  · subst h; simp
  · simp [h]
theorem wo_at (a j : Nat) (on : Bool) : (wo a (2 ^ j) on).testBit j = on := by rw [wo_bit, Nat.testBit_two_pow_self]; rfl
theorem wo_up (a j : Nat) (h : a.testBit j = false) : a < wo a (2 ^ j) true := by
  have h1 : a ≤ wo a (2 ^ j) true := by unfold wo; exact Nat.left_le_or
  have h2 : a ≠ wo a (2 ^ j) true := fun e => by
    have := wo_at a j true
    rw [← e, h] at this; cases this
  omega
theorem wo_down (a j : Nat) (h : a.testBit j = true) : wo a (2 ^ j) false < a := by
  have e : wo (wo a (2 ^ j) false) (2 ^ j) true = a := by
    have := wo_back a (2 ^ j) j rfl false
    rwa [h] at this
  have h1 := wo_up (wo a (2 ^ j) false) j (wo_at a j false)
  rw [e] at h1
  exact h1
theorem bits_andNot_u64 (a m : Nat) (ha : a < 18446744073709551616) (hm : m < 18446744073709551616) : bits .andNot .u64 (a : Int) (m : Int) = (clr a m : Int) := by
  unfold bits
  have hc : clr a m < 18446744073709551616 := Nat.xor_lt_two_pow (n := 64) (by simpa using ha) (Nat.lt_of_le_of_lt Nat.and_le_left (by simpa using ha))
  have e : (BitVec.ofInt 64 (a : Int) &&& ~~~BitVec.ofInt 64 (m : Int)).toNat = clr a m := by
    rw [BitVec.ofInt_natCast, BitVec.ofInt_natCast]
    apply Nat.eq_of_testBit_eq; intro j
    rw [clr_bit, BitVec.testBit_toNat, BitVec.getLsbD_and, BitVec.getLsbD_not, BitVec.getLsbD_ofNat, BitVec.getLsbD_ofNat]
    by_cases h : j < 64
    · simp [h]
    · have : a.testBit j = false := Nat.testBit_lt_two_pow (Nat.lt_of_lt_of_le ha (by rw [show (18446744073709551616 : Nat) = 2 ^ 64 from by decide]; exact Nat.pow_le_pow_right (by omega) (by omega)))
      simp [h, this]
  show IntKind.u64.wrap (((BitVec.ofInt 64 (a : Int) &&& ~~~BitVec.ofInt 64 (m : Int)).toNat : Nat) : Int) = _
  rw [e]
  exact u64_wrap_id _ (by omega) (by omega)
end Go.Proofs.Ytioanjpeddipmac
