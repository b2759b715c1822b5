/- Plain: prefixes of 32 bits. No program in sight. -/
import Derived.Laws.Bits64b
import Derived.Lib.EndianBits
import Derived.Lib.Hide
namespace Go.Proofs.Ytgcbngephokegaa
set_option linter.unusedVariables false

/-- How many bits of 0 to 32 are nearest; how many addresses a prefix of so many has. -/
def inB (n : Int) : Nat := if n < 0 then 0 else if 32 < n then 32 else n.toNat
theorem inB_le (n : Int) : inB n ≤ 32 := by unfold inB; (repeat' split) <;> omega
def sz (k : Nat) : Nat := 2 ^ (32 - k)
theorem sz_pos (k : Nat) : 0 < sz k := Nat.pow_pos (by decide)
theorem sz_le (k : Nat) : sz k ≤ 4294967296 := by
  unfold sz
  have := Nat.pow_le_pow_right (n := 2) (by decide) (show 32 - k ≤ 32 by omega)
  rwa [show (2 : Nat) ^ 32 = 4294967296 from by decide] at this
/-- The address whose first k bits are set. -/
def mk (k : Nat) : Nat := 4294967296 - sz k
theorem mk_lt (k : Nat) : mk k < 4294967296 := by have := sz_pos k; unfold mk; omega
theorem sz_mul (k : Nat) (h : k ≤ 32) : sz k * 2 ^ k = 4294967296 := by
  unfold sz; rw [← Nat.pow_add, show 32 - k + k = 32 by omega]
theorem mk_eq (k : Nat) (h : k ≤ 32) : mk k = (2 ^ k - 1) * 2 ^ (32 - k) := by
  have := sz_mul k h
  unfold mk sz at *
  rw [Nat.sub_mul, Nat.one_mul, Nat.mul_comm, this]
/-- The first k bits of an address. -/
def cutA (a k : Nat) : Nat := a / sz k * sz k
theorem cut_le (a k : Nat) : cutA a k ≤ a := Nat.div_mul_le_self a _
theorem and_mk (a k : Nat) (ha : a < 4294967296) (h : k ≤ 32) : a &&& mk k = cutA a k := by
  rw [mk_eq k h]
  unfold cutA sz
  apply Nat.eq_of_testBit_eq
  intro i
  rw [Nat.testBit_and, Nat.testBit_mul_two_pow, Nat.testBit_mul_two_pow, Nat.testBit_two_pow_sub_one, Nat.testBit_div_two_pow]
  by_cases h1 : 32 - k ≤ i
  · simp only [h1, decide_true, Bool.true_and, Nat.sub_add_cancel h1]
    by_cases h2 : i - (32 - k) < k
    · simp [h2]
    · have : a.testBit i = false := Nat.testBit_lt_two_pow (Nat.lt_of_lt_of_le ha (by rw [show (4294967296 : Nat) = 2 ^ 32 from by decide]; exact Nat.pow_le_pow_right (by omega) (by omega)))
      simp [this]
  · simp [h1]
theorem bits_u32 (op : BinOp) (a b : Nat) (ha : a < 4294967296) (hb : b < 4294967296) (f : Nat → Nat → Nat) (hf : f a b < 4294967296)
    (e : bits op .u32 (a : Int) (b : Int) = IntKind.u32.wrap ((f a b : Nat) : Int)) : bits op .u32 (a : Int) (b : Int) = (f a b : Int) := by
  rw [e, IntKind.wrap_u32]; omega
theorem bits_and_u32 (a b : Nat) (ha : a < 4294967296) (hb : b < 4294967296) : bits .and .u32 (a : Int) (b : Int) = ((a &&& b : Nat) : Int) := by
  have hf : a &&& b < 4294967296 := Nat.lt_of_le_of_lt Nat.and_le_left ha
  unfold bits
  have e : (BitVec.ofInt 32 (a : Int) &&& BitVec.ofInt 32 (b : Int)).toNat = a &&& b := by
    rw [BitVec.ofInt_natCast, BitVec.ofInt_natCast, BitVec.toNat_and, BitVec.toNat_ofNat, BitVec.toNat_ofNat, Nat.mod_eq_of_lt ha, Nat.mod_eq_of_lt hb]
  show IntKind.u32.wrap (((BitVec.ofInt 32 (a : Int) &&& BitVec.ofInt 32 (b : Int)).toNat : Nat) : Int) = _
  rw [e, IntKind.wrap_u32]; omega
theorem bits_or_u32 (a b : Nat) (ha : a < 4294967296) (hb : b < 4294967296) : bits .or .u32 (a : Int) (b : Int) = ((a ||| b : Nat) : Int) := by
  have hf : a ||| b < 4294967296 := Nat.or_lt_two_pow (n := 32) (by simpa using ha) (by simpa using hb)
  unfold bits
  have e : (BitVec.ofInt 32 (a : Int) ||| BitVec.ofInt 32 (b : Int)).toNat = a ||| b := by
    rw [BitVec.ofInt_natCast, BitVec.ofInt_natCast, BitVec.toNat_or, BitVec.toNat_ofNat, BitVec.toNat_ofNat, Nat.mod_eq_of_lt ha, Nat.mod_eq_of_lt hb]
  show IntKind.u32.wrap (((BitVec.ofInt 32 (a : Int) ||| BitVec.ofInt 32 (b : Int)).toNat : Nat) : Int) = _
  rw [e, IntKind.wrap_u32]; omega
theorem shl_mk (k : Nat) (h : k ≤ 32) : IntKind.u32.wrap (4294967295 * 2 ^ (32 - k) : Int) = (mk k : Int) := by
  have h1 := sz_pos k
  have h2 := sz_le k
  have e : (2 ^ (32 - k) : Int) = ((sz k : Nat) : Int) := (Int.natCast_pow 2 _).symm
  rw [e, IntKind.wrap_u32]
  unfold mk
  generalize sz k = s at *
  omega
theorem xor_mk (k : Nat) : bits .xor .u32 IntKind.u32.max (mk k : Int) = ((sz k - 1 : Nat) : Int) := by
  have hm := mk_lt k
  have e0 : IntKind.u32.max = ((4294967295 : Nat) : Int) := by decide
  have e1 : 4294967295 ^^^ mk k = 4294967295 - mk k := by
    apply Nat.eq_of_testBit_eq
    intro i
    rw [Nat.testBit_xor, show (4294967295 : Nat) = 2 ^ 32 - 1 from by decide, Nat.testBit_two_pow_sub_one, show 2 ^ 32 - 1 - mk k = 2 ^ 32 - (mk k + 1) by omega, Nat.testBit_two_pow_sub_succ (by simpa using hm)]
    by_cases h : i < 32
    · simp [h]
    · have : (mk k).testBit i = false := Nat.testBit_lt_two_pow (Nat.lt_of_lt_of_le hm (by rw [show (4294967296 : Nat) = 2 ^ 32 from by decide]; exact Nat.pow_le_pow_right (by omega) (by omega)))
      simp [h, this]
  rw [e0]
  unfold bits
  have e : (BitVec.ofInt 32 ((4294967295 : Nat) : Int) ^^^ BitVec.ofInt 32 (mk k : Int)).toNat = 4294967295 ^^^ mk k := by
    rw [BitVec.ofInt_natCast, BitVec.ofInt_natCast, BitVec.toNat_xor, BitVec.toNat_ofNat, BitVec.toNat_ofNat, Nat.mod_eq_of_lt (by omega), Nat.mod_eq_of_lt hm]
  show IntKind.u32.wrap (((BitVec.ofInt 32 ((4294967295 : Nat) : Int) ^^^ BitVec.ofInt 32 (mk k : Int)).toNat : Nat) : Int) = _
  rw [e, e1, IntKind.wrap_u32]
  have h1 := sz_pos k
  have h2 := sz_le k
  unfold mk at *
  omega
/-- Whether a prefix may be; whether it has an address. -/
def rightB (a : Nat) (n : Int) : Bool := decide (0 ≤ n ∧ n ≤ 32 ∧ a % sz n.toNat = 0)
def hasB (a : Nat) (n : Int) (x : Nat) : Bool := decide (cutA x (inB n) = a ∧ (inB n : Int) = n)
theorem inB_of (n : Int) (h0 : 0 ≤ n) (h1 : n ≤ 32) : inB n = n.toNat := by unfold inB; rw [if_neg (by omega), if_neg (by omega)]
theorem inB_iff (n : Int) : (inB n : Int) = n ↔ 0 ≤ n ∧ n ≤ 32 := by unfold inB; (repeat' split) <;> omega
theorem cut_self (a k : Nat) : cutA a k = a ↔ a % sz k = 0 := by
  unfold cutA
  have := Nat.div_add_mod a (sz k)
  rw [Nat.mul_comm]
  omega
theorem has_self (a : Nat) (n : Int) : hasB a n a = rightB a n := by
  unfold hasB rightB
  rw [decide_eq_decide, inB_iff]
  constructor
  · rintro ⟨h1, h2, h3⟩
    rw [inB_of n h2 h3, cut_self] at h1
    exact ⟨h2, h3, h1⟩
  · rintro ⟨h1, h2, h3⟩
    rw [inB_of n h1 h2, cut_self]
    exact ⟨h3, h1, h2⟩
theorem cut_iff (a x k : Nat) (h : a % sz k = 0) : cutA x k = a ↔ x / sz k = a / sz k := by
  have h1 := (cut_self a k).2 h
  unfold cutA at *
  constructor
  · intro h2
    have h3 := sz_pos k
    rw [← h2, Nat.mul_div_cancel _ h3]
  · intro h2; rw [h2]; exact h1
theorem hasB_iff (a : Nat) (n : Int) (x : Nat) (h : rightB a n = true) : hasB a n x = decide (x / sz n.toNat = a / sz n.toNat) := by
  obtain ⟨h0, h1, h2⟩ := of_decide_eq_true h
  unfold hasB
  rw [decide_eq_decide, inB_of n h0 h1, cut_iff a x _ h2]
  constructor
  · exact fun h => h.1
  · exact fun h => ⟨h, by omega⟩
/-- A prefix's last address. -/
theorem or_last (a k : Nat) (h : a % sz k = 0) : a ||| (sz k - 1) = a + (sz k - 1) := by
  have h1 := sz_pos k
  have e : a = 2 ^ (32 - k) * (a / sz k) := by
    have := (cut_self a k).2 h
    unfold cutA at this
    rw [Nat.mul_comm] at this
    exact this.symm
  have := Nat.two_pow_add_eq_or_of_lt (show sz k - 1 < 2 ^ (32 - k) by unfold sz at *; omega) (a / sz k)
  rw [← e] at this
  exact this.symm
theorem right_lt (a k : Nat) (ha : a < 4294967296) (hk : k ≤ 32) (h : a % sz k = 0) : a + (sz k - 1) < 4294967296 := by
  have h1 := sz_pos k
  have h2 := sz_mul k hk
  have h3 := (cut_self a k).2 h
  unfold cutA at h3
  have h4 : a / sz k < 2 ^ k := by
    rw [Nat.div_lt_iff_lt_mul h1, Nat.mul_comm, h2]; exact ha
  have h5 : (a / sz k + 1) * sz k ≤ 2 ^ k * sz k := Nat.mul_le_mul_right _ h4
  rw [Nat.mul_comm (2 ^ k), h2, Nat.add_mul, h3] at h5
  omega
end Go.Proofs.Ytgcbngephokegaa
