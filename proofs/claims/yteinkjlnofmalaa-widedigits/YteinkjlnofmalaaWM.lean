/- Plain arithmetic of counts of 128 bits: halves, sums, what is taken off, powers of two, tenths. No program in sight. -/
import Derived.Laws.BitsAllLaws
import Derived.Laws.Bits64
namespace Go.Proofs.Yteinkjlnofmalaa
set_option linter.unusedVariables false

/-- The high half of a count, and the low one. -/
def hi (n : Nat) : Int := ((n / 18446744073709551616 : Nat) : Int)
def lo (n : Nat) : Int := ((n % 18446744073709551616 : Nat) : Int)
/-- One more than the greatest count. -/
def MM : Nat := 340282366920938463463374607431768211456
def m64 (x : Int) : Int := x % 18446744073709551616
def d64 (x : Int) : Int := x / 18446744073709551616

theorem hi_nn (n : Nat) : 0 ≤ hi n := by unfold hi; omega
theorem lo_nn (n : Nat) : 0 ≤ lo n := by unfold lo; omega
theorem hi_le (n : Nat) (h : n < MM) : hi n ≤ 18446744073709551615 := by unfold hi; unfold MM at h; omega
theorem lo_le (n : Nat) : lo n ≤ 18446744073709551615 := by unfold lo; omega
theorem cn_of (h l : Int) (h0 : 0 ≤ h) (h1 : h ≤ 18446744073709551615) (l0 : 0 ≤ l) (l1 : l ≤ 18446744073709551615) :
    ∃ n, n < MM ∧ h = hi n ∧ l = lo n := by
  refine ⟨h.toNat * 18446744073709551616 + l.toNat, ?_, ?_, ?_⟩
  · unfold MM; omega
  · unfold hi; omega
  · unfold lo; omega
theorem hl_inj {a b : Nat} (h : hi a = hi b) (l : lo a = lo b) : a = b := by unfold hi at h; unfold lo at l; omega
theorem hi_zero : hi 0 = 0 := by decide
theorem lo_zero : lo 0 = 0 := by decide
theorem hi_one : hi 1 = 0 := by decide
theorem lo_one : lo 1 = 1 := by decide
theorem hi_small (l : Nat) (h : l < 18446744073709551616) : hi l = 0 := by unfold hi; omega
theorem lo_small (l : Nat) (h : l < 18446744073709551616) : lo l = (l : Int) := by unfold lo; omega
theorem MM_pos : 0 < MM := by decide
theorem mod_lt (n : Nat) : n % MM < MM := Nat.mod_lt _ MM_pos

/-! sums -/
theorem add_lo (a b : Nat) : m64 (lo a + lo b) = lo ((a + b) % MM) := by unfold m64 lo MM; omega
theorem add_hi (a b : Nat) (ha : a < MM) (hb : b < MM) : m64 (hi a + hi b + d64 (lo a + lo b)) = hi ((a + b) % MM) := by
  unfold m64 d64 lo hi MM; unfold MM at ha hb; omega
theorem carry_nn (a b : Nat) : 0 ≤ d64 (lo a + lo b) := by unfold d64 lo; omega
theorem carry_le (a b : Nat) : d64 (lo a + lo b) ≤ 1 := by unfold d64 lo; omega

/-! what is taken off -/
def sb (a b : Nat) : Nat := (a + MM - b) % MM
theorem sb_lt (a b : Nat) : sb a b < MM := mod_lt _
theorem sub_lo (a b : Nat) : (((a % 18446744073709551616 + 18446744073709551616 - b % 18446744073709551616 - 0) % 18446744073709551616 : Nat) : Int) = lo (sb a b) ∨ MM ≤ b := by
  unfold lo sb MM; omega
theorem sub_hi (a b : Nat) (ha : a < MM) (hb : b < MM) :
    (((a / 18446744073709551616 + 18446744073709551616 - b / 18446744073709551616 - (if a % 18446744073709551616 < b % 18446744073709551616 + 0 then 1 else 0)) % 18446744073709551616 : Nat) : Int) = hi (sb a b) := by
  unfold MM at ha hb
  unfold hi sb MM
  split <;> omega
theorem sub_back (a b : Nat) (ha : a < MM) (hb : b < MM) : sb ((a + b) % MM) b = a := by
  unfold sb MM; unfold MM at ha hb; omega

/-! the document's own sums: with what is carried, with what is borrowed -/
theorem radd_carry (a b : Nat) (ha : a < MM) (hb : b < MM) (h : m64 (lo a + lo b) < lo a) : m64 (m64 (hi a + hi b) + 1) = hi ((a + b) % MM) := by
  unfold m64 lo at h; unfold m64 hi MM; unfold MM at ha hb; omega
theorem radd_none (a b : Nat) (ha : a < MM) (hb : b < MM) (h : lo a ≤ m64 (lo a + lo b)) : m64 (hi a + hi b) = hi ((a + b) % MM) := by
  unfold m64 lo at h; unfold m64 hi MM; unfold MM at ha hb; omega
theorem rsub_lo (a b : Nat) (hb : b < MM) : m64 (lo a - lo b) = lo (sb a b) := by unfold m64 lo sb MM; unfold MM at hb; omega
theorem rsub_borrow (a b : Nat) (ha : a < MM) (hb : b < MM) (h : lo a < lo b) : m64 (m64 (hi a - hi b) - 1) = hi (sb a b) := by
  unfold lo at h; unfold m64 hi sb MM; unfold MM at ha hb; omega
theorem rsub_none (a b : Nat) (ha : a < MM) (hb : b < MM) (h : lo b ≤ lo a) : m64 (hi a - hi b) = hi (sb a b) := by
  unfold lo at h; unfold m64 hi sb MM; unfold MM at ha hb; omega

/-! which is less -/
theorem less_iff (a b : Nat) : (hi a < hi b ∨ hi a = hi b ∧ lo a < lo b) ↔ a < b := by unfold hi lo; omega
def cmpN (a b : Nat) : Int := if a < b then -1 else if b < a then 1 else 0
theorem cmp_neg (a b : Nat) : cmpN a b = - cmpN b a := by unfold cmpN; split <;> split <;> first | omega | (split <;> omega)

/-! powers of two -/
def upN (a : Nat) (n : Nat) : Nat := a * 2 ^ n % MM
theorem upN_lt (a n : Nat) : upN a n < MM := mod_lt _
theorem MM_eq : MM = 18446744073709551616 * 18446744073709551616 := by decide
theorem two64 : 2 ^ 64 = 18446744073709551616 := by decide
theorem cast_mp (x k : Nat) : ((x : Int) * 2 ^ k) % 18446744073709551616 = ((x * 2 ^ k % 18446744073709551616 : Nat) : Int) := by
  rw [Int.natCast_emod, Int.natCast_mul, Int.natCast_pow]; rfl
theorem up_hi_hi (a n : Nat) (hn : 64 ≤ n) : IntKind.u64.wrap (lo a * 2 ^ (n - 64)) = hi (upN a n) := by
  rw [IntKind.wrap_u64]
  obtain ⟨k, rfl⟩ : ∃ k, n = 64 + k := ⟨n - 64, by omega⟩
  rw [show 64 + k - 64 = k by omega]
  have e : (lo a * 2 ^ k) % 18446744073709551616 = (((a % 18446744073709551616) * 2 ^ k % 18446744073709551616 : Nat) : Int) := by
    exact cast_mp _ _
  rw [e]
  unfold hi upN
  have e2 : a * 2 ^ (64 + k) = 18446744073709551616 * (a * 2 ^ k) := by rw [Nat.pow_add, two64, ← Nat.mul_assoc, Nat.mul_comm a, Nat.mul_assoc]
  rw [e2, MM_eq, Nat.mul_mod_mul_left, Nat.mul_div_cancel_left _ (by decide)]
  rw [Nat.mod_mul_mod]
theorem up_hi_lo (a n : Nat) (hn : 64 ≤ n) : 0 = lo (upN a n) := by
  obtain ⟨k, rfl⟩ : ∃ k, n = 64 + k := ⟨n - 64, by omega⟩
  unfold lo upN
  have e2 : a * 2 ^ (64 + k) = 18446744073709551616 * (a * 2 ^ k) := by rw [Nat.pow_add, two64, ← Nat.mul_assoc, Nat.mul_comm a, Nat.mul_assoc]
  rw [e2, MM_eq, Nat.mul_mod_mul_left, Nat.mul_mod_right]; rfl
theorem up_lo_lo (a n : Nat) : IntKind.u64.wrap (lo a * 2 ^ n) = lo (upN a n) := by
  rw [IntKind.wrap_u64]
  have e : (lo a * 2 ^ n) % 18446744073709551616 = (((a % 18446744073709551616) * 2 ^ n % 18446744073709551616 : Nat) : Int) := by
    exact cast_mp _ _
  rw [e]; unfold lo upN
  rw [Nat.mod_mul_mod, MM_eq, Nat.mod_mul_right_mod]
theorem up_parts (A B P Q : Nat) (hPQ : P * Q = 18446744073709551616) (hP : 0 < P) (hB : B < 18446744073709551616) :
    (A * 18446744073709551616 + B) * P % (18446744073709551616 * 18446744073709551616) / 18446744073709551616 = A * P % 18446744073709551616 + B / Q ∧ A * P % 18446744073709551616 % P = 0 ∧ B / Q < P ∧ A * P % 18446744073709551616 + B / Q < 18446744073709551616 := by
  have hQ : 0 < Q := Nat.pos_of_ne_zero (by rintro rfl; simp at hPQ)
  have h1 : B / Q < P := by rw [Nat.div_lt_iff_lt_mul hQ, hPQ]; exact hB
  have h2 : A * P % 18446744073709551616 = P * (A % Q) := by
    rw [← hPQ, Nat.mul_comm A P, Nat.mul_mod_mul_left]
  have h3 : A % Q < Q := Nat.mod_lt _ hQ
  have h4 : P * (A % Q) + B / Q < P * Q := by
    calc P * (A % Q) + B / Q < P * (A % Q) + P := by omega
      _ = P * (A % Q + 1) := by rw [Nat.mul_add, Nat.mul_one]
      _ ≤ P * Q := Nat.mul_le_mul_left _ h3
  have hdm := Nat.div_add_mod B Q
  have hmod : B % Q < Q := Nat.mod_lt _ hQ
  have h5 : B * P = 18446744073709551616 * (B / Q) + P * (B % Q) := by
    rw [← hPQ]
    calc B * P = (Q * (B / Q) + B % Q) * P := by rw [hdm]
      _ = P * Q * (B / Q) + P * (B % Q) := by rw [Nat.add_mul, Nat.mul_comm (B % Q) P, Nat.mul_comm P Q, Nat.mul_assoc, Nat.mul_assoc, Nat.mul_comm (B / Q) P]
  have h6 : P * (B % Q) < 18446744073709551616 := by rw [← hPQ]; exact Nat.mul_lt_mul_of_pos_left hmod hP
  have h7 : (A * 18446744073709551616 + B) * P = 18446744073709551616 * (A * P + B / Q) + P * (B % Q) := by
    rw [Nat.add_mul, h5, Nat.mul_add, Nat.mul_comm A, Nat.mul_assoc]; omega
  refine ⟨?_, ?_, h1, ?_⟩
  · rw [h7, Nat.mod_mul_right_div_self]
    have : (18446744073709551616 * (A * P + B / Q) + P * (B % Q)) / 18446744073709551616 = A * P + B / Q := by
      rw [Nat.mul_add_div (by decide), Nat.div_eq_of_lt h6, Nat.add_zero]
    rw [this, h2]
    have h8 : A * P = P * (A % Q) + 18446744073709551616 * (A / Q) := by
      rw [← hPQ]
      calc A * P = (Q * (A / Q) + A % Q) * P := by rw [Nat.div_add_mod]
        _ = _ := by rw [Nat.add_mul, Nat.mul_comm (A % Q) P, Nat.mul_comm P Q, Nat.mul_assoc, Nat.mul_assoc, Nat.mul_comm (A / Q) P, Nat.add_comm]
    rw [h8, show P * (A % Q) + 18446744073709551616 * (A / Q) + B / Q = P * (A % Q) + B / Q + 18446744073709551616 * (A / Q) by omega, Nat.add_mul_mod_self_left]
    exact Nat.mod_eq_of_lt (by rw [← hPQ]; exact h4)
  · rw [h2, Nat.mul_mod_right]
  · rw [h2, ← hPQ]; exact h4
theorem up_lo_hi (a n : Nat) (hn : n < 64) : bits .or .u64 (IntKind.u64.wrap (hi a * 2 ^ n)) (lo a / 2 ^ (64 - n)) = hi (upN a n) := by
  rw [IntKind.wrap_u64]
  have e : (hi a * 2 ^ n) % 18446744073709551616 = (((a / 18446744073709551616) * 2 ^ n % 18446744073709551616 : Nat) : Int) := by
    exact cast_mp _ _
  have e1 : lo a / 2 ^ (64 - n) = ((a % 18446744073709551616 / 2 ^ (64 - n) : Nat) : Int) := by unfold lo; rw [Int.natCast_ediv, Int.natCast_pow]; rfl
  rw [e, e1]
  have hPQ : 2 ^ n * 2 ^ (64 - n) = 18446744073709551616 := by rw [← Nat.pow_add, show n + (64 - n) = 64 by omega]
  obtain ⟨p1, p2, p3, p4⟩ := up_parts (a / 18446744073709551616) (a % 18446744073709551616) (2 ^ n) (2 ^ (64 - n)) hPQ (Nat.two_pow_pos n) (Nat.mod_lt _ (by decide))
  rw [u64_or_nat _ _ (Nat.mod_lt _ (by decide)) (by omega), nat_join n _ _ p2 p3]
  unfold hi upN
  rw [MM_eq]
  have : a * 2 ^ n = (a / 18446744073709551616 * 18446744073709551616 + a % 18446744073709551616) * 2 ^ n := by rw [Nat.div_add_mod']
  rw [this, p1]
theorem up_add (a m n : Nat) : upN (upN a m) n = upN a (m + n) := by
  unfold upN; rw [Nat.mod_mul_mod, Nat.mul_assoc, ← Nat.pow_add]
theorem up_one (a : Nat) : upN a 1 = (a + a) % MM := by unfold upN; rw [show a * 2 ^ 1 = a + a by omega]
theorem up_zero (a : Nat) (h : a < MM) : upN a 0 = a := by unfold upN; rw [Nat.pow_zero, Nat.mul_one, Nat.mod_eq_of_lt h]
theorem up_succ (a n : Nat) : upN a (n + 1) = (upN a n + upN a n) % MM := by rw [← up_one, up_add]
theorem pow_lt (n : Nat) (h : n < 128) : 2 ^ n < MM := by
  calc 2 ^ n < 2 ^ 128 := Nat.pow_lt_pow_right (by decide) h
    _ = MM := by decide
theorem up_pow (n : Nat) (h : n < 128) : upN 1 n = 2 ^ n := by unfold upN; rw [Nat.one_mul, Nat.mod_eq_of_lt (pow_lt n h)]
end Go.Proofs.Yteinkjlnofmalaa
