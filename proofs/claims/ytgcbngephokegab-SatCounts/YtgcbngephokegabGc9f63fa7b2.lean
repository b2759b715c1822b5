/- Texts joined, in their order: QM, Q1, Q2. -/
import Derived.Laws.BitsAllLaws
import Derived.Laws.Bits64
import Derived.Test.YtgcbngephokegabRows
import Derived.WalkKit
import Derived.WalkSpells
import Derived.WalkLawsBesides
import Derived.Laws.Externs
import Derived.Shelf.Spec.BitsCarry
import Derived.Lib.Hide
import Derived.Deep.RegionHeld3
/- Plain arithmetic of counts of 128 bits: halves, sums, what is taken off, powers of two, tenths. No program in sight. -/
namespace Go.Proofs.Ytgcbngephokegab.Wd
set_option linter.unusedVariables false

/-- The high half of a count, and the low one. -/
def hi (n : Nat) : Int := ((n / 18446744073709551616 : Nat) : Int)
def lo (n : Nat) : Int := ((n % 18446744073709551616 : Nat) : Int)
/-- One more than the greatest count. -/
def MM : Nat := 340282366920938463463374607431768211456
def m64 (x : Int) : Int := x % 18446744073709551616
def d64 (x : Int) : Int := x / 18446744073709551616

theorem hi_nn (n : Nat) : 0 ≤ hi n := by unfold hi; omega
theorem lo_nn (n : Nat) : 0 ≤ lo n := by unfold lo; omega
theorem hi_le (n : Nat) (h : n < MM) : hi n ≤ 18446744073709551615 := by unfold hi; unfold MM at h; omega
theorem lo_le (n : Nat) : lo n ≤ 18446744073709551615 := by unfold lo; omega
theorem cn_of (h l : Int) (h0 : 0 ≤ h) (h1 : h ≤ 18446744073709551615) (l0 : 0 ≤ l) (l1 : l ≤ 18446744073709551615) :
    ∃ n, n < MM ∧ h = hi n ∧ l = lo n := by
  refine ⟨h.toNat * 18446744073709551616 + l.toNat, ?_, ?_, ?_⟩
  · unfold MM; omega
  · unfold hi; omega
  · unfold lo; omega
theorem hl_inj {a b : Nat} (h : hi a = hi b) (l : lo a = lo b) : a = b := by unfold hi at h; unfold lo at l; omega
theorem hi_zero : hi 0 = 0 := by decide
theorem lo_zero : lo 0 = 0 := by decide
theorem hi_one : hi 1 = 0 := by decide
theorem lo_one : lo 1 = 1 := by decide
theorem hi_small (l : Nat) (h : l < 18446744073709551616) : hi l = 0 := by unfold hi; omega
theorem lo_small (l : Nat) (h : l < 18446744073709551616) : lo l = (l : Int) := by unfold lo; omega
theorem MM_pos : 0 < MM := by decide
theorem mod_lt (n : Nat) : n % MM < MM := Nat.mod_lt _ MM_pos

/-! sums -/
theorem add_lo (a b : Nat) : m64 (lo a + lo b) = lo ((a + b) % MM) := by unfold m64 lo MM; omega
theorem add_hi (a b : Nat) (ha : a < MM) (hb : b < MM) : m64 (hi a + hi b + d64 (lo a + lo b)) = hi ((a + b) % MM) := by
  unfold m64 d64 lo hi MM; unfold MM at ha hb; omega
theorem carry_nn (a b : Nat) : 0 ≤ d64 (lo a + lo b) := by unfold d64 lo; omega
theorem carry_le (a b : Nat) : d64 (lo a + lo b) ≤ 1 := by unfold d64 lo; omega

/-! what is taken off -/
def sb (a b : Nat) : Nat := (a + MM - b) % MM
theorem sb_lt (a b : Nat) : sb a b < MM := mod_lt _
theorem sub_lo (a b : Nat) : (((a % 18446744073709551616 + 18446744073709551616 - b % 18446744073709551616 - 0) % 18446744073709551616 : Nat) : Int) = lo (sb a b) ∨ MM ≤ b := by
  unfold lo sb MM; omega
theorem sub_hi (a b : Nat) (ha : a < MM) (hb : b < MM) :
    (((a / 18446744073709551616 + 18446744073709551616 - b / 18446744073709551616 - (if a % 18446744073709551616 < b % 18446744073709551616 + 0 then 1 else 0)) % 18446744073709551616 : Nat) : Int) = hi (sb a b) := by
  unfold MM at ha hb
  unfold hi sb MM
  split <;> omega
theorem sub_back (a b : Nat) (ha : a < MM) (hb : b < MM) : sb ((a + b) % MM) b = a := by
  unfold sb MM; unfold MM at ha hb; omega

/-! the document's own sums: with what is carried, with what is borrowed -/
theorem radd_carry (a b : Nat) (ha : a < MM) (hb : b < MM) (h : m64 (lo a + lo b) < lo a) : m64 (m64 (hi a + hi b) + 1) = hi ((a + b) % MM) := by
  unfold m64 lo at h; unfold m64 hi MM; unfold MM at ha hb; omega
theorem radd_none (a b : Nat) (ha : a < MM) (hb : b < MM) (h : lo a ≤ m64 (lo a + lo b)) : m64 (hi a + hi b) = hi ((a + b) % MM) := by
  unfold m64 lo at h; unfold m64 hi MM; unfold MM at ha hb; omega
theorem rsub_lo (a b : Nat) (hb : b < MM) : m64 (lo a - lo b) = lo (sb a b) := by unfold m64 lo sb MM; unfold MM at hb; omega
theorem rsub_borrow (a b : Nat) (ha : a < MM) (hb : b < MM) (h : lo a < lo b) : m64 (m64 (hi a - hi b) - 1) = hi (sb a b) := by
  unfold lo at h; unfold m64 hi sb MM; unfold MM at ha hb; omega
theorem rsub_none (a b : Nat) (ha : a < MM) (hb : b < MM) (h : lo b ≤ lo a) : m64 (hi a - hi b) = hi (sb a b) := by
  unfold lo at h; unfold m64 hi sb MM; unfold MM at ha hb; omega

/-! which is less -/
theorem less_iff (a b : Nat) : (hi a < hi b ∨ hi a = hi b ∧ lo a < lo b) ↔ a < b := by unfold hi lo; omega
def cmpN (a b : Nat) : Int := if a < b then -1 else if b < a then 1 else 0
theorem cmp_neg (a b : Nat) : cmpN a b = - cmpN b a := by unfold cmpN; split <;> split <;> first | omega | (split <;> omega)

/-! powers of two -/
def upN (a : Nat) (n : Nat) : Nat := a * 2 ^ n % MM
theorem upN_lt (a n : Nat) : upN a n < MM := mod_lt _
theorem MM_eq : MM = 18446744073709551616 * 18446744073709551616 := by decide
theorem two64 : 2 ^ 64 = 18446744073709551616 := by decide
theorem cast_mp (x k : Nat) : ((x : Int) * 2 ^ k) % 18446744073709551616 = ((x * 2 ^ k % 18446744073709551616 : Nat) : Int) := by
  rw [Int.natCast_emod, Int.natCast_mul, Int.natCast_pow]; rfl
theorem up_hi_hi (a n : Nat) (hn : 64 ≤ n) : IntKind.u64.wrap (lo a * 2 ^ (n - 64)) = hi (upN a n) := by
  rw [IntKind.wrap_u64]
  obtain ⟨k, rfl⟩ : ∃ k, n = 64 + k := ⟨n - 64, by omega⟩
  rw [show 64 + k - 64 = k by omega]
  have e : (lo a * 2 ^ k) % 18446744073709551616 = (((a % 18446744073709551616) * 2 ^ k % 18446744073709551616 : Nat) : Int) := by
    exact cast_mp _ _
  rw [e]
  unfold hi upN
  have e2 : a * 2 ^ (64 + k) = 18446744073709551616 * (a * 2 ^ k) := by rw [Nat.pow_add, two64, ← Nat.mul_assoc, Nat.mul_comm a, Nat.mul_assoc]
  rw [e2, MM_eq, Nat.mul_mod_mul_left, Nat.mul_div_cancel_left _ (by decide)]
  rw [Nat.mod_mul_mod]
theorem up_hi_lo (a n : Nat) (hn : 64 ≤ n) : 0 = lo (upN a n) := by
  obtain ⟨k, rfl⟩ : ∃ k, n = 64 + k := ⟨n - 64, by omega⟩
  unfold lo upN
  have e2 : a * 2 ^ (64 + k) = 18446744073709551616 * (a * 2 ^ k) := by rw [Nat.pow_add, two64, ← Nat.mul_assoc, Nat.mul_comm a, Nat.mul_assoc]
  rw [e2, MM_eq, Nat.mul_mod_mul_left, Nat.mul_mod_right]; rfl
theorem up_lo_lo (a n : Nat) : IntKind.u64.wrap (lo a * 2 ^ n) = lo (upN a n) := by
  rw [IntKind.wrap_u64]
  have e : (lo a * 2 ^ n) % 18446744073709551616 = (((a % 18446744073709551616) * 2 ^ n % 18446744073709551616 : Nat) : Int) := by
    exact cast_mp _ _
  rw [e]; unfold lo upN
  rw [Nat.mod_mul_mod, MM_eq, Nat.mod_mul_right_mod]
theorem up_parts (A B P Q : Nat) (hPQ : P * Q = 18446744073709551616) (hP : 0 < P) (hB : B < 18446744073709551616) :
    (A * 18446744073709551616 + B) * P % (18446744073709551616 * 18446744073709551616) / 18446744073709551616 = A * P % 18446744073709551616 + B / Q ∧ A * P % 18446744073709551616 % P = 0 ∧ B / Q < P ∧ A * P % 18446744073709551616 + B / Q < 18446744073709551616 := by
  have hQ : 0 < Q := Nat.pos_of_ne_zero (by rintro rfl; simp at hPQ)
  have h1 : B / Q < P := by rw [Nat.div_lt_iff_lt_mul hQ, hPQ]; exact hB
  have h2 : A * P % 18446744073709551616 = P * (A % Q) := by
    rw [← hPQ, Nat.mul_comm A P, Nat.mul_mod_mul_left]
  have h3 : A % Q < Q := Nat.mod_lt _ hQ
  have h4 : P * (A % Q) + B / Q < P * Q := by
    calc P * (A % Q) + B / Q < P * (A % Q) + P := by omega
      _ = P * (A % Q + 1) := by rw [Nat.mul_add, Nat.mul_one]
      _ ≤ P * Q := Nat.mul_le_mul_left _ h3
  have hdm := Nat.div_add_mod B Q
  have hmod : B % Q < Q := Nat.mod_lt _ hQ
  have h5 : B * P = 18446744073709551616 * (B / Q) + P * (B % Q) := by
    rw [← hPQ]
    calc B * P = (Q * (B / Q) + B % Q) * P := by rw [hdm]
      _ = P * Q * (B / Q) + P * (B % Q) := by rw [Nat.add_mul, Nat.mul_comm (B % Q) P, Nat.mul_comm P Q, Nat.mul_assoc, Nat.mul_assoc, Nat.mul_comm (B / Q) P]
  have h6 : P * (B % Q) < 18446744073709551616 := by rw [← hPQ]; exact Nat.mul_lt_mul_of_pos_left hmod hP
  have h7 : (A * 18446744073709551616 + B) * P = 18446744073709551616 * (A * P + B / Q) + P * (B % Q) := by
    rw [Nat.add_mul, h5, Nat.mul_add, Nat.mul_comm A, Nat.mul_assoc]; omega
  refine ⟨?_, ?_, h1, ?_⟩
  · rw [h7, Nat.mod_mul_right_div_self]
    have : (18446744073709551616 * (A * P + B / Q) + P * (B % Q)) / 18446744073709551616 = A * P + B / Q := by
      rw [Nat.mul_add_div (by decide), Nat.div_eq_of_lt h6, Nat.add_zero]
    rw [this, h2]
    have h8 : A * P = P * (A % Q) + 18446744073709551616 * (A / Q) := by
      rw [← hPQ]
      calc A * P = (Q * (A / Q) + A % Q) * P := by rw [Nat.div_add_mod]
        _ = _ := by rw [Nat.add_mul, Nat.mul_comm (A % Q) P, Nat.mul_comm P Q, Nat.mul_assoc, Nat.mul_assoc, Nat.mul_comm (A / Q) P, Nat.add_comm]
    rw [h8, show P * (A % Q) + 18446744073709551616 * (A / Q) + B / Q = P * (A % Q) + B / Q + 18446744073709551616 * (A / Q) by omega, Nat.add_mul_mod_self_left]
    exact Nat.mod_eq_of_lt (by rw [← hPQ]; exact h4)
  · rw [h2, Nat.mul_mod_right]
  · rw [h2, ← hPQ]; exact h4
theorem up_lo_hi (a n : Nat) (hn : n < 64) : bits .or .u64 (IntKind.u64.wrap (hi a * 2 ^ n)) (lo a / 2 ^ (64 - n)) = hi (upN a n) := by
  rw [IntKind.wrap_u64]
  have e : (hi a * 2 ^ n) % 18446744073709551616 = (((a / 18446744073709551616) * 2 ^ n % 18446744073709551616 : Nat) : Int) := by
    exact cast_mp _ _
  have e1 : lo a / 2 ^ (64 - n) = ((a % 18446744073709551616 / 2 ^ (64 - n) : Nat) : Int) := by unfold lo; rw [Int.natCast_ediv, Int.natCast_pow]; rfl
  rw [e, e1]
  have hPQ : 2 ^ n * 2 ^ (64 - n) = 18446744073709551616 := by rw [← Nat.pow_add, show n + (64 - n) = 64 by omega]
  obtain ⟨p1, p2, p3, p4⟩ := up_parts (a / 18446744073709551616) (a % 18446744073709551616) (2 ^ n) (2 ^ (64 - n)) hPQ (Nat.two_pow_pos n) (Nat.mod_lt _ (by decide))
  rw [u64_or_nat _ _ (Nat.mod_lt _ (by decide)) (by omega), nat_join n _ _ p2 p3]
  unfold hi upN
  rw [MM_eq]
  have : a * 2 ^ n = (a / 18446744073709551616 * 18446744073709551616 + a % 18446744073709551616) * 2 ^ n := by rw [Nat.div_add_mod']
  rw [this, p1]
theorem up_add (a m n : Nat) : upN (upN a m) n = upN a (m + n) := by
  unfold upN; rw [Nat.mod_mul_mod, Nat.mul_assoc, ← Nat.pow_add]
theorem up_one (a : Nat) : upN a 1 = (a + a) % MM := by unfold upN; rw [show a * 2 ^ 1 = a + a by omega]
theorem up_zero (a : Nat) (h : a < MM) : upN a 0 = a := by unfold upN; rw [Nat.pow_zero, Nat.mul_one, Nat.mod_eq_of_lt h]
theorem up_succ (a n : Nat) : upN a (n + 1) = (upN a n + upN a n) % MM := by rw [← up_one, up_add]
theorem pow_lt (n : Nat) (h : n < 128) : 2 ^ n < MM := by
  calc 2 ^ n < 2 ^ 128 := Nat.pow_lt_pow_right (by decide) h
    _ = MM := by decide
theorem up_pow (n : Nat) (h : n < 128) : upN 1 n = 2 ^ n := by unfold upN; rw [Nat.one_mul, Nat.mod_eq_of_lt (pow_lt n h)]
end Go.Proofs.Ytgcbngephokegab.Wd
/- The small functions of layer 1: what each call answers, of any counts; nothing that was there before is turned. -/
namespace Go.Proofs.Ytgcbngephokegab.Wd
open Go.RowKit
set_option linter.unusedVariables false

/-- A count as a value. -/
abbrev cv (h l : Int) : Value := .agg #[.int .u64 h, .int .u64 l]
abbrev cn (n : Nat) : Value := .agg #[.int .u64 (hi n), .int .u64 (lo n)]
theorem cv_cn {h l : Int} {n : Nat} (e1 : h = hi n) (e2 : l = lo n) : cv h l = cn n := by rw [e1, e2]
theorem cn_zero : cv 0 0 = cn 0 := by rw [cn, hi_zero, lo_zero]
theorem ret_cn {h l : Int} {n : Nat} (e1 : h = hi n) (e2 : l = lo n) : Ending.returned (cv h l) = .returned (cn n) := by rw [e1, e2]
theorem ret_bool {a b : Bool} (h : a = b) : Ending.returned (.bool a) = .returned (.bool b) := by rw [h]
theorem ret_int {k : IntKind} {a b : Int} (h : a = b) : Ending.returned (.int k a) = .returned (.int k b) := by rw [h]

theorem add64_run (x y c : Int) (hx : 0 ≤ x) (hy : 0 ≤ y) (hc0 : 0 ≤ c) (hc : c ≤ 1) (w : World) :
    (callFunc 56 #[.int .u64 x, .int .u64 y, .int .u64 c]).run Try.prog w =
      .ok (.value (.tuple #[.int .u64 (m64 (x + y + c)), .int .u64 (d64 (x + y + c))])) w := by
  rw [run_callFunc_extern Try.func56 (by kernel_rfl) (by kernel_rfl) (by kernel_rfl) (e := add64Entry) (by kernel_rfl), run_add64 x y c hx hy hc0 hc]
  rfl
/-- What is borrowed of the low halves. -/
def bo (a b : Nat) : Int := ((if a % 18446744073709551616 < b % 18446744073709551616 + 0 then 1 else 0 : Nat) : Int)
/-- What is borrowed of the high halves: nobody asks. -/
def bh (a b : Nat) : Int := ((if a / 18446744073709551616 < b / 18446744073709551616 + (if a % 18446744073709551616 < b % 18446744073709551616 + 0 then 1 else 0) then 1 else 0 : Nat) : Int)
set_option maxHeartbeats 400000 in
theorem add_any (a b : Nat) (ha : a < MM) (hb : b < MM) (w : World) :
    Calls Try.prog 48 #[cn a, cn b] w fun e w' => e = .returned (cn ((a + b) % MM)) ∧ Below w.heap.size w w' := by
  have q1 := fun w => add64_run (lo a) (lo b) 0 (lo_nn _) (lo_nn _) (by omega) (by omega) w
  have q2 := fun w => add64_run (hi a) (hi b) (d64 (lo a + lo b)) (hi_nn _) (hi_nn _) (carry_nn a b) (carry_le a b) w
  simp only [Int.add_zero, add_lo, add_hi a b ha hb] at q1 q2
  go_enter Try.func48, Try.ntmps48
  go_wp2
  exact bodyPost_ret (v := cn ((a + b) % MM)) (by simp [results, Try.results48, go_sem]) rfl ⟨rfl, (((Below.refl _ _).alloc (Nat.le_refl _) _).alloc (by simp) _).alloc (by simp; omega) _⟩

theorem wrap_m64 (x : Int) : IntKind.u64.wrap x = m64 x := IntKind.wrap_u64 x

set_option maxHeartbeats 400000 in
theorem radd_any (a b : Nat) (ha : a < MM) (hb : b < MM) (w : World) :
    Calls Try.prog 45 #[cn a, cn b] w fun e w' => e = .returned (cn ((a + b) % MM)) ∧ Below w.heap.size w w' := by
  have q1 : IntKind.u64.wrap (lo a + lo b) = lo ((a + b) % MM) := by rw [wrap_m64, add_lo]
  by_cases c : lo ((a + b) % MM) < lo a
  · have q2 : IntKind.u64.wrap (IntKind.u64.wrap (hi a + hi b) + 1) = hi ((a + b) % MM) := by rw [wrap_m64, wrap_m64]; exact radd_carry a b ha hb (by rw [add_lo]; exact c)
    go_enter Try.func45, Try.ntmps45
    go_wp2
    exact bodyPost_ret (v := cn ((a + b) % MM)) (by simp [results, Try.results45, go_sem]) rfl ⟨rfl, (((Below.refl _ _).alloc (Nat.le_refl _) _).alloc (by simp) _).alloc (by simp; omega) _⟩
  · have q2 : IntKind.u64.wrap (hi a + hi b) = hi ((a + b) % MM) := by rw [wrap_m64]; exact radd_none a b ha hb (by rw [add_lo]; omega)
    go_enter Try.func45, Try.ntmps45
    go_wp2
    exact bodyPost_ret (v := cn ((a + b) % MM)) (by simp [results, Try.results45, go_sem]) rfl ⟨rfl, (((Below.refl _ _).alloc (Nat.le_refl _) _).alloc (by simp) _).alloc (by simp; omega) _⟩

/-- A count up by n places; none below 0 or from 128 on. -/
def upI (a : Nat) (n : Int) : Nat := if 0 ≤ n ∧ n < 128 then upN a n.toNat else 0
theorem upI_in (a n : Nat) (h : n < 128) : upI a (n : Int) = upN a n := by unfold upI; rw [if_pos (by omega)]; rfl
theorem upI_out (a : Nat) (n : Int) (h : n < 0 ∨ 128 ≤ n) : upI a n = 0 := by unfold upI; rw [if_neg (by omega)]
theorem upI_lt (a : Nat) (n : Int) : upI a n < MM := by unfold upI; split; exact upN_lt _ _; exact MM_pos

set_option maxHeartbeats 400000 in
theorem up_any (a : Nat) (n : Int) (ha : a < MM) (w : World) :
    Calls Try.prog 26 #[cn a, .int .i64 n] w fun e w' => e = .returned (cn (upI a n)) ∧ Below w.heap.size w w' := by
  by_cases c1 : n < 0
  · rw [upI_out a n (Or.inl c1)]
    go_enter Try.func26, Try.ntmps26
    go_wp2
    exact bodyPost_ret (v := cv 0 0) (by simp [results, Try.results26, go_sem]) rfl ⟨ret_cn hi_zero.symm lo_zero.symm, ((Below.refl _ _).alloc (Nat.le_refl _) _).alloc (by simp) _⟩
  by_cases c2 : 128 ≤ n
  · rw [upI_out a n (Or.inr c2)]
    go_enter Try.func26, Try.ntmps26
    go_wp2
    exact bodyPost_ret (v := cv 0 0) (by simp [results, Try.results26, go_sem]) rfl ⟨ret_cn hi_zero.symm lo_zero.symm, ((Below.refl _ _).alloc (Nat.le_refl _) _).alloc (by simp) _⟩
  obtain ⟨k, rfl⟩ := Int.eq_ofNat_of_zero_le (show 0 ≤ n by omega)
  rw [upI_in a k (by omega)]
  clear c1
  by_cases c3 : 64 ≤ k
  · have q1 := up_hi_hi a k c3
    have h1 : k < 128 := by omega
    clear c2
    go_enter Try.func26, Try.ntmps26
    go_wp2
    exact bodyPost_ret (v := cv (hi (upN a k)) 0) (by simp [results, Try.results26, go_sem]) rfl ⟨ret_cn rfl (up_hi_lo a k c3), ((Below.refl _ _).alloc (Nat.le_refl _) _).alloc (by simp) _⟩
  · have q1 := up_lo_lo a k
    have q2 := up_lo_hi a k (by omega)
    have h1 : k < 64 := by omega
    have h2 := lo_nn a
    clear c2 c3
    go_enter Try.func26, Try.ntmps26
    go_wp2
    go_region
    go_wp2
    exact bodyPost_ret (v := cn (upN a k)) (by simp [results, Try.results26, go_sem]) rfl ⟨rfl, (((Below.refl _ _).alloc (Nat.le_refl _) _).alloc (by simp) _).drew⟩

set_option maxHeartbeats 400000 in
theorem of_any (l : Int) (w : World) :
    Calls Try.prog 30 #[.int .u64 l] w fun e w' => e = .returned (cv 0 l) ∧ Below w.heap.size w w' := by
  go_enter Try.func30, Try.ntmps30
  go_wp2
  exact bodyPost_ret (v := cv 0 l) (by simp [results, Try.results30, go_sem]) rfl ⟨rfl, ((Below.refl _ _).alloc (Nat.le_refl _) _)⟩

theorem isz (a : Nat) : (hi a = 0 ∧ lo a = 0) ↔ a = 0 := by unfold hi lo; omega
set_option maxHeartbeats 400000 in
theorem zero_any (a : Nat) (w : World) :
    Calls Try.prog 11 #[cn a] w fun e w' => e = .returned (.bool (decide (a = 0))) ∧ Below w.heap.size w w' := by
  by_cases c : a = 0
  · subst c
    rw [cn, hi_zero, lo_zero]
    go_enter Try.func11, Try.ntmps11
    go_wp2
    go_ret
    exact ⟨rfl, ((Below.refl _ _).alloc (Nat.le_refl _) _)⟩
  · have hz := mt (isz a).1 c
    rw [decide_eq_false c]
    by_cases c1 : hi a = 0
    · have c2 : (lo a == 0) = false := by simp; exact fun h => hz ⟨c1, h⟩
      rw [cn, c1]
      clear c1 hz c
      go_enter Try.func11, Try.ntmps11
      go_wp2
      go_ret
      exact ⟨rfl, ((Below.refl _ _).alloc (Nat.le_refl _) _)⟩
    · clear hz c
      go_enter Try.func11, Try.ntmps11
      go_wp2
      go_ret
      exact ⟨rfl, ((Below.refl _ _).alloc (Nat.le_refl _) _)⟩

def cmpI (x y : Int) : Int := if x < y then -1 else if y < x then 1 else 0
theorem cmp_hi (a b : Nat) (h : hi a ≠ hi b) : cmpI (hi a) (hi b) = cmpN a b := by
  have h1 := less_iff a b; have h2 := less_iff b a
  unfold cmpI cmpN; split <;> split <;> first | rfl | omega | skip
  all_goals (split <;> first | rfl | omega | skip)
  all_goals (split <;> first | rfl | omega)
theorem cmp_lo (a b : Nat) (h : hi a = hi b) : cmpI (lo a) (lo b) = cmpN a b := by
  have h1 := less_iff a b; have h2 := less_iff b a
  unfold cmpI cmpN; split <;> split <;> first | rfl | omega | skip
  all_goals (split <;> first | rfl | omega | skip)
  all_goals (split <;> first | rfl | omega)
end Go.Proofs.Ytgcbngephokegab.Wd
/- Powers of two (the program's, and the document's, doubled again and again); the greatest count. -/
namespace Go.Proofs.Ytgcbngephokegab.Wd
open Go.RowKit
set_option linter.unusedVariables false
theorem bcell {W w1 : World} (hb : Below W.heap.size W w1) : (∀ b o, b < W.heap.size → w1.cell? ⟨b, o, none⟩ = W.cell? ⟨b, o, none⟩) ∧ (∀ b o, b < W.heap.size → w1.frozen? ⟨b, o, none⟩ = W.frozen? ⟨b, o, none⟩) :=
  ⟨fun b o h => hb.cell (p := ⟨b, o, none⟩) h, fun b o h => hb.frozen (p := ⟨b, o, none⟩) h⟩

/-- Block b is one of two numbers, x and y, and may be written. -/
def Two (w : World) (b : Nat) (x y : Int) : Prop :=
  w.cell? ⟨b, 0, none⟩ = some (.int .u64 x) ∧ w.cell? ⟨b, 1, none⟩ = some (.int .u64 y) ∧ w.frozen? ⟨b, 0, none⟩ = false ∧ w.frozen? ⟨b, 1, none⟩ = false
theorem Two.later {B b : Nat} {w w' : World} {x y : Int} (h : Two w b x y) (hb : Below B w w') (hlt : b < B) : Two w' b x y :=
  ⟨(hb.cell (p := ⟨b, 0, none⟩) hlt).trans h.1, (hb.cell (p := ⟨b, 1, none⟩) hlt).trans h.2.1, (hb.frozen (p := ⟨b, 0, none⟩) hlt).trans h.2.2.1, (hb.frozen (p := ⟨b, 1, none⟩) hlt).trans h.2.2.2⟩
theorem Two.set {b : Nat} {w : World} {x y : Int} (h : Two w b x y) (x' y' : Int) : Two ((w.setCell ⟨b, 0, none⟩ (.int .u64 x')).setCell ⟨b, 1, none⟩ (.int .u64 y')) b x' y' := by
  obtain ⟨h0, h1, f0, f1⟩ := h
  refine ⟨?_, ?_, ?_, ?_⟩
  · rw [World.cell?_setCell_other _ _ _ _ (by simp)]; exact World.cell?_setCell_same _ _ _ h0
  · exact World.cell?_setCell_same _ _ _ (by rw [World.cell?_setCell_other _ _ _ _ (by simp)]; exact h1)
  · simp [f0]
  · simp [f1]
theorem Two.set_other {b b' : Nat} {w : World} {x y : Int} (h : Two w b x y) (hne : b ≠ b') (u v : Value) : Two ((w.setCell ⟨b', 0, none⟩ u).setCell ⟨b', 1, none⟩ v) b x y := by
  obtain ⟨h0, h1, f0, f1⟩ := h
  refine ⟨?_, ?_, ?_, ?_⟩
  · rw [World.cell?_setCell_far _ _ _ _ (by simp; omega), World.cell?_setCell_far _ _ _ _ (by simp; omega)]; exact h0
  · rw [World.cell?_setCell_far _ _ _ _ (by simp; omega), World.cell?_setCell_far _ _ _ _ (by simp; omega)]; exact h1
  · simp [f0]
  · simp [f1]

set_option maxHeartbeats 400000 in
theorem pow_any (n : Int) (w : World) :
    Calls Try.prog 15 #[.int .i64 n] w fun e w' => e = .returned (cn (upI 1 n)) ∧ Below w.heap.size w w' := by
  go_enter Try.func15, Try.ntmps15
  go_wp2_with fail
  refine (of_any _ _).mono ?_
  rintro e w1 ⟨rfl, hb1⟩
  obtain ⟨hc1, hf1⟩ := bcell hb1
  have hz1 : w.heap.size < w1.heap.size := by have := hb1.size; simp at this; omega
  go_wp2_with fail
  refine (up_any 1 n (by decide) _).mono ?_
  rintro e w2 ⟨rfl, hb2⟩
  obtain ⟨hc2, hf2⟩ := bcell hb2
  go_wp2_with fail
  refine bodyPost_ret (v := cn (upI 1 n)) (by simp [results, Try.results15, go_sem, hc2, hc1, hz1]) rfl ⟨rfl, ?_⟩
  exact ((((Below.refl _ _).alloc (Nat.le_refl _) _).trans ((hb1.mono (by simp)).trans (hb2.mono (by omega)))).setCell (by simp) _).setCell (by simp) _

set_option maxHeartbeats 400000 in
theorem rup_in (a n : Nat) (ha : a < MM) (hn : n < 128) (w : World) :
    Calls Try.prog 23 #[cn a, .int .i64 n] w fun e w' => e = .returned (cn (upN a n)) ∧ Below w.heap.size w w' := by
  have d1 : decide ((n : Int) < 0) = false := by simp
  have d2 : decide (128 ≤ (n : Int)) = false := by simp; omega
  go_enter Try.func23, Try.ntmps23
  go_wp2
  go_loopw [5] (fun i wr => ∃ k : Nat, k ≤ n ∧ i = .int .i64 k ∧ Below w.heap.size w wr ∧ w.heap.size + 1 < wr.heap.size ∧ Two wr w.heap.size (hi (upN a k)) (lo (upN a k)) ∧ Two wr (w.heap.size + 1) 0 0)
    (fun i _ => n - (intOf i).toNat)
  case atStart =>
    refine ⟨0, Nat.zero_le _, rfl, ((Below.refl _ _).alloc (Nat.le_refl _) _).alloc (by simp) _, by simp, ?_, ?_⟩
    · rw [up_zero a ha]; exact ⟨by simp [go_sem], by simp [go_sem], by simp [go_sem], by simp [go_sem]⟩
    · exact ⟨by simp [go_sem], by simp [go_sem], by simp [go_sem], by simp [go_sem]⟩
  case round =>
    obtain ⟨k, hk, rfl, hbr, hsz, ht, ht1⟩ := hrel
    have HT := Lib.hid ht
    have HT1 := Lib.hid ht1
    obtain ⟨t0, t1, f0, f1⟩ := ht
    obtain ⟨s0, s1, g0, g1⟩ := ht1
    by_cases hlt : k < n
    · clear s0 s1 g0 g1
      go_wp2_with fail
      refine (radd_any _ _ (upN_lt a k) (upN_lt a k) _).mono ?_
      rw [← up_succ]
      rintro e w1 ⟨rfl, hb1⟩
      have hz1 : w.heap.size + 1 < w1.heap.size := by have := hb1.size; omega
      clear t0 t1 f0 f1
      obtain ⟨t0, t1, f0, f1⟩ := HT.out.later hb1 (by omega)
      go_wp2_with fail
      go_roundw
      case rel =>
        refine ⟨k + 1, by omega, by go_num, ?_, by simp; omega, ?_, ?_⟩
        · exact ((hbr.trans (hb1.mono (by omega))).setCell (by simp) _).setCell (by simp) _
        · exact (HT.out.later hb1 (by omega)).set _ _
        · exact (HT1.out.later hb1 (by omega)).set_other (by omega) _ _
      case measure => simp [intOf]; omega
    · have hkn : n = k := by omega
      subst hkn
      go_wp2
      refine bodyPost_ret (v := cn (upN a n)) (by simp [results, Try.results23, go_sem, s0, s1]) rfl ⟨rfl, ?_⟩
      exact (hbr.setCell (by simp) _).setCell (by simp) _

set_option maxHeartbeats 400000 in
theorem rup_any (a : Nat) (n : Int) (ha : a < MM) (w : World) :
    Calls Try.prog 23 #[cn a, .int .i64 n] w fun e w' => e = .returned (cn (upI a n)) ∧ Below w.heap.size w w' := by
  by_cases c1 : n < 0
  · rw [upI_out a n (Or.inl c1)]
    go_enter Try.func23, Try.ntmps23
    go_wp2
    exact bodyPost_ret (v := cv 0 0) (by simp [results, Try.results23, go_sem]) rfl ⟨ret_cn hi_zero.symm lo_zero.symm, ((Below.refl _ _).alloc (Nat.le_refl _) _).alloc (by simp) _⟩
  by_cases c2 : 128 ≤ n
  · rw [upI_out a n (Or.inr c2)]
    go_enter Try.func23, Try.ntmps23
    go_wp2
    exact bodyPost_ret (v := cv 0 0) (by simp [results, Try.results23, go_sem]) rfl ⟨ret_cn hi_zero.symm lo_zero.symm, ((Below.refl _ _).alloc (Nat.le_refl _) _).alloc (by simp) _⟩
  obtain ⟨k, rfl⟩ := Int.eq_ofNat_of_zero_le (show 0 ≤ n by omega)
  rw [upI_in a k (by omega)]
  exact rup_in a k ha (by omega) w
end Go.Proofs.Ytgcbngephokegab.Wd
