/- The small functions of layer 1: what each call answers, of any counts; nothing that was there before is turned. -/
import Derived.Test.YteinkjlnofmalaaRows
import Derived.Test.YteinkjlnofmalaaWM
import Derived.WalkKit
import Derived.WalkSpells
import Derived.WalkLawsBesides
import Derived.Laws.Externs
import Derived.Shelf.Spec.BitsCarry
namespace Go.Proofs.Yteinkjlnofmalaa
open Go.RowKit
set_option linter.unusedVariables false

/-- A count as a value. -/
abbrev cv (h l : Int) : Value := .agg #[.int .u64 h, .int .u64 l]
abbrev cn (n : Nat) : Value := .agg #[.int .u64 (hi n), .int .u64 (lo n)]
theorem cv_cn {h l : Int} {n : Nat} (e1 : h = hi n) (e2 : l = lo n) : cv h l = cn n := by rw [e1, e2]
theorem cn_zero : cv 0 0 = cn 0 := by rw [cn, hi_zero, lo_zero]
theorem ret_cn {h l : Int} {n : Nat} (e1 : h = hi n) (e2 : l = lo n) : Ending.returned (cv h l) = .returned (cn n) := by rw [e1, e2]
theorem ret_bool {a b : Bool} (h : a = b) : Ending.returned (.bool a) = .returned (.bool b) := by rw [h]
theorem ret_int {k : IntKind} {a b : Int} (h : a = b) : Ending.returned (.int k a) = .returned (.int k b) := by rw [h]

theorem add64_run (x y c : Int) (hx : 0 ≤ x) (hy : 0 ≤ y) (hc0 : 0 ≤ c) (hc : c ≤ 1) (w : World) :
    (callFunc 25 #[.int .u64 x, .int .u64 y, .int .u64 c]).run Try.prog w =
      .ok (.value (.tuple #[.int .u64 (m64 (x + y + c)), .int .u64 (d64 (x + y + c))])) w := by
  rw [run_callFunc_extern Try.func25 (by kernel_rfl) (by kernel_rfl) (by kernel_rfl) (e := add64Entry) (by kernel_rfl), run_add64 x y c hx hy hc0 hc]
  rfl
theorem sub64_run (x y b : Nat) (hb : b ≤ 1) (w : World) :
    (callFunc 26 #[.int .u64 x, .int .u64 y, .int .u64 b]).run Try.prog w =
      .ok (.value (.tuple #[.int .u64 (((x + 18446744073709551616 - y - b) % 18446744073709551616 : Nat) : Int), .int .u64 ((if x < y + b then 1 else 0 : Nat) : Int)])) w := by
  rw [run_callFunc_extern Try.func26 (by kernel_rfl) (by kernel_rfl) (by kernel_rfl) (e := sub64Entry) (by kernel_rfl), run_sub64 x y b hb]
  rfl
/-- What is borrowed of the low halves. -/
def bo (a b : Nat) : Int := ((if a % 18446744073709551616 < b % 18446744073709551616 + 0 then 1 else 0 : Nat) : Int)
theorem sub64_lo (a b : Nat) (hb : b < MM) (w : World) :
    (callFunc 26 #[.int .u64 (lo a), .int .u64 (lo b), .int .u64 0]).run Try.prog w = .ok (.value (.tuple #[.int .u64 (lo (sb a b)), .int .u64 (bo a b)])) w := by
  have h := sub64_run (a % 18446744073709551616) (b % 18446744073709551616) 0 (by omega) w
  have e := (sub_lo a b).resolve_right (by omega)
  rw [e] at h
  exact h
theorem sub64_hi (a b : Nat) (ha : a < MM) (hb : b < MM) (w : World) :
    ∃ x, (callFunc 26 #[.int .u64 (hi a), .int .u64 (hi b), .int .u64 (bo a b)]).run Try.prog w = .ok (.value (.tuple #[.int .u64 (hi (sb a b)), .int .u64 x])) w := by
  have h := sub64_run (a / 18446744073709551616) (b / 18446744073709551616) (if a % 18446744073709551616 < b % 18446744073709551616 + 0 then 1 else 0) (by split <;> omega) w
  rw [sub_hi a b ha hb] at h
  exact ⟨_, h⟩
/-- What is borrowed of the high halves: nobody asks. -/
def bh (a b : Nat) : Int := ((if a / 18446744073709551616 < b / 18446744073709551616 + (if a % 18446744073709551616 < b % 18446744073709551616 + 0 then 1 else 0) then 1 else 0 : Nat) : Int)
theorem sub64_hi' (a b : Nat) (ha : a < MM) (hb : b < MM) (w : World) :
    (callFunc 26 #[.int .u64 (hi a), .int .u64 (hi b), .int .u64 (bo a b)]).run Try.prog w = .ok (.value (.tuple #[.int .u64 (hi (sb a b)), .int .u64 (bh a b)])) w := by
  have h := sub64_run (a / 18446744073709551616) (b / 18446744073709551616) (if a % 18446744073709551616 < b % 18446744073709551616 + 0 then 1 else 0) (by split <;> omega) w
  rw [sub_hi a b ha hb] at h
  exact h

set_option maxHeartbeats 400000 in
theorem to_any (h l : Int) (w : World) :
    Calls Try.prog 8 #[cv h l] w fun e w' => e = .returned (cv h l) ∧ Below w.heap.size w w' := by
  go_enter Try.func8, Try.ntmps8
  go_wp2
  exact bodyPost_ret (v := cv h l) (by simp [results, Try.results8, go_sem]) rfl ⟨rfl, ((Below.refl _ _).alloc (Nat.le_refl _) _).alloc (by simp) _⟩

set_option maxHeartbeats 400000 in
theorem add_any (a b : Nat) (ha : a < MM) (hb : b < MM) (w : World) :
    Calls Try.prog 11 #[cn a, cn b] w fun e w' => e = .returned (cn ((a + b) % MM)) ∧ Below w.heap.size w w' := by
  have q1 := fun w => add64_run (lo a) (lo b) 0 (lo_nn _) (lo_nn _) (by omega) (by omega) w
  have q2 := fun w => add64_run (hi a) (hi b) (d64 (lo a + lo b)) (hi_nn _) (hi_nn _) (carry_nn a b) (carry_le a b) w
  simp only [Int.add_zero, add_lo, add_hi a b ha hb] at q1 q2
  go_enter Try.func11, Try.ntmps11
  go_wp2
  exact bodyPost_ret (v := cn ((a + b) % MM)) (by simp [results, Try.results11, go_sem]) rfl ⟨rfl, (((Below.refl _ _).alloc (Nat.le_refl _) _).alloc (by simp) _).alloc (by simp; omega) _⟩

set_option maxHeartbeats 400000 in
theorem sub_any (a b : Nat) (ha : a < MM) (hb : b < MM) (w : World) :
    Calls Try.prog 13 #[cn a, cn b] w fun e w' => e = .returned (cn (sb a b)) ∧ Below w.heap.size w w' := by
  have q1 := fun w => sub64_lo a b hb w
  have q2 := fun w => sub64_hi' a b ha hb w
  go_enter Try.func13, Try.ntmps13
  go_wp2
  exact bodyPost_ret (v := cn (sb a b)) (by simp [results, Try.results13, go_sem]) rfl ⟨rfl, (((Below.refl _ _).alloc (Nat.le_refl _) _).alloc (by simp) _).alloc (by simp; omega) _⟩

theorem wrap_m64 (x : Int) : IntKind.u64.wrap x = m64 x := IntKind.wrap_u64 x

set_option maxHeartbeats 400000 in
theorem radd_any (a b : Nat) (ha : a < MM) (hb : b < MM) (w : World) :
    Calls Try.prog 12 #[cn a, cn b] w fun e w' => e = .returned (cn ((a + b) % MM)) ∧ Below w.heap.size w w' := by
  have q1 : IntKind.u64.wrap (lo a + lo b) = lo ((a + b) % MM) := by rw [wrap_m64, add_lo]
  by_cases c : lo ((a + b) % MM) < lo a
  · have q2 : IntKind.u64.wrap (IntKind.u64.wrap (hi a + hi b) + 1) = hi ((a + b) % MM) := by rw [wrap_m64, wrap_m64]; exact radd_carry a b ha hb (by rw [add_lo]; exact c)
    go_enter Try.func12, Try.ntmps12
    go_wp2
    exact bodyPost_ret (v := cn ((a + b) % MM)) (by simp [results, Try.results12, go_sem]) rfl ⟨rfl, (((Below.refl _ _).alloc (Nat.le_refl _) _).alloc (by simp) _).alloc (by simp; omega) _⟩
  · have q2 : IntKind.u64.wrap (hi a + hi b) = hi ((a + b) % MM) := by rw [wrap_m64]; exact radd_none a b ha hb (by rw [add_lo]; omega)
    go_enter Try.func12, Try.ntmps12
    go_wp2
    exact bodyPost_ret (v := cn ((a + b) % MM)) (by simp [results, Try.results12, go_sem]) rfl ⟨rfl, (((Below.refl _ _).alloc (Nat.le_refl _) _).alloc (by simp) _).alloc (by simp; omega) _⟩

set_option maxHeartbeats 400000 in
theorem rsub_any (a b : Nat) (ha : a < MM) (hb : b < MM) (w : World) :
    Calls Try.prog 14 #[cn a, cn b] w fun e w' => e = .returned (cn (sb a b)) ∧ Below w.heap.size w w' := by
  have q1 : IntKind.u64.wrap (lo a - lo b) = lo (sb a b) := by rw [wrap_m64, rsub_lo a b hb]
  by_cases c : lo a < lo b
  · have q2 : IntKind.u64.wrap (IntKind.u64.wrap (hi a - hi b) - 1) = hi (sb a b) := by rw [wrap_m64, wrap_m64]; exact rsub_borrow a b ha hb c
    go_enter Try.func14, Try.ntmps14
    go_wp2
    exact bodyPost_ret (v := cn (sb a b)) (by simp [results, Try.results14, go_sem]) rfl ⟨rfl, (((Below.refl _ _).alloc (Nat.le_refl _) _).alloc (by simp) _).alloc (by simp; omega) _⟩
  · have q2 : IntKind.u64.wrap (hi a - hi b) = hi (sb a b) := by rw [wrap_m64]; exact rsub_none a b ha hb (by omega)
    go_enter Try.func14, Try.ntmps14
    go_wp2
    exact bodyPost_ret (v := cn (sb a b)) (by simp [results, Try.results14, go_sem]) rfl ⟨rfl, (((Below.refl _ _).alloc (Nat.le_refl _) _).alloc (by simp) _).alloc (by simp; omega) _⟩

/-- A count up by n places; none below 0 or from 128 on. -/
def upI (a : Nat) (n : Int) : Nat := if 0 ≤ n ∧ n < 128 then upN a n.toNat else 0
theorem upI_in (a n : Nat) (h : n < 128) : upI a (n : Int) = upN a n := by unfold upI; rw [if_pos (by omega)]; rfl
theorem upI_out (a : Nat) (n : Int) (h : n < 0 ∨ 128 ≤ n) : upI a n = 0 := by unfold upI; rw [if_neg (by omega)]
theorem upI_lt (a : Nat) (n : Int) : upI a n < MM := by unfold upI; split; exact upN_lt _ _; exact MM_pos

set_option maxHeartbeats 400000 in
theorem up_any (a : Nat) (n : Int) (ha : a < MM) (w : World) :
    Calls Try.prog 15 #[cn a, .int .i64 n] w fun e w' => e = .returned (cn (upI a n)) ∧ Below w.heap.size w w' := by
  by_cases c1 : n < 0
  · rw [upI_out a n (Or.inl c1)]
    go_enter Try.func15, Try.ntmps15
    go_wp2
    exact bodyPost_ret (v := cv 0 0) (by simp [results, Try.results15, go_sem]) rfl ⟨ret_cn hi_zero.symm lo_zero.symm, ((Below.refl _ _).alloc (Nat.le_refl _) _).alloc (by simp) _⟩
  by_cases c2 : 128 ≤ n
  · rw [upI_out a n (Or.inr c2)]
    go_enter Try.func15, Try.ntmps15
    go_wp2
    exact bodyPost_ret (v := cv 0 0) (by simp [results, Try.results15, go_sem]) rfl ⟨ret_cn hi_zero.symm lo_zero.symm, ((Below.refl _ _).alloc (Nat.le_refl _) _).alloc (by simp) _⟩
  obtain ⟨k, rfl⟩ := Int.eq_ofNat_of_zero_le (show 0 ≤ n by omega)
  rw [upI_in a k (by omega)]
  clear c1
  by_cases c3 : 64 ≤ k
  · have q1 := up_hi_hi a k c3
    have h1 : k < 128 := by omega
    clear c2
    go_enter Try.func15, Try.ntmps15
    go_wp2
    exact bodyPost_ret (v := cv (hi (upN a k)) 0) (by simp [results, Try.results15, go_sem]) rfl ⟨ret_cn rfl (up_hi_lo a k c3), ((Below.refl _ _).alloc (Nat.le_refl _) _).alloc (by simp) _⟩
  · have q1 := up_lo_lo a k
    have q2 := up_lo_hi a k (by omega)
    have h1 : k < 64 := by omega
    have h2 := lo_nn a
    clear c2 c3
    go_enter Try.func15, Try.ntmps15
    go_wp2
    go_region
    go_wp2
    exact bodyPost_ret (v := cn (upN a k)) (by simp [results, Try.results15, go_sem]) rfl ⟨rfl, (((Below.refl _ _).alloc (Nat.le_refl _) _).alloc (by simp) _).drew⟩

set_option maxHeartbeats 400000 in
theorem of_any (l : Int) (w : World) :
    Calls Try.prog 20 #[.int .u64 l] w fun e w' => e = .returned (cv 0 l) ∧ Below w.heap.size w w' := by
  go_enter Try.func20, Try.ntmps20
  go_wp2
  exact bodyPost_ret (v := cv 0 l) (by simp [results, Try.results20, go_sem]) rfl ⟨rfl, ((Below.refl _ _).alloc (Nat.le_refl _) _)⟩

theorem isz (a : Nat) : (hi a = 0 ∧ lo a = 0) ↔ a = 0 := by unfold hi lo; omega
set_option maxHeartbeats 400000 in
theorem zero_any (a : Nat) (w : World) :
    Calls Try.prog 19 #[cn a] w fun e w' => e = .returned (.bool (decide (a = 0))) ∧ Below w.heap.size w w' := by
  by_cases c : a = 0
  · subst c
    rw [cn, hi_zero, lo_zero]
    go_enter Try.func19, Try.ntmps19
    go_wp2
    go_ret
    exact ⟨rfl, ((Below.refl _ _).alloc (Nat.le_refl _) _)⟩
  · have hz := mt (isz a).1 c
    rw [decide_eq_false c]
    by_cases c1 : hi a = 0
    · have c2 : (lo a == 0) = false := by simp; exact fun h => hz ⟨c1, h⟩
      rw [cn, c1]
      clear c1 hz c
      go_enter Try.func19, Try.ntmps19
      go_wp2
      go_ret
      exact ⟨rfl, ((Below.refl _ _).alloc (Nat.le_refl _) _)⟩
    · clear hz c
      go_enter Try.func19, Try.ntmps19
      go_wp2
      go_ret
      exact ⟨rfl, ((Below.refl _ _).alloc (Nat.le_refl _) _)⟩

set_option maxHeartbeats 400000 in
theorem less_any (a b : Nat) (w : World) :
    Calls Try.prog 9 #[cn a, cn b] w fun e w' => e = .returned (.bool (decide (a < b))) ∧ Below w.heap.size w w' := by
  have hl := less_iff a b
  by_cases c1 : hi a < hi b
  · rw [decide_eq_true (hl.1 (Or.inl c1))]
    clear hl
    go_enter Try.func9, Try.ntmps9
    go_wp2
    go_ret
    exact ⟨rfl, ((Below.refl _ _).alloc (Nat.le_refl _) _).alloc (by simp) _⟩
  · by_cases c2 : hi a = hi b
    · have e : decide (a < b) = decide (lo a < lo b) := decide_eq_decide.2 (by rw [← hl]; omega)
      rw [e, cn, cn, c2]
      clear hl e c1 c2
      have c1 : ¬ hi b < hi b := by omega
      go_enter Try.func9, Try.ntmps9
      go_wp2
      go_ret
      exact ⟨rfl, ((Below.refl _ _).alloc (Nat.le_refl _) _).alloc (by simp) _⟩
    · rw [decide_eq_false (mt hl.2 (by omega))]
      have c3 : (hi a == hi b) = false := by simp; exact c2
      clear hl
      go_enter Try.func9, Try.ntmps9
      go_wp2
      go_ret
      exact ⟨ret_bool (by simp <;> omega), ((Below.refl _ _).alloc (Nat.le_refl _) _).alloc (by simp) _⟩
def cmpI (x y : Int) : Int := if x < y then -1 else if y < x then 1 else 0
set_option maxHeartbeats 400000 in
theorem ccmp_any (x y : Int) (w : World) :
    Calls Try.prog 27 #[.int .u64 x, .int .u64 y] w fun e w' => e = .returned (.int .i64 (cmpI x y)) ∧ w = w' := by
  unfold cmpI
  by_cases c1 : x < y
  · rw [if_pos c1]
    go_enter Try.func27, Try.ntmps27
    go_wp2
    go_ret
    exact ⟨rfl, rfl⟩
  · rw [if_neg c1]
    by_cases c2 : y < x
    · rw [if_pos c2]
      go_enter Try.func27, Try.ntmps27
      go_wp2
      go_ret
      exact ⟨rfl, rfl⟩
    · rw [if_neg c2]
      go_enter Try.func27, Try.ntmps27
      go_wp2
      go_ret
      exact ⟨rfl, rfl⟩
theorem cmp_hi (a b : Nat) (h : hi a ≠ hi b) : cmpI (hi a) (hi b) = cmpN a b := by
  have h1 := less_iff a b; have h2 := less_iff b a
  unfold cmpI cmpN; split <;> split <;> first | rfl | omega | skip
  all_goals (split <;> first | rfl | omega | skip)
  all_goals (split <;> first | rfl | omega)
theorem cmp_lo (a b : Nat) (h : hi a = hi b) : cmpI (lo a) (lo b) = cmpN a b := by
  have h1 := less_iff a b; have h2 := less_iff b a
  unfold cmpI cmpN; split <;> split <;> first | rfl | omega | skip
  all_goals (split <;> first | rfl | omega | skip)
  all_goals (split <;> first | rfl | omega)
set_option maxHeartbeats 400000 in
theorem cmp_any (a b : Nat) (w : World) :
    Calls Try.prog 18 #[cn a, cn b] w fun e w' => e = .returned (.int .i64 (cmpN a b)) ∧ Below w.heap.size w w' := by
  by_cases c : hi a = hi b
  · rw [← cmp_lo a b c, cn, c]
    clear c
    go_enter Try.func18, Try.ntmps18
    go_wp2_with fail
    refine (ccmp_any _ _ _).mono ?_
    rintro e w' ⟨rfl, rfl⟩
    go_wp2
    go_ret
    exact ⟨rfl, ((Below.refl _ _).alloc (Nat.le_refl _) _).alloc (by simp) _⟩
  · rw [← cmp_hi a b c]
    have c1 : (hi a != hi b) = true := by simp; exact c
    clear c
    go_enter Try.func18, Try.ntmps18
    go_wp2_with fail
    refine (ccmp_any _ _ _).mono ?_
    rintro e w' ⟨rfl, rfl⟩
    go_wp2
    go_ret
    exact ⟨rfl, ((Below.refl _ _).alloc (Nat.le_refl _) _).alloc (by simp) _⟩
end Go.Proofs.Yteinkjlnofmalaa
