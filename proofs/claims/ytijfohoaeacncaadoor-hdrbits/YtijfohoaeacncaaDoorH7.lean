/- Headers by their two words: what Bit, With, Compare answer. -/
import Derived.Test.YtijfohoaeacncaaDoorH6
namespace Go.Proofs.YtijfohoaeacncaaDoor
open Go.RowKit
set_option linter.unusedVariables false

/-- Two words that are a header's. -/
structure WB (a b : Nat) : Prop where
  a : a < 18446744073709551616
  b : b < 1099511627776
def fd (a : Nat) : Nat := a / 4294967296
def fs (a : Nat) : Nat := a % 4294967296
def fx (b : Nat) : Nat := b / 65536 % 65536
def fy (b : Nat) : Nat := b % 65536
/-- The header of two words. -/
abbrev hw (a b : Nat) : Value := hv (fd a) (fs a) (fd b) (fx b) (fy b)
theorem WB.hb {a b : Nat} (h : WB a b) : HB (fd a) (fs a) (fd b) (fx b) (fy b) := by
  obtain ⟨h1, h2⟩ := h
  exact ⟨by unfold fd; omega, by unfold fs; omega, by unfold fd; omega, by unfold fx; omega, by unfold fy; omega⟩
theorem pa_w (a : Nat) : pa (fd a) (fs a) = a := by unfold pa fd fs; omega
theorem pb_w (b : Nat) : pb (fd b) (fx b) (fy b) = b := by unfold pb fd fx fy; omega
theorem bits_w (a b : Nat) (i : Int) (h : WB a b) (w : World) :
    Calls Tryd.prog 11 #[hw a b, .int .i64 i] w fun e w' => e = .returned (.bool (decide ((a &&& ma i) ≠ 0) || decide ((b &&& mb i) ≠ 0))) ∧ Below w.heap.size w w' := by
  have q := bit_any _ _ _ _ _ i h.hb w
  unfold bt at q
  rw [pa_w, pb_w] at q
  exact q
theorem wo_u64 {a m : Nat} {on : Bool} (ha : a < 18446744073709551616) (hm : m < 18446744073709551616) : (if on then bits .or .u64 (clr a m : Int) (m : Int) else (clr a m : Int)) = ((wo a m on : Nat) : Int) := by
  have hc : clr a m < 18446744073709551616 := wo_lt a m 64 false (by simpa using ha) (by simpa using hm)
  cases on
  · simp [wo]
  · rw [if_pos rfl, bits_or_u64_nat _ _ hc hm, clr_or]; rfl
theorem mb_lt40 (i : Int) : mb i < 1099511627776 := by
  unfold mb; split
  · have := Nat.pow_lt_pow_right (a := 2) (by omega) (show 103 - i.toNat < 40 by omega)
    rwa [show (2 : Nat) ^ 40 = 1099511627776 from by decide] at this
  · omega
theorem WB.wo {a b : Nat} (h : WB a b) (i : Int) (on : Bool) : WB (wo a (ma i) on) (wo b (mb i) on) :=
  ⟨wo_lt a _ 64 on (by simpa using h.a) (by simpa using ma_lt i), wo_lt b _ 40 on (by simpa using h.b) (by simpa using mb_lt40 i)⟩
theorem unpack_w (a b : Nat) (h : WB a b) (w : World) :
    Calls Tryd.prog 44 #[wv a b] w fun e w' => e = .returned (hw a b) ∧ (w.alloc (.cells #[.int .u64 a, .int .u64 b] 73)).alloc (.cells #[.int .u32 (fd a), .int .u32 (fs a), .int .u8 (fd b), .int .u16 (fx b), .int .u16 (fy b)] 25) = w' := unpack_core a b (fd a) (fs a) (fd b) (fx b) (fy b)
  (by obtain ⟨h1, h2⟩ := h; rw [IntKind.wrap_u32]; unfold fd; omega) (by rw [IntKind.wrap_u32]; unfold fs; omega) (by obtain ⟨h1, h2⟩ := h; rw [IntKind.wrap_u8]; unfold fd; omega) (by rw [IntKind.wrap_u16]; unfold fx; omega) (by rw [IntKind.wrap_u16]; unfold fy; omega) w
theorem pack_w (a b : Nat) (h : WB a b) (w : World) :
    Calls Tryd.prog 40 #[hw a b] w fun e w' => e = .returned (wv a b) ∧ (w.alloc (.cells #[.int .u32 (fd a), .int .u32 (fs a), .int .u8 (fd b), .int .u16 (fx b), .int .u16 (fy b)] 25)).alloc (.cells #[.int .u64 a, .int .u64 b] 73) = w' := by
  have q := pack_exact _ _ _ _ _ h.hb w
  rw [pa_w, pb_w] at q
  exact q
theorem with_w (a b : Nat) (i : Int) (on : Bool) (h : WB a b) (w : World) :
    Calls Tryd.prog 15 #[hw a b, .int .i64 i, .bool on] w fun e w' => e = .returned (hw (wo a (ma i) on) (wo b (mb i) on)) ∧ Below w.heap.size w w' :=
  with_core _ _ _ _ _ i a b (ma i) (mb i) (clr a (ma i)) (clr b (mb i)) _ _ _ _ _ _ _ on (fun w => pack_w a b h w) (fun w => mask_exact i w) (fun w => unpack_w _ _ (h.wo i on) w)
    (bits_andNot_u64 _ _ h.a (ma_lt i)) (bits_andNot_u64 _ _ (Nat.lt_trans h.b (by omega)) (mb_lt i)) (wo_u64 h.a (ma_lt i)) (wo_u64 (Nat.lt_trans h.b (by omega)) (mb_lt i)) w
/-- Which of two headers is less. -/
def cmpW (a b a' b' : Nat) : Int := if (a : Int) = (a' : Int) then cmpI b b' else cmpI a a'
theorem comp_w (a b a' b' : Nat) (h : WB a b) (h' : WB a' b') (w : World) :
    Calls Tryd.prog 12 #[hw a b, hw a' b'] w fun e w' => e = .returned (.int .i64 (cmpW a b a' b')) ∧ Below w.heap.size w w' :=
  comp_core _ _ _ _ _ _ _ _ _ _ a b a' b' (fun w => pack_w a b h w) (fun w => pack_w a' b' h' w) w

/-! Plain. -/
theorem cmpW_swap (a b a' b' : Nat) : cmpW a' b' a b = - cmpW a b a' b' := by
  unfold cmpW cmpI; repeat' split <;> omega
theorem cmpW_zero (a b a' b' : Nat) : cmpW a b a' b' = 0 ↔ a = a' ∧ b = b' := by
  unfold cmpW cmpI; repeat' split <;> omega
theorem cmpW_trans (a b c d e f : Nat) : 0 < cmpW a b c d ∨ 0 < cmpW c d e f ∨ cmpW a b e f ≤ 0 := by
  unfold cmpW cmpI; repeat' split <;> omega
theorem cmpW_bd (a b a' b' : Nat) : -1 ≤ cmpW a b a' b' ∧ cmpW a b a' b' ≤ 1 := by
  unfold cmpW cmpI; repeat' split <;> omega
/-- The bit of two words. -/
def tb (a b : Nat) (i : Int) : Bool := decide ((a &&& ma i) ≠ 0) || decide ((b &&& mb i) ≠ 0)
theorem ma_in (k : Nat) (h : k < 64) : ma k = 2 ^ (63 - k) := by unfold ma; rw [if_pos (by omega)]; rfl
theorem mb_in (k : Nat) (h : 64 ≤ k) (h' : k < 104) : mb k = 2 ^ (103 - k) := by unfold mb; rw [if_pos (by omega)]; rfl
theorem ma_out (k : Nat) (h : 64 ≤ k) : ma k = 0 := by unfold ma; rw [if_neg (by omega)]
theorem mb_out (k : Nat) (h : k < 64) : mb k = 0 := by unfold mb; rw [if_neg (by omega)]
theorem tb_lo (a b k : Nat) (h : k < 64) : tb a b k = a.testBit (63 - k) := by
  unfold tb; rw [ma_in k h, mb_out k h, and_pow, Nat.and_zero]; simp
theorem tb_hi (a b k : Nat) (h : 64 ≤ k) (h' : k < 104) : tb a b k = b.testBit (103 - k) := by
  unfold tb; rw [ma_out k h, mb_in k h h', and_pow, Nat.and_zero]; simp
theorem tb_flip (a b k : Nat) (h : k < 104) (on : Bool) : tb (wo a (ma k) on) (wo b (mb k) on) k = on := by
  by_cases c : k < 64
  · rw [tb_lo _ _ k c, ma_in k c, wo_at]
  · rw [tb_hi _ _ k (by omega) h, mb_in k (by omega) h, wo_at]
theorem wo_flip (a b k : Nat) (h : k < 104) (on : Bool) : wo (wo a (ma k) on) (ma k) (tb a b k) = a ∧ wo (wo b (mb k) on) (mb k) (tb a b k) = b := by
  by_cases c : k < 64
  · rw [tb_lo _ _ k c, mb_out k c, ma_in k c]; exact ⟨wo_back a _ _ rfl on, by rw [wo_zero, wo_zero]⟩
  · rw [tb_hi _ _ k (by omega) h, ma_out k (by omega), mb_in k (by omega) h]; exact ⟨by rw [wo_zero, wo_zero], wo_back b _ _ rfl on⟩
theorem cmp_flip (a b k : Nat) (h : k < 104) : cmpW (wo a (ma k) (!tb a b k)) (wo b (mb k) (!tb a b k)) a b = if tb a b k then -1 else 1 := by
  by_cases c : k < 64
  · rw [tb_lo _ _ k c, mb_out k c, ma_in k c, wo_zero]
    cases hb : a.testBit (63 - k)
    · have := wo_up a _ hb
      simp only [Bool.not_false, Bool.false_eq_true, if_false]
      unfold cmpW cmpI; rw [if_neg (by omega), if_neg (by omega), if_pos (by omega)]
    · have := wo_down a _ hb
      simp only [Bool.not_true, if_true]
      unfold cmpW cmpI; rw [if_neg (by omega), if_pos (by omega)]
  · rw [tb_hi _ _ k (by omega) h, ma_out k (by omega), mb_in k (by omega) h, wo_zero]
    cases hb : b.testBit (103 - k)
    · have := wo_up b _ hb
      simp only [Bool.not_false, Bool.false_eq_true, if_false]
      unfold cmpW cmpI; rw [if_pos rfl, if_neg (by omega), if_pos (by omega)]
    · have := wo_down b _ hb
      simp only [Bool.not_true, if_true]
      unfold cmpW cmpI; rw [if_pos rfl, if_pos (by omega)]
end Go.Proofs.YtijfohoaeacncaaDoor
