/- Headers by their two words and their bits. No program in sight. -/
import Derived.Test.YtioanjpeddipmacH12
import Derived.Test.YtioanjpeddipmacHM
import Derived.Test.YtioanjpeddipmacKept
import Derived.Below
import Derived.Deep.DeepCutAuto
import Derived.Deep.RegionHeld3
import Derived.Laws.OwnMore
import Derived.LoopN
namespace Go.Proofs.Ytioanjpeddipmac
open Go.RowKit
set_option linter.unusedVariables false

/-- Two words that are a header's. -/
structure WB (a b : Nat) : Prop where
  a : a < 18446744073709551616
  b : b < 1099511627776
def fd (a : Nat) : Nat := a / 4294967296
def fs (a : Nat) : Nat := a % 4294967296
def fx (b : Nat) : Nat := b / 65536 % 65536
def fy (b : Nat) : Nat := b % 65536
/-- The header of two words. -/
abbrev hw (a b : Nat) : Value := hv (fd a) (fs a) (fd b) (fx b) (fy b)
theorem WB.hb {a b : Nat} (h : WB a b) : HB (fd a) (fs a) (fd b) (fx b) (fy b) := by
  obtain ⟨h1, h2⟩ := h
  exact ⟨by unfold fd; omega, by unfold fs; omega, by unfold fd; omega, by unfold fx; omega, by unfold fy; omega⟩
theorem pa_w (a : Nat) : pa (fd a) (fs a) = a := by unfold pa fd fs; omega
theorem pb_w (b : Nat) : pb (fd b) (fx b) (fy b) = b := by unfold pb fd fx fy; omega
theorem mb_lt40 (i : Int) : mb i < 1099511627776 := by
  unfold mb; split
  · have := Nat.pow_lt_pow_right (a := 2) (by omega) (show 103 - i.toNat < 40 by omega)
    rwa [show (2 : Nat) ^ 40 = 1099511627776 from by decide] at this
  · omega
theorem WB.wo {a b : Nat} (h : WB a b) (i : Int) (on : Bool) : WB (wo a (ma i) on) (wo b (mb i) on) :=
  ⟨wo_lt a _ 64 on (by simpa using h.a) (by simpa using ma_lt i), wo_lt b _ 40 on (by simpa using h.b) (by simpa using mb_lt40 i)⟩
/-- The bit of two words. -/
def tb (a b : Nat) (i : Int) : Bool := decide ((a &&& ma i) ≠ 0) || decide ((b &&& mb i) ≠ 0)
theorem ma_in (k : Nat) (h : k < 64) : ma k = 2 ^ (63 - k) := by unfold ma; rw [if_pos (by omega)]; rfl
theorem mb_in (k : Nat) (h : 64 ≤ k) (h' : k < 104) : mb k = 2 ^ (103 - k) := by unfold mb; rw [if_pos (by omega)]; rfl
theorem ma_out (k : Nat) (h : 64 ≤ k) : ma k = 0 := by unfold ma; rw [if_neg (by omega)]
theorem mb_out (k : Nat) (h : k < 64) : mb k = 0 := by unfold mb; rw [if_neg (by omega)]
theorem tb_lo (a b k : Nat) (h : k < 64) : tb a b k = a.testBit (63 - k) := by
  unfold tb; rw [ma_in k h, mb_out k h, and_pow, Nat.and_zero]; simp
theorem tb_hi (a b k : Nat) (h : 64 ≤ k) (h' : k < 104) : tb a b k = b.testBit (103 - k) := by
  unfold tb; rw [ma_out k h, mb_in k h h', and_pow, Nat.and_zero]; simp
theorem tb_flip (a b k : Nat) (h : k < 104) (on : Bool) : tb (wo a (ma k) on) (wo b (mb k) on) k = on := by
  by_cases c : k < 64
  · rw [tb_lo _ _ k c, ma_in k c, wo_at]
  · rw [tb_hi _ _ k (by omega) h, mb_in k (by omega) h, wo_at]
/-- The bits of a number, the highest first, as cells. -/
def bitVals (n : Nat) : Nat → List Value
  | 0 => []
  | k + 1 => .bool (n.testBit k) :: bitVals n k
theorem bitVals_length (n : Nat) : ∀ k, (bitVals n k).length = k
  | 0 => rfl
  | k + 1 => by simp [bitVals, bitVals_length n k]
theorem bitVals_get (n : Nat) : ∀ (k j : Nat), j < k → (bitVals n k)[j]? = some (.bool (n.testBit (k - 1 - j)))
  | 0, _, h => by omega
  | k + 1, 0, _ => by simp [bitVals]
  | k + 1, j + 1, h => by
    rw [bitVals, List.getElem?_cons_succ, bitVals_get n k j (by omega), show k + 1 - 1 - (j + 1) = k - 1 - j by omega]
theorem bit_div (n i : Nat) : n.testBit i = decide (n / 2 ^ i % 2 = 1) := Nat.testBit_eq_decide_div_mod_eq
/-- All cells of a header's bits. -/
def bitsW (a b : Nat) : List Value := bitVals (fd a) 32 ++ bitVals (fs a) 32 ++ bitVals (fd b) 8 ++ bitVals (fx b) 16 ++ bitVals (fy b) 16
theorem bitsW_length (a b : Nat) : (bitsW a b).length = 104 := by simp [bitsW, bitVals_length]
theorem bitsW_get (a b j : Nat) (hb : b < 1099511627776) (hj : j < 104) : (bitsW a b)[j]? = some (.bool (tb a b j)) := by
  unfold bitsW
  have p32 : (4294967296 : Nat) = 2 ^ 32 := by decide
  have p16 : (65536 : Nat) = 2 ^ 16 := by decide
  by_cases h1 : j < 32
  · rw [List.getElem?_append_left (by simp [bitVals_length]; omega), List.getElem?_append_left (by simp [bitVals_length]; omega), List.getElem?_append_left (by simp [bitVals_length]; omega), List.getElem?_append_left (by simp [bitVals_length]; omega)]
    rw [bitVals_get _ _ _ h1, tb_lo a b j (by omega)]
    unfold fd
    rw [p32, Nat.testBit_div_two_pow, show 32 - 1 - j + 32 = 63 - j by omega]
  · by_cases h2 : j < 64
    · rw [List.getElem?_append_left (by simp [bitVals_length]; omega), List.getElem?_append_left (by simp [bitVals_length]; omega), List.getElem?_append_left (by simp [bitVals_length]; omega), List.getElem?_append_right (by simp [bitVals_length]; omega)]
      rw [bitVals_length, bitVals_get _ _ _ (by omega), tb_lo a b j (by omega)]
      unfold fs
      rw [p32, Nat.testBit_mod_two_pow, show 32 - 1 - (j - 32) = 63 - j by omega, decide_eq_true (by omega), Bool.true_and]
    · by_cases h3 : j < 72
      · rw [List.getElem?_append_left (by simp [bitVals_length]; omega), List.getElem?_append_left (by simp [bitVals_length]; omega), List.getElem?_append_right (by simp [bitVals_length]; omega)]
        rw [List.length_append, bitVals_length, bitVals_length, bitVals_get _ _ _ (by omega), tb_hi a b j (by omega) (by omega)]
        unfold fd
        rw [p32, Nat.testBit_div_two_pow, show 8 - 1 - (j - (32 + 32)) + 32 = 103 - j by omega]
      · by_cases h4 : j < 88
        · rw [List.getElem?_append_left (by simp [bitVals_length]; omega), List.getElem?_append_right (by simp [bitVals_length]; omega)]
          rw [List.length_append, List.length_append, bitVals_length, bitVals_length, bitVals_length, bitVals_get _ _ _ (by omega), tb_hi a b j (by omega) (by omega)]
          unfold fx
          rw [p16, Nat.testBit_mod_two_pow, Nat.testBit_div_two_pow, show 16 - 1 - (j - (32 + 32 + 8)) + 16 = 103 - j by omega, decide_eq_true (by omega), Bool.true_and]
        · rw [List.getElem?_append_right (by simp [bitVals_length]; omega)]
          rw [List.length_append, List.length_append, List.length_append, bitVals_length, bitVals_length, bitVals_length, bitVals_length, bitVals_get _ _ _ (by omega), tb_hi a b j (by omega) (by omega)]
          unfold fy
          rw [p16, Nat.testBit_mod_two_pow, show 16 - 1 - (j - (32 + 32 + 8 + 16)) = 103 - j by omega, decide_eq_true (by omega), Bool.true_and]
theorem half (a n : Nat) : a / 2 ^ n = 2 * (a / 2 ^ (n + 1)) + (a.testBit n).toNat := by
  rw [Nat.pow_succ, ← Nat.div_div_eq_div_mul, bit_div]
  generalize a / 2 ^ n = x
  by_cases h : x % 2 = 1
  · rw [decide_eq_true h]; simp; omega
  · rw [decide_eq_false h]; simp; omega
/-- So many bits of a word, from a place on, are the word's part. -/
theorem numB_word (B : Nat → Bool) (a N p : Nat) : ∀ k, p + k ≤ N → (∀ j, j < k → B (p + j) = a.testBit (N - 1 - (p + j))) → numB B p k = a / 2 ^ (N - p - k) % 2 ^ k
  | 0, _, _ => by simp [numB, Nat.mod_one]
  | k + 1, h, hB => by
    rw [numB, numB_word B a N p k (by omega) (fun j hj => hB j (by omega)), hB k (by omega)]
    have e := half a (N - p - (k + 1))
    rw [show N - p - (k + 1) + 1 = N - p - k by omega] at e
    rw [e, show N - 1 - (p + k) = N - p - (k + 1) by omega, Nat.pow_succ, Nat.mul_comm (2 ^ k) 2]
    generalize a / 2 ^ (N - p - k) = x
    have hd : (a.testBit (N - p - (k + 1))).toNat ≤ 1 := Bool.toNat_le _
    generalize (a.testBit (N - p - (k + 1))).toNat = y at *
    have h2 : (2 * x + y) % (2 * 2 ^ k) = (2 * x + y) % 2 + 2 * ((2 * x + y) / 2 % 2 ^ k) := Nat.mod_mul
    rw [h2, show (2 * x + y) / 2 = x by omega]
    omega
/-- The five numbers of bits that are a header's. -/
theorem back_nums (B : Nat → Bool) (a b : Nat) (h : WB a b) (hB : ∀ j, j < 104 → B j = tb a b j) :
    numB B 0 32 = fd a ∧ numB B 32 32 = fs a ∧ numB B 64 8 = fd b ∧ numB B 72 16 = fx b ∧ numB B 88 16 = fy b := by
  obtain ⟨h1, h2⟩ := h
  have q32 : (2 : Nat) ^ 32 = 4294967296 := by decide
  have q16 : (2 : Nat) ^ 16 = 65536 := by decide
  have q8 : (2 : Nat) ^ 8 = 256 := by decide
  refine ⟨?_, ?_, ?_, ?_, ?_⟩
  · rw [numB_word B a 64 0 32 (by omega) (fun j hj => by rw [hB _ (by omega), tb_lo a b _ (by omega)])]
    unfold fd; rw [show 64 - 0 - 32 = 32 by omega, q32]; omega
  · rw [numB_word B a 64 32 32 (by omega) (fun j hj => by rw [hB _ (by omega), tb_lo a b _ (by omega)])]
    unfold fs; rw [show 64 - 32 - 32 = 0 by omega, q32, Nat.pow_zero, Nat.div_one]
  · rw [numB_word B b 104 64 8 (by omega) (fun j hj => by rw [hB _ (by omega), tb_hi a b _ (by omega) (by omega)])]
    unfold fd; rw [show 104 - 64 - 8 = 32 by omega, q32, q8]; omega
  · rw [numB_word B b 104 72 16 (by omega) (fun j hj => by rw [hB _ (by omega), tb_hi a b _ (by omega) (by omega)])]
    unfold fx; rw [show 104 - 72 - 16 = 16 by omega, q16]
  · rw [numB_word B b 104 88 16 (by omega) (fun j hj => by rw [hB _ (by omega), tb_hi a b _ (by omega) (by omega)])]
    unfold fy; rw [show 104 - 88 - 16 = 0 by omega, q16, Nat.pow_zero, Nat.div_one]
/-- With bit i set, or not: the other bits are as they were. -/
theorem tb_wo (a b i j : Nat) (on : Bool) (hi : i < 104) (hj : j < 104) : tb (wo a (ma i) on) (wo b (mb i) on) j = if j = i then on else tb a b j := by
  by_cases e : j = i
  · subst e; rw [if_pos rfl, tb_flip a b j hj]
  · rw [if_neg e]
    by_cases c : j < 64
    · rw [tb_lo _ _ j c, tb_lo _ _ j c, wo_bit]
      by_cases d : i < 64
      · rw [ma_in i d, Nat.testBit_two_pow, decide_eq_false (by omega)]; rfl
      · rw [ma_out i (by omega), Nat.zero_testBit]; rfl
    · rw [tb_hi _ _ j (by omega) hj, tb_hi _ _ j (by omega) hj, wo_bit]
      by_cases d : i < 64
      · rw [mb_out i d, Nat.zero_testBit]; rfl
      · rw [mb_in i (by omega) hi, Nat.testBit_two_pow, decide_eq_false (by omega)]; rfl
end Go.Proofs.Ytioanjpeddipmac
