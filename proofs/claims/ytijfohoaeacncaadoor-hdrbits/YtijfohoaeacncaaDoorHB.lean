/- Plain: a header's bits as a list; which of two is less the first unlike bit tells; the words of bits. -/
import Derived.Test.YtijfohoaeacncaaDoorH7
import Derived.Test.YtijfohoaeacncaaDoorH12
namespace Go.Proofs.YtijfohoaeacncaaDoor
set_option linter.unusedVariables false

/-- The bits of a number, the highest first, as cells. -/
def bitVals (n : Nat) : Nat → List Value
  | 0 => []
  | k + 1 => .bool (n.testBit k) :: bitVals n k
theorem bitVals_length (n : Nat) : ∀ k, (bitVals n k).length = k
  | 0 => rfl
  | k + 1 => by simp [bitVals, bitVals_length n k]
theorem bitVals_get (n : Nat) : ∀ (k j : Nat), j < k → (bitVals n k)[j]? = some (.bool (n.testBit (k - 1 - j)))
  | 0, _, h => by omega
  | k + 1, 0, _ => by simp [bitVals]
  | k + 1, j + 1, h => by
    rw [bitVals, List.getElem?_cons_succ, bitVals_get n k j (by omega), show k + 1 - 1 - (j + 1) = k - 1 - j by omega]
theorem bit_div (n i : Nat) : n.testBit i = decide (n / 2 ^ i % 2 = 1) := Nat.testBit_eq_decide_div_mod_eq
/-- All cells of a header's bits. -/
def bitsW (a b : Nat) : List Value := bitVals (fd a) 32 ++ bitVals (fs a) 32 ++ bitVals (fd b) 8 ++ bitVals (fx b) 16 ++ bitVals (fy b) 16
theorem bitsW_length (a b : Nat) : (bitsW a b).length = 104 := by simp [bitsW, bitVals_length]
theorem bitsW_get (a b j : Nat) (hb : b < 1099511627776) (hj : j < 104) : (bitsW a b)[j]? = some (.bool (tb a b j)) := by
  unfold bitsW
  have p32 : (4294967296 : Nat) = 2 ^ 32 := by decide
  have p16 : (65536 : Nat) = 2 ^ 16 := by decide
  by_cases h1 : j < 32
  · rw [List.getElem?_append_left (by simp [bitVals_length]; omega), List.getElem?_append_left (by simp [bitVals_length]; omega), List.getElem?_append_left (by simp [bitVals_length]; omega), List.getElem?_append_left (by simp [bitVals_length]; omega)]
    rw [bitVals_get _ _ _ h1, tb_lo a b j (by omega)]
    unfold fd
    rw [p32, Nat.testBit_div_two_pow, show 32 - 1 - j + 32 = 63 - j by omega]
  · by_cases h2 : j < 64
    · rw [List.getElem?_append_left (by simp [bitVals_length]; omega), List.getElem?_append_left (by simp [bitVals_length]; omega), List.getElem?_append_left (by simp [bitVals_length]; omega), List.getElem?_append_right (by simp [bitVals_length]; omega)]
      rw [bitVals_length, bitVals_get _ _ _ (by omega), tb_lo a b j (by omega)]
      unfold fs
      rw [p32, Nat.testBit_mod_two_pow, show 32 - 1 - (j - 32) = 63 - j by omega, decide_eq_true (by omega), Bool.true_and]
    · by_cases h3 : j < 72
      · rw [List.getElem?_append_left (by simp [bitVals_length]; omega), List.getElem?_append_left (by simp [bitVals_length]; omega), List.getElem?_append_right (by simp [bitVals_length]; omega)]
        rw [List.length_append, bitVals_length, bitVals_length, bitVals_get _ _ _ (by omega), tb_hi a b j (by omega) (by omega)]
        unfold fd
        rw [p32, Nat.testBit_div_two_pow, show 8 - 1 - (j - (32 + 32)) + 32 = 103 - j by omega]
      · by_cases h4 : j < 88
        · rw [List.getElem?_append_left (by simp [bitVals_length]; omega), List.getElem?_append_right (by simp [bitVals_length]; omega)]
          rw [List.length_append, List.length_append, bitVals_length, bitVals_length, bitVals_length, bitVals_get _ _ _ (by omega), tb_hi a b j (by omega) (by omega)]
          unfold fx
          rw [p16, Nat.testBit_mod_two_pow, Nat.testBit_div_two_pow, show 16 - 1 - (j - (32 + 32 + 8)) + 16 = 103 - j by omega, decide_eq_true (by omega), Bool.true_and]
        · rw [List.getElem?_append_right (by simp [bitVals_length]; omega)]
          rw [List.length_append, List.length_append, List.length_append, bitVals_length, bitVals_length, bitVals_length, bitVals_length, bitVals_get _ _ _ (by omega), tb_hi a b j (by omega) (by omega)]
          unfold fy
          rw [p16, Nat.testBit_mod_two_pow, show 16 - 1 - (j - (32 + 32 + 8 + 16)) = 103 - j by omega, decide_eq_true (by omega), Bool.true_and]
/-- Which is less, by the first bit of k that is unlike. -/
def firstc (a b a' b' : Nat) : Nat → Int
  | 0 => 0
  | k + 1 => if firstc a b a' b' k = 0 then (if tb a b k = tb a' b' k then 0 else if tb a' b' k then -1 else 1) else firstc a b a' b' k
theorem half (a n : Nat) : a / 2 ^ n = 2 * (a / 2 ^ (n + 1)) + (a.testBit n).toNat := by
  rw [Nat.pow_succ, ← Nat.div_div_eq_div_mul, bit_div]
  generalize a / 2 ^ n = x
  by_cases h : x % 2 = 1
  · rw [decide_eq_true h]; simp; omega
  · rw [decide_eq_false h]; simp; omega
theorem cmp_step (u v : Nat) (x y : Bool) : cmpI ((2 * u + x.toNat : Nat) : Int) ((2 * v + y.toNat : Nat) : Int) = if cmpI (u : Int) (v : Int) = 0 then (if x = y then 0 else if y then -1 else 1) else cmpI (u : Int) (v : Int) := by
  have hx := Bool.toNat_le x
  have hy := Bool.toNat_le y
  rcases Nat.lt_trichotomy u v with h | h | h
  · have e1 : cmpI (u : Int) (v : Int) = -1 := by unfold cmpI; rw [if_pos (by omega)]
    rw [e1, if_neg (by omega)]
    unfold cmpI; rw [if_pos (by omega)]
  · subst h
    have e1 : cmpI (u : Int) (u : Int) = 0 := by unfold cmpI; rw [if_neg (by omega), if_neg (by omega)]
    rw [e1, if_pos rfl]
    unfold cmpI
    cases x <;> cases y <;> simp <;> omega
  · have e1 : cmpI (u : Int) (v : Int) = 1 := by unfold cmpI; rw [if_neg (by omega), if_pos (by omega)]
    rw [e1, if_neg (by omega)]
    unfold cmpI; rw [if_neg (by omega), if_pos (by omega)]
theorem firstc_lo (a b a' b' : Nat) (ha : a < 18446744073709551616) (ha' : a' < 18446744073709551616) : ∀ k, k ≤ 64 → firstc a b a' b' k = cmpI ((a / 2 ^ (64 - k) : Nat) : Int) ((a' / 2 ^ (64 - k) : Nat) : Int)
  | 0, _ => by
    have e : ∀ x, x < 18446744073709551616 → x / 2 ^ (64 - 0) = 0 := fun x hx => Nat.div_eq_of_lt (by simpa using hx)
    rw [e a ha, e a' ha']; rfl
  | k + 1, h => by
    rw [firstc, firstc_lo a b a' b' ha ha' k (by omega), tb_lo a b k (by omega), tb_lo a' b' k (by omega)]
    rw [half a (64 - (k + 1)), half a' (64 - (k + 1)), show 64 - (k + 1) + 1 = 64 - k by omega, show 64 - (k + 1) = 63 - k by omega, cmp_step]
theorem firstc_hi (a b a' b' : Nat) (ha : a < 18446744073709551616) (ha' : a' < 18446744073709551616) (hb : b < 1099511627776) (hb' : b' < 1099511627776) : ∀ k, k ≤ 40 → firstc a b a' b' (64 + k) = if a = a' then cmpI ((b / 2 ^ (40 - k) : Nat) : Int) ((b' / 2 ^ (40 - k) : Nat) : Int) else cmpI a a'
  | 0, _ => by
    rw [Nat.add_zero, firstc_lo a b a' b' ha ha' 64 (Nat.le_refl _)]
    have e : ∀ x, x < 1099511627776 → x / 2 ^ (40 - 0) = 0 := fun x hx => Nat.div_eq_of_lt (by simpa using hx)
    rw [e b hb, e b' hb', Nat.sub_self, Nat.pow_zero, Nat.div_one, Nat.div_one]
    by_cases c : a = a'
    · subst c; rw [if_pos rfl]; unfold cmpI; rw [if_neg (by omega), if_neg (by omega)]; rfl
    · rw [if_neg c]
  | k + 1, h => by
    rw [show 64 + (k + 1) = (64 + k) + 1 by omega, firstc, firstc_hi a b a' b' ha ha' hb hb' k (by omega)]
    by_cases c : a = a'
    · rw [if_pos c, if_pos c, tb_hi a b (64 + k) (by omega) (by omega), tb_hi a' b' (64 + k) (by omega) (by omega)]
      rw [half b (40 - (k + 1)), half b' (40 - (k + 1)), show 40 - (k + 1) + 1 = 40 - k by omega, show 40 - (k + 1) = 103 - (64 + k) by omega, cmp_step]
    · rw [if_neg c, if_neg c]
      have : ¬ cmpI (a : Int) (a' : Int) = 0 := by unfold cmpI; (repeat' split) <;> omega
      rw [if_neg this]
theorem firstc_all (a b a' b' : Nat) (h : WB a b) (h' : WB a' b') : firstc a b a' b' 104 = cmpW a b a' b' := by
  rw [show 104 = 64 + 40 from rfl, firstc_hi a b a' b' h.a h'.a h.b h'.b 40 (Nat.le_refl _)]
  unfold cmpW
  rw [Nat.sub_self, Nat.pow_zero, Nat.div_one, Nat.div_one]
  by_cases c : a = a'
  · rw [if_pos c, if_pos (by omega)]
  · rw [if_neg c, if_neg (by omega)]
theorem firstc_bd (a b a' b' : Nat) : ∀ k, -1 ≤ firstc a b a' b' k ∧ firstc a b a' b' k ≤ 1
  | 0 => by simp [firstc]
  | k + 1 => by
    have := firstc_bd a b a' b' k
    rw [firstc]; (repeat' split) <;> omega
/-- So many bits of a word, from a place on, are the word's part. -/
theorem numB_word (B : Nat → Bool) (a N p : Nat) : ∀ k, p + k ≤ N → (∀ j, j < k → B (p + j) = a.testBit (N - 1 - (p + j))) → numB B p k = a / 2 ^ (N - p - k) % 2 ^ k
  | 0, _, _ => by simp [numB, Nat.mod_one]
  | k + 1, h, hB => by
    rw [numB, numB_word B a N p k (by omega) (fun j hj => hB j (by omega)), hB k (by omega)]
    have e := half a (N - p - (k + 1))
    rw [show N - p - (k + 1) + 1 = N - p - k by omega] at e
    rw [e, show N - 1 - (p + k) = N - p - (k + 1) by omega, Nat.pow_succ, Nat.mul_comm (2 ^ k) 2]
    generalize a / 2 ^ (N - p - k) = x
    have hd : (a.testBit (N - p - (k + 1))).toNat ≤ 1 := Bool.toNat_le _
    generalize (a.testBit (N - p - (k + 1))).toNat = y at *
    have h2 : (2 * x + y) % (2 * 2 ^ k) = (2 * x + y) % 2 + 2 * ((2 * x + y) / 2 % 2 ^ k) := Nat.mod_mul
    rw [h2, show (2 * x + y) / 2 = x by omega]
    omega
/-- The five numbers of bits that are a header's. -/
theorem back_nums (B : Nat → Bool) (a b : Nat) (h : WB a b) (hB : ∀ j, j < 104 → B j = tb a b j) :
    numB B 0 32 = fd a ∧ numB B 32 32 = fs a ∧ numB B 64 8 = fd b ∧ numB B 72 16 = fx b ∧ numB B 88 16 = fy b := by
  obtain ⟨h1, h2⟩ := h
  have q32 : (2 : Nat) ^ 32 = 4294967296 := by decide
  have q16 : (2 : Nat) ^ 16 = 65536 := by decide
  have q8 : (2 : Nat) ^ 8 = 256 := by decide
  refine ⟨?_, ?_, ?_, ?_, ?_⟩
  · rw [numB_word B a 64 0 32 (by omega) (fun j hj => by rw [hB _ (by omega), tb_lo a b _ (by omega)])]
    unfold fd; rw [show 64 - 0 - 32 = 32 by omega, q32]; omega
  · rw [numB_word B a 64 32 32 (by omega) (fun j hj => by rw [hB _ (by omega), tb_lo a b _ (by omega)])]
    unfold fs; rw [show 64 - 32 - 32 = 0 by omega, q32, Nat.pow_zero, Nat.div_one]
  · rw [numB_word B b 104 64 8 (by omega) (fun j hj => by rw [hB _ (by omega), tb_hi a b _ (by omega) (by omega)])]
    unfold fd; rw [show 104 - 64 - 8 = 32 by omega, q32, q8]; omega
  · rw [numB_word B b 104 72 16 (by omega) (fun j hj => by rw [hB _ (by omega), tb_hi a b _ (by omega) (by omega)])]
    unfold fx; rw [show 104 - 72 - 16 = 16 by omega, q16]
  · rw [numB_word B b 104 88 16 (by omega) (fun j hj => by rw [hB _ (by omega), tb_hi a b _ (by omega) (by omega)])]
    unfold fy; rw [show 104 - 88 - 16 = 0 by omega, q16, Nat.pow_zero, Nat.div_one]
/-- With bit i set, or not: the other bits are as they were. -/
theorem tb_wo (a b i j : Nat) (on : Bool) (hi : i < 104) (hj : j < 104) : tb (wo a (ma i) on) (wo b (mb i) on) j = if j = i then on else tb a b j := by
  by_cases e : j = i
  · subst e; rw [if_pos rfl, tb_flip a b j hj]
  · rw [if_neg e]
    by_cases c : j < 64
    · rw [tb_lo _ _ j c, tb_lo _ _ j c, wo_bit]
      by_cases d : i < 64
      · rw [ma_in i d, Nat.testBit_two_pow, decide_eq_false (by omega)]; rfl
      · rw [ma_out i (by omega), Nat.zero_testBit]; rfl
    · rw [tb_hi _ _ j (by omega) hj, tb_hi _ _ j (by omega) hj, wo_bit]
      by_cases d : i < 64
      · rw [mb_out i d, Nat.zero_testBit]; rfl
      · rw [mb_in i (by omega) hi, Nat.testBit_two_pow, decide_eq_false (by omega)]; rfl
end Go.Proofs.YtijfohoaeacncaaDoor
