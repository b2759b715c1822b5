/- Plain: the number of a text's bytes up to a greatest one, or what is wrong with it first. No program in sight. -/
import Derived.Lib.Hide
import Derived.Lib.ItoaNum
namespace Go.Proofs.YtlmeagnegakifaaDoor
set_option linter.unusedVariables false

/-- Digit by digit, what is met first: something that is none, or a nought ahead of others (6); beyond the greatest m (5). -/
def ngo (m : Nat) : List UInt8 → Bool → Nat → Nat × Int
  | [], _, c => (c, 0)
  | b :: r, first, c => if b.toNat < 48 ∨ 57 < b.toNat ∨ (first = false ∧ c = 0) then (0, 6) else if m < c * 10 + (b.toNat - 48) then (0, 5) else ngo m r false (c * 10 + (b.toNat - 48))
def nz (m : Nat) (l : List UInt8) : Nat × Int := if l = [] then (0, 6) else ngo m l true 0
theorem ngo_bad (m : Nat) (b : UInt8) (r : List UInt8) (first : Bool) (c : Nat) (h : b.toNat < 48 ∨ 57 < b.toNat ∨ (first = false ∧ c = 0)) : ngo m (b :: r) first c = (0, 6) := by rw [ngo, if_pos h]
theorem ngo_big (m : Nat) (b : UInt8) (r : List UInt8) (first : Bool) (c : Nat) (h1 : 48 ≤ b.toNat) (h2 : b.toNat ≤ 57) (h3 : first = true ∨ c ≠ 0) (h4 : m < c * 10 + (b.toNat - 48)) : ngo m (b :: r) first c = (0, 5) := by
  rw [ngo, if_neg, if_pos h4]
  rintro (h | h | ⟨h, h'⟩)
  · omega
  · omega
  · rcases h3 with h3 | h3
    · rw [h] at h3; cases h3
    · exact h3 h'
theorem ngo_next (m : Nat) (b : UInt8) (r : List UInt8) (first : Bool) (c : Nat) (h1 : 48 ≤ b.toNat) (h2 : b.toNat ≤ 57) (h3 : first = true ∨ c ≠ 0) (h4 : c * 10 + (b.toNat - 48) ≤ m) : ngo m (b :: r) first c = ngo m r false (c * 10 + (b.toNat - 48)) := by
  rw [ngo, if_neg, if_neg (by omega)]
  rintro (h | h | ⟨h, h'⟩)
  · omega
  · omega
  · rcases h3 with h3 | h3
    · rw [h] at h3; cases h3
    · exact h3 h'
theorem drop_byte (s : ByteArray) (k : Nat) (h : k < s.size) : s.data.toList.drop k = s[k] :: s.data.toList.drop (k + 1) := by
  rw [List.drop_eq_getElem_cons (by simpa using h)]; rfl
theorem drop_end (s : ByteArray) (k : Nat) (h : s.size ≤ k) : s.data.toList.drop k = [] := List.drop_of_length_le (by simpa using h)
open Lib (decDigits)
theorem dd_small {n : Nat} (h : n < 10) : decDigits n = [UInt8.ofNat (48 + n)] := by rw [decDigits, dif_pos h]
theorem dd_step {n : Nat} (h : ¬ n < 10) : decDigits n = decDigits (n / 10) ++ [UInt8.ofNat (48 + n % 10)] := by rw [decDigits, dif_neg h]
theorem dgt {k : Nat} (h : k < 10) : (UInt8.ofNat (48 + k)).toNat = 48 + k := by rw [UInt8.toNat_ofNat']; omega
/-- A number's digits are read as it, and what is behind them goes on. -/
theorem ngo_dec (m : Nat) : ∀ (n : Nat) (r : List UInt8), n ≤ m → ngo m (decDigits n ++ r) true 0 = ngo m r false n := by
  intro n
  induction n using Nat.strongRecOn with
  | _ n ih =>
    intro r hn
    by_cases h : n < 10
    · rw [dd_small h, List.singleton_append, ngo_next m _ _ _ _ (by rw [dgt h]; omega) (by rw [dgt h]; omega) (Or.inl rfl) (by rw [dgt h]; omega), dgt h]
      congr 1; omega
    · have h9 : n % 10 < 10 := Nat.mod_lt _ (by decide)
      rw [dd_step h, List.append_assoc, ih (n / 10) (by omega) _ (by omega), List.singleton_append, ngo_next m _ _ _ _ (by rw [dgt h9]; omega) (by rw [dgt h9]; omega) (Or.inr (by omega)) (by rw [dgt h9]; omega), dgt h9]
      congr 1; omega
theorem ngo_dec_big (m : Nat) : ∀ (n : Nat) (r : List UInt8), m < n → ngo m (decDigits n ++ r) true 0 = (0, 5) := by
  intro n
  induction n using Nat.strongRecOn with
  | _ n ih =>
    intro r hn
    by_cases h : n < 10
    · rw [dd_small h, List.singleton_append, ngo_big m _ _ _ _ (by rw [dgt h]; omega) (by rw [dgt h]; omega) (Or.inl rfl) (by rw [dgt h]; omega)]
    · have h9 : n % 10 < 10 := Nat.mod_lt _ (by decide)
      rw [dd_step h, List.append_assoc]
      by_cases h2 : m < n / 10
      · exact ih (n / 10) (by omega) _ h2
      · rw [ngo_dec m (n / 10) _ (by omega), List.singleton_append, ngo_big m _ _ _ _ (by rw [dgt h9]; omega) (by rw [dgt h9]; omega) (Or.inr (by omega)) (by rw [dgt h9]; omega)]
theorem dd_ne (n : Nat) : decDigits n ≠ [] := by
  by_cases h : n < 10
  · rw [dd_small h]; exact List.cons_ne_nil _ _
  · rw [dd_step h]; simp
theorem dd_len (n : Nat) : (decDigits n).length ≤ n + 1 := by
  induction n using Nat.strongRecOn with
  | _ n ih =>
    by_cases h : n < 10
    · rw [dd_small h]; simp
    · have := ih (n / 10) (by omega)
      rw [dd_step h, List.length_append]; simp; omega
theorem nz_dec (m n : Nat) (h : n ≤ m) : nz m (decDigits n) = (n, 0) := by
  have := ngo_dec m n [] h
  rw [List.append_nil] at this
  rw [nz, if_neg (dd_ne n), this, ngo]
theorem nz_dec_big (m n : Nat) (h : m < n) : nz m (decDigits n) = (0, 5) := by
  have := ngo_dec_big m n [] h
  rw [List.append_nil] at this
  rw [nz, if_neg (dd_ne n), this]
theorem nz_nought (m n : Nat) : nz m (48 :: decDigits n) = (0, 6) := by
  rw [nz, if_neg (List.cons_ne_nil _ _), ngo_next m _ _ _ _ (by decide) (by decide) (Or.inl rfl) (Nat.zero_le _)]
  obtain ⟨b, r, e⟩ := List.exists_cons_of_ne_nil (dd_ne n)
  rw [e]; exact ngo_bad m b r false 0 (Or.inr (Or.inr ⟨rfl, rfl⟩))
theorem nz_minus (m n : Nat) : nz m (45 :: decDigits n) = (0, 6) := by
  rw [nz, if_neg (List.cons_ne_nil _ _), ngo_bad m _ _ _ _ (Or.inl (by decide))]
theorem nz_behind (m n : Nat) (h : n ≤ m) : nz m (decDigits n ++ [32]) = (0, 6) := by
  rw [nz, if_neg (by simp), ngo_dec m n _ h, ngo_bad m _ _ _ _ (Or.inl (by decide))]
end Go.Proofs.YtlmeagnegakifaaDoor
