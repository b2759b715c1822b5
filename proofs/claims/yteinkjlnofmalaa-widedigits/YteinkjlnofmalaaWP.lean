/- Plain: the count of a text's bytes, or what is wrong with it first. No program in sight. -/
import Derived.Test.YteinkjlnofmalaaWD
namespace Go.Proofs.Yteinkjlnofmalaa
set_option linter.unusedVariables false

/-- Digit by digit, what is met first: something that is none, or a nought ahead of others (6); beyond the greatest (5). -/
def pgo : List UInt8 → Bool → Nat → Nat × Int
  | [], _, c => (c, 0)
  | b :: r, first, c => if b.toNat < 48 ∨ 57 < b.toNat ∨ (first = false ∧ c = 0) then (0, 6) else if MM ≤ c * 10 + (b.toNat - 48) then (0, 5) else pgo r false (c * 10 + (b.toNat - 48))
def pz (l : List UInt8) : Nat × Int := if l = [] then (0, 6) else pgo l true 0
theorem pgo_bad (b : UInt8) (r : List UInt8) (first : Bool) (c : Nat) (h : b.toNat < 48 ∨ 57 < b.toNat ∨ (first = false ∧ c = 0)) : pgo (b :: r) first c = (0, 6) := by rw [pgo, if_pos h]
theorem pgo_big (b : UInt8) (r : List UInt8) (first : Bool) (c : Nat) (h1 : 48 ≤ b.toNat) (h2 : b.toNat ≤ 57) (h3 : first = true ∨ c ≠ 0) (h4 : MM ≤ c * 10 + (b.toNat - 48)) : pgo (b :: r) first c = (0, 5) := by
  rw [pgo, if_neg, if_pos h4]
  rintro (h | h | ⟨h, h'⟩)
  · omega
  · omega
  · rcases h3 with h3 | h3
    · rw [h] at h3; cases h3
    · exact h3 h'
theorem pgo_next (b : UInt8) (r : List UInt8) (first : Bool) (c : Nat) (h1 : 48 ≤ b.toNat) (h2 : b.toNat ≤ 57) (h3 : first = true ∨ c ≠ 0) (h4 : c * 10 + (b.toNat - 48) < MM) : pgo (b :: r) first c = pgo r false (c * 10 + (b.toNat - 48)) := by
  rw [pgo, if_neg, if_neg (by omega)]
  rintro (h | h | ⟨h, h'⟩)
  · omega
  · omega
  · rcases h3 with h3 | h3
    · rw [h] at h3; cases h3
    · exact h3 h'
theorem drop_byte (s : ByteArray) (k : Nat) (h : k < s.size) : s.data.toList.drop k = s[k] :: s.data.toList.drop (k + 1) := by
  rw [List.drop_eq_getElem_cons (by simpa using h)]; rfl
theorem drop_end (s : ByteArray) (k : Nat) (h : s.size ≤ k) : s.data.toList.drop k = [] := List.drop_of_length_le (by simpa using h)
/-- What is read of a count's digits. -/
theorem pgo_dig : ∀ (k a c : Nat) (first : Bool) (r : List UInt8), (first = true ∨ c ≠ 0) → (c = 0 → k = 0 ∨ a / 10 ^ (k - 1) % 10 ≠ 0 ∨ k = 1) → c * 10 ^ k + a % 10 ^ k < MM → pgo (digN k a ++ r) first c = if k = 0 then pgo r first c else pgo r false (c * 10 ^ k + a % 10 ^ k)
  | 0, a, c, first, r, _, _, _ => by simp [digN]
  | k + 1, a, c, first, r, h1, h2, h3 => by
    have hd : a / 10 ^ k % 10 < 10 := Nat.mod_lt _ (by decide)
    have e10 : 10 ^ (k + 1) = 10 ^ k * 10 := Nat.pow_succ ..
    have em : a % 10 ^ (k + 1) = a / 10 ^ k % 10 * 10 ^ k + a % 10 ^ k := by
      rw [e10, Nat.mod_mul, Nat.mul_comm (10 ^ k)]; omega
    have hb : (UInt8.ofNat (48 + a / 10 ^ k % 10)).toNat = 48 + a / 10 ^ k % 10 := by rw [UInt8.toNat_ofNat']; omega
    have es : c * 10 ^ (k + 1) + a % 10 ^ (k + 1) = (c * 10 + a / 10 ^ k % 10) * 10 ^ k + a % 10 ^ k := by
      rw [em, e10, Nat.add_mul, Nat.mul_comm (10 ^ k) 10, Nat.mul_assoc]; omega
    have hp : 1 ≤ 10 ^ k := Nat.one_le_pow _ _ (by decide)
    have hle : c * 10 + a / 10 ^ k % 10 ≤ (c * 10 + a / 10 ^ k % 10) * 10 ^ k := Nat.le_mul_of_pos_right _ hp
    rw [digN_front, List.cons_append, pgo_next _ _ _ _ (by omega) (by omega) h1 (by rw [hb]; omega), hb, show 48 + a / 10 ^ k % 10 - 48 = a / 10 ^ k % 10 by omega]
    have hne : k = 0 ∨ c * 10 + a / 10 ^ k % 10 ≠ 0 := by
      by_cases hc : c = 0
      · rcases h2 hc with h | h | h
        · omega
        · rw [show k + 1 - 1 = k by omega] at h; omega
        · omega
      · omega
    rcases hne with rfl | hne
    · rw [if_neg (by omega), es]; simp [digN, Nat.mod_one]
    · rw [if_neg (show ¬ (k + 1 = 0) by omega), es, pgo_dig k a _ false r (Or.inr hne) (fun h => absurd h hne) (by rw [← es]; exact h3)]
      split
      · rename_i h0; subst h0; simp [Nat.mod_one]
      · rfl
theorem nd_lo (a : Nat) (h : 2 ≤ nd a) : 10 ^ (nd a - 1) ≤ a := by
  have : ∀ n a, a < n → 2 ≤ nd a → 10 ^ (nd a - 1) ≤ a := by
    intro n
    induction n with
    | zero => intro a h; omega
    | succ n ih =>
      intro a ha h
      by_cases h10 : a < 10
      · rw [nd_small a h10] at h; omega
      · rw [nd_step a (by omega)] at h ⊢
        by_cases h2 : 2 ≤ nd (a / 10)
        · have := ih (a / 10) (by omega) h2
          rw [show nd (a / 10) + 1 - 1 = (nd (a / 10) - 1) + 1 by omega, Nat.pow_succ]
          omega
        · have h1 : nd (a / 10) = 1 := by have := nd_pos (a / 10); omega
          rw [h1]; simpa using (show 10 ≤ a by omega)
  exact this (a + 1) a (by omega) h
theorem nd_hi (a : Nat) : a < 10 ^ nd a := by
  have : ∀ n a, a < n → a < 10 ^ nd a := by
    intro n
    induction n with
    | zero => intro a h; omega
    | succ n ih =>
      intro a ha
      by_cases h10 : a < 10
      · rw [nd_small a h10]; simpa using h10
      · have := ih (a / 10) (by omega)
        rw [nd_step a (by omega), Nat.pow_succ]; omega
  exact this (a + 1) a (by omega)
theorem dig_ne (a : Nat) : dig a ≠ [] := fun h => by
  have := digN_length (nd a) a
  rw [← dig, h] at this
  have := nd_pos a
  simp at *; omega
/-- A count's digits are read as it. -/
theorem pz_dig (a : Nat) (ha : a < MM) : pz (dig a) = (a, 0) := by
  rw [pz, if_neg (dig_ne a)]
  have h := pgo_dig (nd a) a 0 true [] (Or.inl rfl) (fun _ => ?_) (by rw [Nat.zero_mul, Nat.zero_add, Nat.mod_eq_of_lt (nd_hi a)]; exact ha)
  · rw [List.append_nil, if_neg (by have := nd_pos a; omega), Nat.zero_mul, Nat.zero_add, Nat.mod_eq_of_lt (nd_hi a)] at h
    exact h
  · by_cases h2 : 2 ≤ nd a
    · refine Or.inr (Or.inl ?_)
      have h1 := nd_lo a h2
      have h3 := nd_hi a
      have e : 10 ^ nd a = 10 ^ (nd a - 1) * 10 := by rw [← Nat.pow_succ, show (nd a - 1).succ = nd a by omega]
      rw [e] at h3
      have h4 : 1 ≤ a / 10 ^ (nd a - 1) := (Nat.le_div_iff_mul_le (Nat.pow_pos (by decide))).2 (by omega)
      have h5 : a / 10 ^ (nd a - 1) < 10 := (Nat.div_lt_iff_lt_mul (Nat.pow_pos (by decide))).2 (by omega)
      omega
    · have := nd_pos a; exact Or.inr (Or.inr (by omega))
end Go.Proofs.Yteinkjlnofmalaa
