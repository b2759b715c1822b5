/- Plain: blocks of ports. No program in sight. -/
import Derived.Lib.BitFns
import Derived.Lib.ItoaNum
import Derived.Lib.Hide
namespace Go.Proofs.YtlmeagnegakifaaDoor
set_option linter.unusedVariables false

/-- How many bits of a number of 16 are 0 from the lowest on. -/
def tzA : Nat → Nat → Nat
  | 0, _ => 0
  | f + 1, x => if x % 2 = 1 then 0 else 1 + tzA f (x / 2)
def tz (x : Nat) : Nat := tzA 16 x
theorem tzA_le : ∀ f x, tzA f x ≤ f
  | 0, _ => Nat.le_refl _
  | f + 1, x => by
    rw [tzA]; split
    · omega
    · have := tzA_le f (x / 2); omega
theorem mod_two_mul (x n : Nat) : x % (2 * n) = x % 2 + 2 * (x / 2 % n) := Nat.mod_mul
theorem tzA_dvd : ∀ f x, x % 2 ^ tzA f x = 0
  | 0, x => by simp [tzA, Nat.mod_one]
  | f + 1, x => by
    rw [tzA]; split
    · simp [Nat.mod_one]
    · have := tzA_dvd f (x / 2)
      rw [Nat.add_comm, Nat.pow_succ', mod_two_mul, this]; omega
theorem tzA_max : ∀ f x, tzA f x < f → x % 2 ^ (tzA f x + 1) ≠ 0
  | 0, x, h => by simp [tzA] at h
  | f + 1, x, h => by
    rw [tzA] at h ⊢
    split at h
    · rename_i c; rw [if_pos c]; simp; omega
    · rename_i c; rw [if_neg c]
      have := tzA_max f (x / 2) (by omega)
      rw [show 1 + tzA f (x / 2) + 1 = (tzA f (x / 2) + 1) + 1 by omega, Nat.pow_succ', mod_two_mul]
      omega
theorem pow16 {k : Nat} (h : k ≤ 16) : 2 ^ k ≤ 65536 := by
  have := Nat.pow_le_pow_right (n := 2) (by decide) h
  rwa [show (2 : Nat) ^ 16 = 65536 from by decide] at this
theorem tz_zero (x : Nat) (hx : x < 65536) (h : tz x = 16) : x = 0 := by
  have := tzA_dvd 16 x
  rw [show tzA 16 x = 16 from h, show (2 : Nat) ^ 16 = 65536 from by decide] at this
  omega
/-- How many bits the greatest block leaves free that begins at a port and has at most r. -/
def fr (low r : Nat) : Nat := min (tz low) (Lib.bitLen r - 1)
theorem fr_spec (low r : Nat) (hl : low < 65536) (h0 : 1 ≤ r) (hr : low + r ≤ 65536) :
    fr low r ≤ 16 ∧ low % 2 ^ fr low r = 0 ∧ 2 ^ fr low r ≤ r ∧ (low % 2 ^ (fr low r + 1) = 0 → r < 2 ^ (fr low r + 1)) ∧ 1 ≤ Lib.bitLen r := by
  obtain ⟨b1, b2, b3⟩ := Lib.bitLenAux_bounds 64 r (by omega) (by omega)
  have hb : Lib.bitLen r = Lib.bitLenAux 64 r := rfl
  rw [← hb] at b1 b2 b3
  have t1 : tz low ≤ 16 := tzA_le 16 low
  have t2 : low % 2 ^ tz low = 0 := tzA_dvd 16 low
  unfold fr
  generalize Lib.bitLen r = n at *
  rcases Nat.lt_or_ge (tz low) (n - 1) with h | h
  · rw [Nat.min_eq_left (by omega)]
    have t3 : tz low < 16 → low % 2 ^ (tz low + 1) ≠ 0 := tzA_max 16 low
    refine ⟨t1, t2, Nat.le_trans (Nat.pow_le_pow_right (by decide) (by omega)) b2, fun hm => ?_, b1⟩
    have e : tz low = 16 := by
      rcases Nat.lt_or_ge (tz low) 16 with h3 | h3
      · exact absurd hm (t3 h3)
      · omega
    rw [e, show (2 : Nat) ^ (16 + 1) = 131072 from by decide]
    omega
  · rw [Nat.min_eq_right h]
    refine ⟨by omega, ?_, b2, fun _ => by rw [show n - 1 + 1 = n by omega]; exact b3, b1⟩
    have hd : 2 ^ (n - 1) ∣ 2 ^ tz low := Nat.pow_dvd_pow 2 h
    exact Nat.mod_eq_zero_of_dvd (Nat.dvd_trans hd (Nat.dvd_of_mod_eq_zero t2))
/-- The blocks from a port on, up to an end: each one's port, and how many bits it leaves free. -/
def blks : Nat → Nat → Nat → List (Nat × Nat)
  | 0, _, _ => []
  | f + 1, low, e => if low < e then (low, fr low (e - low)) :: blks f (low + 2 ^ fr low (e - low)) e else []
theorem blks_end (f low e : Nat) (h : ¬ low < e) : blks f low e = [] := by
  cases f
  · rfl
  · rw [blks, if_neg h]
theorem blks_on (f low e : Nat) (h : low < e) (hf : e - low ≤ f) : ∃ f', blks f low e = (low, fr low (e - low)) :: blks f' (low + 2 ^ fr low (e - low)) e ∧ e - (low + 2 ^ fr low (e - low)) ≤ f' := by
  cases f with
  | zero => omega
  | succ f =>
    refine ⟨f, by rw [blks, if_pos h], ?_⟩
    have := Nat.pow_pos (n := fr low (e - low)) (show 0 < 2 by decide)
    omega
theorem blks_len2 : ∀ (f m low e : Nat), e - low ≤ f → e ≤ 65536 → m ≤ 16 → low % 2 ^ m = 0 → e - low < 2 ^ m → (blks f low e).length ≤ m := by
  intro f
  induction f with
  | zero => intro m low e _ _ _ _ _; simp [blks]
  | succ f ih =>
    intro m low e h1 h2 h3 h4 h5
    by_cases c : low < e
    · rw [blks, if_pos c, List.length_cons]
      obtain ⟨k1, k2, k3, k4, -⟩ := fr_spec low (e - low) (by omega) (by omega) (by omega)
      generalize fr low (e - low) = k at *
      have hkm : k < m := by
        rcases Nat.lt_or_ge k m with h | h
        · exact h
        · have := Nat.pow_le_pow_right (n := 2) (by decide) h; omega
      have k5 := k4 (Nat.mod_eq_zero_of_dvd (Nat.dvd_trans (Nat.pow_dvd_pow 2 hkm) (Nat.dvd_of_mod_eq_zero h4)))
      rw [Nat.pow_succ] at k5
      have k6 := Nat.pow_pos (n := k) (show 0 < 2 by decide)
      have := ih k (low + 2 ^ k) e (by omega) h2 k1 (by rw [Nat.add_mod_right]; exact k2) (by omega)
      omega
    · rw [blks, if_neg c]; simp
theorem blks_len1 : ∀ (f d low e : Nat), e - low ≤ f → e ≤ 65536 → d ≤ 16 → low % 2 ^ (16 - d) = 0 → (blks f low e).length ≤ d + 16 := by
  intro f
  induction f with
  | zero => intro d low e _ _ _ _; simp [blks]
  | succ f ih =>
    intro d low e h1 h2 h3 h4
    by_cases c : low < e
    · by_cases c2 : e - low < 2 ^ (16 - d)
      · have := blks_len2 (f + 1) (16 - d) low e h1 h2 (by omega) h4 c2
        omega
      · have hs := fr_spec low (e - low) (by omega) (by omega) (by omega)
        rw [blks, if_pos c, List.length_cons]
        obtain ⟨k1, k2, k3, k4, -⟩ := hs
        generalize fr low (e - low) = k at *
        have k6 := Nat.pow_pos (n := k) (show 0 < 2 by decide)
        by_cases c3 : low % 2 ^ (k + 1) = 0
        · have k5 := k4 c3
          rw [Nat.pow_succ] at k5
          have := blks_len2 f k (low + 2 ^ k) e (by omega) h2 k1 (by rw [Nat.add_mod_right]; exact k2) (by omega)
          by_cases c4 : k = 16
          · subst c4
            have := blks_len2 f 0 (low + 2 ^ 16) e (by omega) h2 (by omega) (by simp [Nat.mod_one]) (by rw [show (2 : Nat) ^ 16 = 65536 from by decide]; simp; omega)
            omega
          · omega
        · have hk : 16 - d ≤ k := by
            rcases Nat.lt_or_ge k (16 - d) with h | h
            · exact absurd (Nat.mod_eq_zero_of_dvd (Nat.dvd_trans (Nat.pow_dvd_pow 2 h) (Nat.dvd_of_mod_eq_zero h4))) c3
            · exact h
          by_cases c5 : k = 16
          · subst c5
            exfalso
            rw [show (2 : Nat) ^ 16 = 65536 from by decide] at k3
            have : low = 0 := by omega
            subst this
            simp at c3
          · have e1 : (low + 2 ^ k) % 2 ^ (k + 1) = 0 := by
              rw [Nat.pow_succ] at c3 ⊢
              have h7 : low % (2 ^ k * 2) = 2 ^ k := by
                have h8 : low % (2 ^ k * 2) = low % 2 ^ k + 2 ^ k * (low / 2 ^ k % 2) := Nat.mod_mul
                rw [k2] at h8
                have h9 : low / 2 ^ k % 2 < 2 := Nat.mod_lt _ (by decide)
                rcases (show low / 2 ^ k % 2 = 0 ∨ low / 2 ^ k % 2 = 1 by omega) with h10 | h10
                · rw [h10] at h8; simp at h8; exact absurd h8 c3
                · rw [h10] at h8; simpa using h8
              rw [Nat.add_mod, h7, Nat.mod_eq_of_lt (show 2 ^ k < 2 ^ k * 2 by omega), ← Nat.mul_two, Nat.mod_self]
            have := ih (16 - (k + 1)) (low + 2 ^ k) e (by omega) h2 (by omega) (by rw [show 16 - (16 - (k + 1)) = k + 1 by omega]; exact e1)
            omega
    · rw [blks, if_neg c]; simp
theorem blks_len (low e : Nat) (h : e ≤ 65536) : (blks (e - low) low e).length ≤ 32 := blks_len1 _ 16 low e (Nat.le_refl _) h (Nat.le_refl _) (by simp [Nat.mod_one])
/-- A port is in just one block of a range. -/
def inK (p : Nat) (x : Nat × Nat) : Bool := decide (p / 2 ^ x.2 = x.1 / 2 ^ x.2)
theorem inK_iff (p low k : Nat) (h : low % 2 ^ k = 0) : inK p (low, k) = decide (low ≤ p ∧ p < low + 2 ^ k) := by
  unfold inK
  rw [decide_eq_decide]
  have hp := Nat.pow_pos (n := k) (show 0 < 2 by decide)
  show p / 2 ^ k = low / 2 ^ k ↔ _
  generalize 2 ^ k = n at *
  have e1 := Nat.div_add_mod p n
  have e2 := Nat.div_add_mod low n
  have l1 := Nat.mod_lt p hp
  constructor
  · intro h1; rw [h1] at e1; omega
  · rintro ⟨h1, h2⟩
    rw [h] at e2
    have e3 : p = low + (p - low) := by omega
    rw [e3, ← e2, Nat.add_zero, Nat.mul_add_div hp, Nat.div_eq_of_lt (show p - n * (low / n) < n by omega), Nat.add_zero, Nat.mul_div_cancel_left _ hp]
theorem blks_count : ∀ (f low e p : Nat), e - low ≤ f → e ≤ 65536 → (blks f low e).countP (inK p) = if low ≤ p ∧ p < e then 1 else 0 := by
  intro f
  induction f with
  | zero => intro low e p h _; rw [blks, if_neg (by omega)]; rfl
  | succ f ih =>
    intro low e p h1 h2
    by_cases c : low < e
    · rw [blks, if_pos c, List.countP_cons]
      obtain ⟨k1, k2, k3, -, -⟩ := fr_spec low (e - low) (by omega) (by omega) (by omega)
      generalize fr low (e - low) = k at *
      have k6 := Nat.pow_pos (n := k) (show 0 < 2 by decide)
      rw [ih (low + 2 ^ k) e p (by omega) h2, inK_iff p low k k2]
      by_cases c1 : low ≤ p ∧ p < low + 2 ^ k
      · rw [decide_eq_true c1, if_neg (by omega), if_pos rfl, if_pos (by omega)]
      · rw [decide_eq_false c1]
        by_cases c2 : low ≤ p ∧ p < e
        · rw [if_pos (by omega), if_pos c2]; rfl
        · rw [if_neg (by omega), if_neg c2]; rfl
    · rw [blks, if_neg c, if_neg (by omega)]; rfl
/-- The table that tells which power of two it is. -/
def dbTab : List Int := [0, 1, 28, 2, 29, 14, 24, 3, 30, 22, 20, 15, 25, 17, 4, 8, 31, 27, 13, 23, 21, 19, 16, 7, 26, 12, 18, 6, 11, 5, 10, 9]
def dbAt (x : Nat) : Nat := (x &&& (65536 - x)) * 125613361 % 4294967296 / 134217728
def dbOk (x : Nat) : Bool := decide (dbAt x < 32) && (dbTab.getD (dbAt x) 0 == (tz x : Int))
def dbAll : Nat → Nat → Bool
  | 0, x => x == 0 || dbOk x
  | d + 1, x => dbAll d (x * 2) && dbAll d (x * 2 + 1)
theorem dbAll_sound : ∀ d x y, dbAll d x = true → y / 2 ^ d = x → (y == 0 || dbOk y) = true
  | 0, x, y, h, e => by simp at e; subst e; exact h
  | d + 1, x, y, h, e => by
    rw [dbAll, Bool.and_eq_true] at h
    have e2 : y / 2 ^ d / 2 = x := by rw [Nat.div_div_eq_div_mul, ← Nat.pow_succ]; exact e
    rcases (show y / 2 ^ d = x * 2 ∨ y / 2 ^ d = x * 2 + 1 by omega) with h1 | h1
    · exact dbAll_sound d _ y h.1 h1
    · exact dbAll_sound d _ y h.2 h1
set_option maxRecDepth 100000 in
theorem dbAll_true : dbAll 16 0 = true := by decide +kernel
theorem db_ok (x : Nat) (h0 : x ≠ 0) (h : x < 65536) : dbAt x < 32 ∧ dbTab.getD (dbAt x) 0 = (tz x : Int) := by
  have := dbAll_sound 16 0 x dbAll_true (Nat.div_eq_of_lt (by simpa using h))
  rw [Bool.or_eq_true] at this
  rcases this with h1 | h1
  · exact absurd (eq_of_beq h1) h0
  · unfold dbOk at h1
    rw [Bool.and_eq_true] at h1
    exact ⟨of_decide_eq_true h1.1, eq_of_beq h1.2⟩
end Go.Proofs.YtlmeagnegakifaaDoor
