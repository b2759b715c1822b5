/- The document's Number: the same as the program's. -/
import Derived.Test.YtlmeagnegakifaaDoorH3
namespace Go.Proofs.YtlmeagnegakifaaDoor
open Go.RowKit
set_option linter.unusedVariables false

/-- Digit by digit, where a nought ahead was asked for before. -/
def rgo (m : Nat) : List UInt8 → Nat → Nat × Int
  | [], c => (c, 0)
  | b :: r, c => if b.toNat < 48 ∨ 57 < b.toNat then (0, 6) else if m < c * 10 + (b.toNat - 48) then (0, 5) else rgo m r (c * 10 + (b.toNat - 48))
theorem rgo_bad (m : Nat) (b : UInt8) (r : List UInt8) (c : Nat) (h : b.toNat < 48 ∨ 57 < b.toNat) : rgo m (b :: r) c = (0, 6) := by rw [rgo, if_pos h]
theorem rgo_big (m : Nat) (b : UInt8) (r : List UInt8) (c : Nat) (h1 : 48 ≤ b.toNat) (h2 : b.toNat ≤ 57) (h4 : m < c * 10 + (b.toNat - 48)) : rgo m (b :: r) c = (0, 5) := by
  rw [rgo, if_neg (by omega), if_pos h4]
theorem rgo_next (m : Nat) (b : UInt8) (r : List UInt8) (c : Nat) (h1 : 48 ≤ b.toNat) (h2 : b.toNat ≤ 57) (h4 : c * 10 + (b.toNat - 48) ≤ m) : rgo m (b :: r) c = rgo m r (c * 10 + (b.toNat - 48)) := by
  rw [rgo, if_neg (by omega), if_neg (by omega)]
theorem ngo_rgo (m : Nat) : ∀ (l : List UInt8) (c : Nat), c ≠ 0 → ngo m l false c = rgo m l c
  | [], c, _ => rfl
  | b :: r, c, h => by
    rw [ngo, rgo]
    by_cases h1 : b.toNat < 48 ∨ 57 < b.toNat
    · rw [if_pos (by omega), if_pos h1]
    · rw [if_neg (by rintro (h2 | h2 | ⟨_, h2⟩) <;> omega), if_neg h1]
      split
      · rfl
      · exact ngo_rgo m r _ (by omega)
theorem ngo_first (m : Nat) (b : UInt8) (r : List UInt8) (h : b.toNat ≠ 48 ∨ r = []) : ngo m (b :: r) true 0 = rgo m (b :: r) 0 := by
  rw [ngo, rgo]
  by_cases h1 : b.toNat < 48 ∨ 57 < b.toNat
  · rw [if_pos (by omega), if_pos h1]
  · rw [if_neg (by rintro (h2 | h2 | ⟨h2, _⟩) <;> first | omega | cases h2), if_neg h1]
    split
    · rfl
    · rcases h with h | rfl
      · exact ngo_rgo m r _ (by omega)
      · rfl
theorem ngo_zero (m : Nat) (b : UInt8) (b' : UInt8) (r : List UInt8) (h : b.toNat = 48) : ngo m (b :: b' :: r) true 0 = (0, 6) := by
  rw [ngo_next m _ _ _ _ (by omega) (by omega) (Or.inl rfl) (by omega), show 0 * 10 + (b.toNat - 48) = 0 by omega]
  exact ngo_bad m b' r false 0 (Or.inr (Or.inr ⟨rfl, rfl⟩))
set_option maxHeartbeats 2000000 in
theorem rnum_loop (s : ByteArray) (m : Nat) (hM : m < 65536) (hs : 0 < s.size) (hm : s.size ≤ maxLen) (T : Nat × Int) (hT : Hid (rgo m s.data.toList 0 = T)) (c0 : s[0].toNat ≠ 48 ∨ s.size = 1) (w : World) :
    Calls Tryd.prog 21 #[.string s, .int .i64 m] w fun e w' => e = .returned (.tuple #[.int .i64 T.1, .int .i64 T.2]) ∧ w' = w := by
  unfold maxLen at hm
  have hz : ((s.size : Int) == 0) = false := by rw [beq_eq_false_iff_ne]; omega
  have hc0 : (((s[0].toNat : Nat) : Int) == 48) = false ∨ decide ((1 : Int) < (s.size : Int)) = false := by
    rcases c0 with h | h
    · left; rw [beq_eq_false_iff_ne]; intro h2; exact h (by exact_mod_cast h2)
    · right; simp; omega
  clear c0
  rcases hc0 with c0 | c0
  all_goals
    go_enter Tryd.func21, Tryd.ntmps21
    go_wp2
    all_goals
      go_loopw [6, 7] (fun nv iv wr => ∃ i c : Nat, iv = .int .i64 i ∧ nv = .int .i64 c ∧ i ≤ s.size ∧ c ≤ m ∧ wr = w ∧ rgo m (s.data.toList.drop i) c = T) (fun _ iv _ => s.size - (intOf iv).toNat)
      case atStart => exact ⟨0, 0, rfl, rfl, Nat.zero_le _, Nat.zero_le _, rfl, hT.out⟩
      case round =>
        obtain ⟨i, c, rfl, rfl, hi, hc, rfl, hT'⟩ := hrel
        have HT := Lib.hid hT'
        clear hT' hT
        by_cases hlt : i < s.size
        · have HD := Lib.hid (drop_byte s i hlt)
          obtain ⟨z, hz'⟩ : ∃ z, s[i].toNat = z := ⟨_, rfl⟩
          have HZ := Lib.hid hz'
          have hz9 : z < 256 := by rw [← hz']; exact s[i].toNat_lt
          by_cases hbad : z < 48 ∨ 57 < z
          · have HT6 : Hid (T = (0, 6)) := by
              have h1 := HT.out
              rw [HD.out, rgo_bad _ _ _ _ (by rw [HZ.out]; exact hbad)] at h1
              exact h1.symm
            rcases hbad with hb | hb
            · go_wp2
              refine bodyPost_ret (v := .tuple #[.int .i64 0, .int .i64 6]) (by simp [results, Tryd.results21, go_sem]) rfl ⟨?_, rfl⟩
              rw [HT6.out]; rfl
            · have hb' : ¬ z < 48 := by omega
              go_wp2
              refine bodyPost_ret (v := .tuple #[.int .i64 0, .int .i64 6]) (by simp [results, Tryd.results21, go_sem]) rfl ⟨?_, rfl⟩
              rw [HT6.out]; rfl
          · have d1 : decide (z < 48) = false := by simp; omega
            have d2 : decide (57 < z) = false := by simp; omega
            have hz1 : 48 ≤ z := by omega
            have hz2 : z ≤ 57 := by omega
            have hcm : c < 65536 := by omega
            by_cases hbig : m < c * 10 + (z - 48)
            · have HT5 : Hid (T = (0, 5)) := by
                have h1 := HT.out
                rw [HD.out, rgo_big _ _ _ _ (by rw [HZ.out]; omega) (by rw [HZ.out]; omega) (by rw [HZ.out]; exact hbig)] at h1
                exact h1.symm
              have hbI : (m : Int) < (c : Int) * 10 + (z : Int) - 48 := by omega
              clear hbad hbig
              go_wp2
              refine bodyPost_ret (v := .tuple #[.int .i64 0, .int .i64 5]) (by simp [results, Tryd.results21, go_sem]) rfl ⟨?_, rfl⟩
              rw [HT5.out]; rfl
            · have hbI : (c : Int) * 10 + (z : Int) - 48 ≤ (m : Int) := by omega
              have HN : Hid ((c : Int) * 10 + (z : Int) - 48 = ((c * 10 + (z - 48) : Nat) : Int)) := by show _ = _; omega
              have HR : Hid (rgo m (s.data.toList.drop (i + 1)) (c * 10 + (z - 48)) = T) := by
                have h1 := HT.out
                rw [HD.out, rgo_next _ _ _ _ (by rw [HZ.out]; omega) (by rw [HZ.out]; omega) (by rw [HZ.out]; omega), HZ.out] at h1
                exact h1
              have HL := Lib.hid (show c * 10 + (z - 48) ≤ m by omega)
              clear hbad hbig
              go_wp2
              refine ⟨⟨i + 1, c * 10 + (z - 48), by first | rfl | (congr 1), by rw [HN.out], by omega, HL.out, by trivial, HR.out⟩, ?_⟩
              simp [intOf]; omega
        · have HTc : Hid (T = (c, 0)) := by
            have h1 := HT.out
            rw [drop_end s i (by omega), rgo] at h1
            exact h1.symm
          have hge : ¬ (i : Int) < (s.size : Int) := by omega
          go_wp2
          refine bodyPost_ret (v := .tuple #[.int .i64 c, .int .i64 0]) (by simp [results, Tryd.results21, go_sem]) rfl ⟨?_, rfl⟩
          rw [HTc.out]
set_option maxHeartbeats 1000000 in
theorem rnum_zero (s : ByteArray) (m : Int) (hs : 1 < s.size) (c0 : (((s[0].toNat : Nat) : Int) == 48) = true) (w : World) :
    Calls Tryd.prog 21 #[.string s, .int .i64 m] w fun e w' => e = .returned (.tuple #[.int .i64 0, .int .i64 6]) ∧ w' = w := by
  have hz : ((s.size : Int) == 0) = false := by rw [beq_eq_false_iff_ne]; omega
  have hs' : decide ((1 : Int) < (s.size : Int)) = true := by simp; omega
  go_enter Tryd.func21, Tryd.ntmps21
  go_wp2
  exact bodyPost_ret (v := .tuple #[.int .i64 0, .int .i64 6]) (by simp [results, Tryd.results21, go_sem]) rfl ⟨rfl, rfl⟩
set_option maxHeartbeats 1000000 in
theorem rnum_empty (m : Int) (w : World) :
    Calls Tryd.prog 21 #[.string ByteArray.empty, .int .i64 m] w fun e w' => e = .returned (.tuple #[.int .i64 0, .int .i64 6]) ∧ w' = w := by
  go_enter Tryd.func21, Tryd.ntmps21
  go_wp2
  exact bodyPost_ret (v := .tuple #[.int .i64 0, .int .i64 6]) (by simp [results, Tryd.results21, go_sem]) rfl ⟨rfl, rfl⟩
/-- The document's Number is the program's. -/
theorem rnum_any (s : ByteArray) (m : Nat) (hM : m < 65536) (hm : s.size ≤ maxLen) (w : World) :
    Calls Tryd.prog 21 #[.string s, .int .i64 m] w fun e w' => e = .returned (.tuple #[.int .i64 (nz m s.data.toList).1, .int .i64 (nz m s.data.toList).2]) ∧ w' = w := by
  by_cases h : 0 < s.size
  · have e0 : s.data.toList = s[0] :: s.data.toList.drop 1 := drop_byte s 0 h
    have en : nz m s.data.toList = ngo m (s[0] :: s.data.toList.drop 1) true 0 := by rw [nz, if_neg (by rw [e0]; exact List.cons_ne_nil _ _), ← e0]
    by_cases c : s[0].toNat = 48 ∧ 1 < s.size
    · have e1 : s.data.toList.drop 1 = s[1] :: s.data.toList.drop 2 := drop_byte s 1 c.2
      rw [en, e1, ngo_zero m _ _ _ c.1]
      exact rnum_zero s m c.2 (by rw [c.1]; rfl) w
    · rw [en]
      refine rnum_loop s m hM h hm _ ?_ (by omega) w
      show _ = _
      rw [ngo_first m _ _ (by
        by_cases h1 : s[0].toNat = 48
        · exact Or.inr (drop_end s 1 (by omega))
        · exact Or.inl h1), ← e0]
  · have h0 : s = ByteArray.empty := by
      apply ByteArray.ext
      apply Array.eq_empty_of_size_eq_zero
      simpa using h
    subst h0
    exact rnum_empty m w
end Go.Proofs.YtlmeagnegakifaaDoor
