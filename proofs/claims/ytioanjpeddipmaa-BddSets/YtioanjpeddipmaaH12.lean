/- The document's 'number': so many bits from a place on. -/
import Derived.Test.YtioanjpeddipmaaH1
import Derived.Lib.Hide
namespace Go.Proofs.Ytioanjpeddipmaa
open Go.RowKit
set_option linter.unusedVariables false

/-- So many bits from a place on, the highest first. -/
def numB (B : Nat → Bool) (p : Nat) : Nat → Nat
  | 0 => 0
  | k + 1 => numB B p k * 2 + (B (p + k)).toNat
theorem numB_lt (B : Nat → Bool) (p : Nat) : ∀ k, numB B p k < 2 ^ k
  | 0 => by simp [numB]
  | k + 1 => by
    have := numB_lt B p k
    have h : (B (p + k)).toNat ≤ 1 := Bool.toNat_le _
    rw [numB, Nat.pow_succ]; omega
theorem numB_lt32 (B : Nat → Bool) (p k : Nat) (h : k ≤ 31) : numB B p k < 2147483648 := by
  have := numB_lt B p k
  have h2 : 2 ^ k ≤ 2 ^ 31 := Nat.pow_le_pow_right (by decide) h
  rw [show (2 : Nat) ^ 31 = 2147483648 from by decide] at h2
  omega
set_option maxHeartbeats 1000000 in
theorem number_bits (B : Nat → Bool) (g cap p n : Nat) (hp : p + n ≤ 104) (hn : n ≤ 32) (w : World) (hcell : Hid (∀ j, j < 104 → w.cell? ⟨g, j, none⟩ = some (.bool (B j)))) :
    Calls Try.prog 47 #[.slice (some ⟨g, 0, none⟩) 104 cap, .int .i64 p, .int .i64 n] w fun e w' => e = .returned (.int .u32 (numB B p n)) ∧ w' = w := by
  obtain ⟨t, ht⟩ : ∃ t : Nat, numB B p n = t := ⟨_, rfl⟩
  rw [ht]
  have HT := Lib.hid ht
  clear ht
  go_enter Try.func47, Try.ntmps47
  go_wp2
  go_loopw [7, 8] (fun nv iv wr => ∃ i : Nat, iv = .int .i64 i ∧ nv = .int .u32 (numB B p i) ∧ i ≤ n ∧ wr = w) (fun _ iv _ => n - (intOf iv).toNat)
  case atStart => exact ⟨0, rfl, rfl, Nat.zero_le _, rfl⟩
  case round =>
    obtain ⟨i, rfl, rfl, hi, rfl⟩ := hrel
    by_cases hlt : i < n
    · obtain ⟨q, hq⟩ : ∃ q, p + i = q := ⟨_, rfl⟩
      have hqI : (p : Int) + (i : Int) = (q : Int) := by omega
      have hq1 : q < 104 := by omega
      have hcl := hcell.out q hq1
      obtain ⟨v, hv⟩ : ∃ v, numB B p i = v := ⟨_, rfl⟩
      have hv1 : v < 2147483648 := by rw [← hv]; exact numB_lt32 B p i (by omega)
      rw [hv]
      have HS : Hid (numB B p (i + 1) = v * 2 + (B q).toNat) := by show _ = _; rw [numB, hv, hq]
      clear hv
      cases hb : B q
      · rw [hb] at hcl HS
        have HS' : Hid ((v : Int) * 2 = (numB B p (i + 1) : Nat)) := by show _ = _; rw [HS.out]; simp
        clear hb HS
        go_wp2
        refine ⟨⟨i + 1, by first | rfl | (congr 1), by rw [HS'.out], by omega, by trivial⟩, ?_⟩
        simp [intOf]; omega
      · rw [hb] at hcl HS
        have HS' : Hid ((v : Int) * 2 + 1 = (numB B p (i + 1) : Nat)) := by show _ = _; rw [HS.out]; simp
        clear hb HS
        go_wp2
        refine ⟨⟨i + 1, by first | rfl | (congr 1), by rw [HS'.out], by omega, by trivial⟩, ?_⟩
        simp [intOf]; omega
    · obtain rfl : i = n := by omega
      have HTo := HT.out
      subst HTo
      go_wp2
      go_ret
      exact ⟨rfl, rfl⟩
end Go.Proofs.Ytioanjpeddipmaa
