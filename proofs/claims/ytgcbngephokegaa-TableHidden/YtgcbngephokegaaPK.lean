/- The document's size, Right, Has of prefixes (cidr/C2 without what EC has not). -/
import Derived.Test.YtgcbngephokegaaC1
namespace Go.Proofs.Ytgcbngephokegaa
open Go.RowKit
set_option linter.unusedVariables false

set_option maxHeartbeats 1000000 in
theorem rsize_any (k : Nat) (hk : k ≤ 32) (w : World) :
    Calls Try.prog 64 #[.int .i64 k] w fun e w' => e = .returned (.int .u64 (sz k)) ∧ w' = w := by
  go_enter Try.func64, Try.ntmps64
  go_wp2
  go_loopw [3, 4] (fun sv iv wr => ∃ i s : Nat, iv = .int .i64 i ∧ sv = .int .u64 s ∧ k ≤ i ∧ i ≤ 32 ∧ s * sz i = sz k ∧ wr = w) (fun _ iv _ => 32 - (intOf iv).toNat)
  case atStart => exact ⟨k, 1, rfl, rfl, Nat.le_refl _, hk, Nat.one_mul _, rfl⟩
  case round =>
    obtain ⟨i, s, rfl, rfl, h1, h2, h3, rfl⟩ := hrel
    have HS := Lib.hid h3
    have hs : s ≤ 4294967296 := by
      have h4 := sz_pos i
      have h5 := sz_le k
      rw [← h3] at h5
      exact Nat.le_trans (Nat.le_mul_of_pos_right s h4) h5
    clear h3
    by_cases hlt : i < 32
    · have HS' : Hid (s * 2 * sz (i + 1) = sz k) := by
        show _ = _
        rw [← HS.out, Nat.mul_assoc]
        congr 1
        unfold sz
        rw [← Nat.pow_succ', show (32 - (i + 1)).succ = 32 - i by omega]
      go_wp2
      refine ⟨⟨i + 1, s * 2, by first | rfl | (congr 1), by go_num, by omega, by omega, HS'.out, by trivial⟩, ?_⟩
      simp [intOf]; omega
    · obtain rfl : i = 32 := by omega
      have HE : Hid (s = sz k) := by show _ = _; rw [← HS.out]; unfold sz; simp
      go_wp2
      go_ret
      exact ⟨by rw [HE.out]; rfl, rfl⟩
set_option maxHeartbeats 1000000 in
theorem rright_any (a : Nat) (n : Int) (ha : a < 4294967296) (w : World) :
    Calls Try.prog 45 #[pv a n] w fun e w' => e = .returned (.bool (rightB a n)) ∧ Below w.heap.size w w' := by
  unfold rightB
  by_cases h0 : 0 ≤ n
  · obtain ⟨k, rfl⟩ := Int.eq_ofNat_of_zero_le h0
    by_cases h1 : (k : Int) ≤ 32
    · have hS := rsize_any k (by omega)
      have hp := sz_pos k
      have hl := sz_le k
      rw [Int.toNat_natCast]
      generalize sz k = s at *
      have d0 : decide (0 ≤ (k : Int)) = true := decide_eq_true h0
      have d1 : decide ((k : Int) ≤ 32) = true := decide_eq_true h1
      have hs0 : ¬ (s : Int) = 0 := by omega
      have HE : Hid (((a : Int) % (s : Int) == 0) = decide (0 ≤ (k : Int) ∧ (k : Int) ≤ 32 ∧ a % s = 0)) := by
        show _ = _
        rw [Bool.eq_iff_iff]; simp; omega
      go_enter Try.func45, Try.ntmps45
      go_wp2_with fail
      go_quiet ((go_at_call 64; exact Calls.quiet_of_same (hS _)))
      go_wp2_with fail
      go_ret
      exact ⟨cret_bool HE.out, below_drewN (cbelow_al (Below.refl _ _) _) _⟩
    · have d0 : decide (0 ≤ (k : Int)) = true := decide_eq_true h0
      have d1 : decide ((k : Int) ≤ 32) = false := decide_eq_false h1
      rw [decide_eq_false (by omega)]
      go_enter Try.func45, Try.ntmps45
      go_wp2_with fail
      go_quiet (fail)
      go_wp2_with fail
      go_ret
      exact ⟨rfl, below_drewN (cbelow_al (Below.refl _ _) _) _⟩
  · have d0 : decide (0 ≤ n) = false := decide_eq_false h0
    rw [decide_eq_false (by omega)]
    go_enter Try.func45, Try.ntmps45
    go_wp2_with fail
    go_quiet (fail)
    go_wp2_with fail
    go_ret
    exact ⟨rfl, below_drewN (cbelow_al (Below.refl _ _) _) _⟩
set_option maxHeartbeats 1000000 in
theorem rhas_any (a k x : Nat) (hk : k ≤ 32) (ha : a < 4294967296) (hx : x < 4294967296) (w : World) :
    Calls Try.prog 48 #[pv a k, .int .u32 x] w fun e w' => e = .returned (.bool (decide (x / sz k = a / sz k))) ∧ Below w.heap.size w w' := by
  have hS := rsize_any k hk
  have hp := sz_pos k
  have hl := sz_le k
  generalize sz k = s at *
  have hs0 : ¬ (s : Int) = 0 := by omega
  have HE : Hid ((IntKind.u64.wrap ((x : Int) / (s : Int)) == IntKind.u64.wrap ((a : Int) / (s : Int))) = decide (x / s = a / s)) := by
    show _ = _
    have h1 := Nat.div_le_self x s
    have h2 := Nat.div_le_self a s
    rw [← Int.natCast_ediv, ← Int.natCast_ediv]
    generalize x / s = p at *
    generalize a / s = q at *
    rw [u64_wrap_id _ (by omega) (by omega), u64_wrap_id _ (by omega) (by omega), Bool.eq_iff_iff]; simp; omega
  go_enter Try.func48, Try.ntmps48
  go_wp2_with fail
  go_quiet ((go_at_call 64; exact Calls.quiet_of_same (hS _)))
  go_wp2_with fail
  go_ret
  exact ⟨cret_bool HE.out, below_drewN (cbelow_al (Below.refl _ _) _) _⟩
end Go.Proofs.Ytgcbngephokegaa
