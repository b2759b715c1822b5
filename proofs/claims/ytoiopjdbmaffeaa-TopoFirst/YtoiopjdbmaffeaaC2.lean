/- Prefixes: what Within, Meet, Last answer; the document's size, Right. -/
import Derived.Test.YtoiopjdbmaffeaaC1
namespace Go.Proofs.Ytoiopjdbmaffeaa
open Go.RowKit
set_option linter.unusedVariables false

def withinB (a : Nat) (n : Int) (b : Nat) (m : Int) : Bool := decide (m ≤ n) && hasB b m a
def meetB (a : Nat) (n : Int) (b : Nat) (m : Int) : Bool := withinB a n b m || withinB b m a n
set_option maxHeartbeats 1000000 in
theorem rsize_any (k : Nat) (hk : k ≤ 32) (w : World) :
    Calls Try.prog 22 #[.int .i64 k] w fun e w' => e = .returned (.int .u64 (sz k)) ∧ w' = w := by
  go_enter Try.func22, Try.ntmps22
  go_wp2
  go_loopw [3, 4] (fun sv iv wr => ∃ i s : Nat, iv = .int .i64 i ∧ sv = .int .u64 s ∧ k ≤ i ∧ i ≤ 32 ∧ s * sz i = sz k ∧ wr = w) (fun _ iv _ => 32 - (intOf iv).toNat)
  case atStart => exact ⟨k, 1, rfl, rfl, Nat.le_refl _, hk, Nat.one_mul _, rfl⟩
  case round =>
    obtain ⟨i, s, rfl, rfl, h1, h2, h3, rfl⟩ := hrel
    have HS := Lib.hid h3
    have hs : s ≤ 4294967296 := by
      have h4 := sz_pos i
      have h5 := sz_le k
      rw [← h3] at h5
      exact Nat.le_trans (Nat.le_mul_of_pos_right s h4) h5
    clear h3
    by_cases hlt : i < 32
    · have HS' : Hid (s * 2 * sz (i + 1) = sz k) := by
        show _ = _
        rw [← HS.out, Nat.mul_assoc]
        congr 1
        unfold sz
        rw [← Nat.pow_succ', show (32 - (i + 1)).succ = 32 - i by omega]
      go_wp2
      refine ⟨⟨i + 1, s * 2, by first | rfl | (congr 1), by go_num, by omega, by omega, HS'.out, by trivial⟩, ?_⟩
      simp [intOf]; omega
    · obtain rfl : i = 32 := by omega
      have HE : Hid (s = sz k) := by show _ = _; rw [← HS.out]; unfold sz; simp
      go_wp2
      go_ret
      exact ⟨by rw [HE.out]; rfl, rfl⟩
set_option maxHeartbeats 1000000 in
theorem rright_any (a : Nat) (n : Int) (ha : a < 4294967296) (w : World) :
    Calls Try.prog 16 #[pv a n] w fun e w' => e = .returned (.bool (rightB a n)) ∧ Below w.heap.size w w' := by
  unfold rightB
  by_cases h0 : 0 ≤ n
  · obtain ⟨k, rfl⟩ := Int.eq_ofNat_of_zero_le h0
    by_cases h1 : (k : Int) ≤ 32
    · have hS := rsize_any k (by omega)
      have hp := sz_pos k
      have hl := sz_le k
      rw [Int.toNat_natCast]
      generalize sz k = s at *
      have d0 : decide (0 ≤ (k : Int)) = true := decide_eq_true h0
      have d1 : decide ((k : Int) ≤ 32) = true := decide_eq_true h1
      have hs0 : ¬ (s : Int) = 0 := by omega
      have HE : Hid (((a : Int) % (s : Int) == 0) = decide (0 ≤ (k : Int) ∧ (k : Int) ≤ 32 ∧ a % s = 0)) := by
        show _ = _
        rw [Bool.eq_iff_iff]; simp; omega
      go_enter Try.func16, Try.ntmps16
      go_wp2_with fail
      go_quiet ((go_at_call 22; exact Calls.quiet_of_same (hS _)))
      go_wp2_with fail
      go_ret
      exact ⟨cret_bool HE.out, below_drewN (cbelow_al (Below.refl _ _) _) _⟩
    · have d0 : decide (0 ≤ (k : Int)) = true := decide_eq_true h0
      have d1 : decide ((k : Int) ≤ 32) = false := decide_eq_false h1
      rw [decide_eq_false (by omega)]
      go_enter Try.func16, Try.ntmps16
      go_wp2_with fail
      go_quiet (fail)
      go_wp2_with fail
      go_ret
      exact ⟨rfl, below_drewN (cbelow_al (Below.refl _ _) _) _⟩
  · have d0 : decide (0 ≤ n) = false := decide_eq_false h0
    rw [decide_eq_false (by omega)]
    go_enter Try.func16, Try.ntmps16
    go_wp2_with fail
    go_quiet (fail)
    go_wp2_with fail
    go_ret
    exact ⟨rfl, below_drewN (cbelow_al (Below.refl _ _) _) _⟩
end Go.Proofs.Ytoiopjdbmaffeaa
