/- Prefixes: what Within, Meet, Last answer; the document's size, Right. -/
import Derived.Test.YtlmeagnegakifaaDoorC1
namespace Go.Proofs.YtlmeagnegakifaaDoor
open Go.RowKit
set_option linter.unusedVariables false

def withinB (a : Nat) (n : Int) (b : Nat) (m : Int) : Bool := decide (m ≤ n) && hasB b m a
def meetB (a : Nat) (n : Int) (b : Nat) (m : Int) : Bool := withinB a n b m || withinB b m a n
set_option maxHeartbeats 400000 in
theorem within_any (a : Nat) (n : Int) (b : Nat) (m : Int) (ha : a < 4294967296) (w : World) :
    Calls Tryd.prog 78 #[pv a n, pv b m] w fun e w' => e = .returned (.bool (withinB a n b m)) ∧ Below w.heap.size w w' := by
  have HH := Lib.hid (has_any b m a ha)
  unfold withinB
  generalize hasB b m a = t at HH
  by_cases c : m ≤ n
  · rw [decide_eq_true c]
    go_enter Tryd.func78, Tryd.ntmps78
    go_wp2_with fail
    refine (HH.out _).mono ?_
    rintro e w' ⟨rfl, hb⟩
    go_wp2
    go_ret
    exact ⟨cret_bool (by simp), cbelow_on (cbelow_al (cbelow_al (Below.refl _ _) _) _) hb⟩
  · rw [decide_eq_false c]
    go_enter Tryd.func78, Tryd.ntmps78
    go_wp2
    go_ret
    exact ⟨cret_bool (by simp), cbelow_al (cbelow_al (Below.refl _ _) _) _⟩
set_option maxHeartbeats 1000000 in
theorem meet_any (a : Nat) (n : Int) (b : Nat) (m : Int) (ha : a < 4294967296) (hb : b < 4294967296) (w : World) :
    Calls Tryd.prog 64 #[pv a n, pv b m] w fun e w' => e = .returned (.bool (meetB a n b m)) ∧ Below w.heap.size w w' := by
  have H1 := Lib.hid (within_any a n b m ha)
  have H2 := Lib.hid (within_any b m a n hb)
  unfold meetB
  generalize withinB a n b m = s at H1 ⊢
  generalize withinB b m a n = t at H2 ⊢
  go_enter Tryd.func64, Tryd.ntmps64
  go_wp2_with fail
  refine (H1.out _).mono ?_
  rintro e w' ⟨rfl, hb⟩
  obtain ⟨hc, -⟩ := ckeep hb
  have hc := (ckeep hb).2
  have HB := Lib.hid hb
  clear hb
  cases s
  · go_wp2_with fail
    refine (H2.out _).mono ?_
    rintro e w2 ⟨rfl, hb2⟩
    go_wp2
    go_ret
    exact ⟨cret_bool (by simp), cbelow_on (cbelow_on (cbelow_al (cbelow_al (Below.refl _ _) _) _) HB.out) hb2⟩
  · go_wp2
    go_ret
    exact ⟨cret_bool (by simp), cbelow_on (cbelow_al (cbelow_al (Below.refl _ _) _) _) HB.out⟩
set_option maxHeartbeats 1000000 in
theorem rsize_any (k : Nat) (hk : k ≤ 32) (w : World) :
    Calls Tryd.prog 54 #[.int .i64 k] w fun e w' => e = .returned (.int .u64 (sz k)) ∧ w' = w := by
  go_enter Tryd.func54, Tryd.ntmps54
  go_wp2
  go_loopw [3, 4] (fun sv iv wr => ∃ i s : Nat, iv = .int .i64 i ∧ sv = .int .u64 s ∧ k ≤ i ∧ i ≤ 32 ∧ s * sz i = sz k ∧ wr = w) (fun _ iv _ => 32 - (intOf iv).toNat)
  case atStart => exact ⟨k, 1, rfl, rfl, Nat.le_refl _, hk, Nat.one_mul _, rfl⟩
  case round =>
    obtain ⟨i, s, rfl, rfl, h1, h2, h3, rfl⟩ := hrel
    have HS := Lib.hid h3
    have hs : s ≤ 4294967296 := by
      have h4 := sz_pos i
      have h5 := sz_le k
      rw [← h3] at h5
      exact Nat.le_trans (Nat.le_mul_of_pos_right s h4) h5
    clear h3
    by_cases hlt : i < 32
    · have HS' : Hid (s * 2 * sz (i + 1) = sz k) := by
        show _ = _
        rw [← HS.out, Nat.mul_assoc]
        congr 1
        unfold sz
        rw [← Nat.pow_succ', show (32 - (i + 1)).succ = 32 - i by omega]
      go_wp2
      refine ⟨⟨i + 1, s * 2, by first | rfl | (congr 1), by go_num, by omega, by omega, HS'.out, by trivial⟩, ?_⟩
      simp [intOf]; omega
    · obtain rfl : i = 32 := by omega
      have HE : Hid (s = sz k) := by show _ = _; rw [← HS.out]; unfold sz; simp
      go_wp2
      go_ret
      exact ⟨by rw [HE.out]; rfl, rfl⟩
set_option maxHeartbeats 1000000 in
theorem rright_any (a : Nat) (n : Int) (ha : a < 4294967296) (w : World) :
    Calls Tryd.prog 25 #[pv a n] w fun e w' => e = .returned (.bool (rightB a n)) ∧ Below w.heap.size w w' := by
  unfold rightB
  by_cases h0 : 0 ≤ n
  · obtain ⟨k, rfl⟩ := Int.eq_ofNat_of_zero_le h0
    by_cases h1 : (k : Int) ≤ 32
    · have hS := rsize_any k (by omega)
      have hp := sz_pos k
      have hl := sz_le k
      rw [Int.toNat_natCast]
      generalize sz k = s at *
      have d0 : decide (0 ≤ (k : Int)) = true := decide_eq_true h0
      have d1 : decide ((k : Int) ≤ 32) = true := decide_eq_true h1
      have hs0 : ¬ (s : Int) = 0 := by omega
      have HE : Hid (((a : Int) % (s : Int) == 0) = decide (0 ≤ (k : Int) ∧ (k : Int) ≤ 32 ∧ a % s = 0)) := by
        show _ = _
        rw [Bool.eq_iff_iff]; simp; omega
      go_enter Tryd.func25, Tryd.ntmps25
      go_wp2_with fail
      go_quiet ((go_at_call 54; exact Calls.quiet_of_same (hS _)))
      go_wp2_with fail
      go_ret
      exact ⟨cret_bool HE.out, below_drewN (cbelow_al (Below.refl _ _) _) _⟩
    · have d0 : decide (0 ≤ (k : Int)) = true := decide_eq_true h0
      have d1 : decide ((k : Int) ≤ 32) = false := decide_eq_false h1
      rw [decide_eq_false (by omega)]
      go_enter Tryd.func25, Tryd.ntmps25
      go_wp2_with fail
      go_quiet (fail)
      go_wp2_with fail
      go_ret
      exact ⟨rfl, below_drewN (cbelow_al (Below.refl _ _) _) _⟩
  · have d0 : decide (0 ≤ n) = false := decide_eq_false h0
    rw [decide_eq_false (by omega)]
    go_enter Tryd.func25, Tryd.ntmps25
    go_wp2_with fail
    go_quiet (fail)
    go_wp2_with fail
    go_ret
    exact ⟨rfl, below_drewN (cbelow_al (Below.refl _ _) _) _⟩
set_option maxHeartbeats 1000000 in
theorem rhas_any (a k x : Nat) (hk : k ≤ 32) (ha : a < 4294967296) (hx : x < 4294967296) (w : World) :
    Calls Tryd.prog 61 #[pv a k, .int .u32 x] w fun e w' => e = .returned (.bool (decide (x / sz k = a / sz k))) ∧ Below w.heap.size w w' := by
  have hS := rsize_any k hk
  have hp := sz_pos k
  have hl := sz_le k
  generalize sz k = s at *
  have hs0 : ¬ (s : Int) = 0 := by omega
  have HE : Hid ((IntKind.u64.wrap ((x : Int) / (s : Int)) == IntKind.u64.wrap ((a : Int) / (s : Int))) = decide (x / s = a / s)) := by
    show _ = _
    have h1 := Nat.div_le_self x s
    have h2 := Nat.div_le_self a s
    rw [← Int.natCast_ediv, ← Int.natCast_ediv]
    generalize x / s = p at *
    generalize a / s = q at *
    rw [u64_wrap_id _ (by omega) (by omega), u64_wrap_id _ (by omega) (by omega), Bool.eq_iff_iff]; simp; omega
  go_enter Tryd.func61, Tryd.ntmps61
  go_wp2_with fail
  go_quiet ((go_at_call 54; exact Calls.quiet_of_same (hS _)))
  go_wp2_with fail
  go_ret
  exact ⟨cret_bool HE.out, below_drewN (cbelow_al (Below.refl _ _) _) _⟩
end Go.Proofs.YtlmeagnegakifaaDoor
