/- Tenths: math/bits.Div64 at 10, and a count without its last digit. -/
import Derived.Test.YteinkjlnofmalaaW2
import Derived.Lib.Hide
import Derived.Deep.QuietTactic
import Derived.BigQuiet
namespace Go.Proofs.Yteinkjlnofmalaa
open Go.RowKit
set_option linter.unusedVariables false
set_option maxRecDepth 100000 in
set_option maxHeartbeats 400000 in
theorem len_10 (w : World) :
    Calls Try.prog 34 #[.int .u64 10] w fun e w' => e = .returned (.int .i64 4) ∧ w = w' := by
  go_enter Try.func34, Try.ntmps34
  go_wp2
  go_ret
  refine ⟨ret_int ?_, rfl⟩
  have e : ∀ n : Nat, n = 4 → wrap64 (wrap64 (n : Int)) = 4 := by rintro n rfl; unfold wrap64; decide
  apply e
  decide +kernel
set_option maxHeartbeats 400000 in
theorem lz_10 (w : World) :
    Calls Try.prog 33 #[.int .u64 10] w fun e w' => e = .returned (.int .i64 60) ∧ w = w' := by
  go_enter Try.func33, Try.ntmps33
  go_wp2_with (go_at_call 34; refine (len_10 _).mono ?_; rintro e w' ⟨rfl, rfl⟩)
  go_ret
  exact ⟨rfl, rfl⟩
theorem div_or (h l : Int) (h0 : 1 ≤ h) (h1 : h ≤ 9) (l0 : 0 ≤ l) (l1 : l ≤ 18446744073709551615) :
    bits .or .u64 (h * 1152921504606846976) (l / 16) = h * 1152921504606846976 + l / 16 := by
  obtain ⟨H, rfl⟩ := Int.eq_ofNat_of_zero_le (show 0 ≤ h by omega)
  obtain ⟨L, rfl⟩ := Int.eq_ofNat_of_zero_le l0
  have e1 : (H : Int) * 1152921504606846976 = ((H * 1152921504606846976 : Nat) : Int) := by rw [Int.natCast_mul]; rfl
  have e2 : (L : Int) / 16 = ((L / 16 : Nat) : Int) := by rw [Int.natCast_ediv]; rfl
  rw [e1, e2, u64_or_nat _ _ (by omega) (by omega), nat_join 60 _ _ (by have : 2 ^ 60 = 1152921504606846976 := by decide
                                                                        rw [this]; omega) (by have : 2 ^ 60 = 1152921504606846976 := by decide
                                                                                              rw [this]; omega), Int.natCast_add]
theorem div_and (l : Int) (l0 : 0 ≤ l) : bits .and .u64 (IntKind.u64.wrap (l * 1152921504606846976)) 4294967295 = 0 := by
  rw [IntKind.wrap_u64, u64_and _ _ (by omega) (by omega) (by omega) (by omega)]
  have : ((4294967295 : Int).toNat) = 2 ^ 32 - 1 := by decide
  rw [this, Nat.and_two_pow_sub_one_eq_mod]
  have : (2 : Nat) ^ 32 = 4294967296 := by decide
  rw [this]; omega
theorem ret_two {k : IntKind} {a b c d : Int} (h1 : a = c) (h2 : b = d) : Ending.returned (.tuple #[.int k a, .int k b]) = .returned (.tuple #[.int k c, .int k d]) := by rw [h1, h2]
set_option maxHeartbeats 400000 in
theorem div_hi (h l : Int) (h0 : 1 ≤ h) (h1 : h ≤ 9) (l0 : 0 ≤ l) (l1 : l ≤ 18446744073709551615) (w : World) :
    Calls Try.prog 31 #[.int .u64 h, .int .u64 l, .int .u64 10] w fun e w' => e = .returned (.tuple #[.int .u64 ((h * 18446744073709551616 + l) / 10), .int .u64 ((h * 18446744073709551616 + l) % 10)]) ∧ Below w.heap.size w w' := by
  have e1 : bits .and .u64 11529215046068469760 4294967295 = 0 := by decide
  have e2 := div_or h l h0 h1 l0 l1
  have e3 := div_and l l0
  obtain ⟨U, eU⟩ : ∃ U, h * 1152921504606846976 + l / 16 = U := ⟨_, rfl⟩
  obtain ⟨V, eV⟩ : ∃ V, IntKind.u64.wrap (l * 1152921504606846976) = V := ⟨_, rfl⟩
  have eV' : V = l % 16 * 1152921504606846976 := by rw [← eV, IntKind.wrap_u64]; omega
  rw [eU] at e2
  rw [eV] at e3
  have u0 : 0 ≤ U := by omega
  have u1 : U ≤ 11529215046068469759 := by omega
  have v0 : 0 ≤ V := by omega
  have v1 : V ≤ 18446744073709551615 := by omega
  obtain ⟨X, eX⟩ : ∃ X, IntKind.u64.wrap (IntKind.u64.wrap (IntKind.u64.wrap (U * 4294967296) + V / 4294967296) - IntKind.u64.wrap (U / 2684354560 * 11529215046068469760)) = X := ⟨_, rfl⟩
  have eX' : X = U % 2684354560 * 4294967296 + l % 16 * 268435456 := by
    rw [← eX]; simp only [IntKind.wrap_u64]; omega
  have x0 : 0 ≤ X := by omega
  have x1 : X < 11529215046068469760 := by omega
  have d3 : decide (4294967296 ≤ X / 2684354560) = false := by simp; omega
  have EU := Lib.hid eU
  have EV := Lib.hid eV'
  have EX := Lib.hid eX'
  clear eU eV' eX'
  have d1 : decide (10 ≤ h) = false := by simp; omega
  have d2 : decide (4294967296 ≤ U / 2684354560) = false := by simp; omega
  go_enter Try.func31, Try.ntmps31
  go_wp2_with (go_at_call 33; refine (lz_10 _).mono ?_; rintro e w' ⟨rfl, rfl⟩)
  go_loop [15, 16] (fun q r => q = .int .u64 (U / 2684354560) ∧ r = .int .u64 (U - U / 2684354560 * 2684354560)) (fun _ _ => 0)
  case atStart => exact ⟨rfl, rfl⟩
  case round =>
    obtain ⟨rfl, rfl⟩ := hrel
    go_wp2
    go_loop [18, 16] (fun q r => q = .int .u64 (X / 2684354560) ∧ r = .int .u64 (X - X / 2684354560 * 2684354560)) (fun _ _ => 0)
    case atStart => exact ⟨rfl, rfl⟩
    case round =>
      obtain ⟨rfl, rfl⟩ := hrel
      go_wp2
      go_ret2
      have EU := EU.out
      have EX := EX.out
      refine ⟨ret_two ?_ ?_, Below.refl _ _⟩
      · clear e1 e2 e3 eV eX EV d1 d2 d3; omega
      · simp only [IntKind.wrap_u64]; clear e1 e2 e3 eV eX EV d1 d2 d3; omega
set_option maxHeartbeats 400000 in
theorem div_lo (l : Int) (l0 : 0 ≤ l) (l1 : l ≤ 18446744073709551615) (w : World) :
    Calls Try.prog 31 #[.int .u64 0, .int .u64 l, .int .u64 10] w fun e w' => e = .returned (.tuple #[.int .u64 (l / 10), .int .u64 (l % 10)]) ∧ Below w.heap.size w w' := by
  go_enter Try.func31, Try.ntmps31
  go_wp2
  go_region
  go_wp2
  go_ret2
  exact ⟨rfl, (Below.refl _ _).drew⟩
theorem div_any (h l : Int) (h0 : 0 ≤ h) (h1 : h ≤ 9) (l0 : 0 ≤ l) (l1 : l ≤ 18446744073709551615) (w : World) :
    Calls Try.prog 31 #[.int .u64 h, .int .u64 l, .int .u64 10] w fun e w' => e = .returned (.tuple #[.int .u64 ((h * 18446744073709551616 + l) / 10), .int .u64 ((h * 18446744073709551616 + l) % 10)]) ∧ Below w.heap.size w w' := by
  by_cases c : h = 0
  · subst c
    have := div_lo l l0 l1 w
    simpa using this
  · exact div_hi h l (by omega) h1 l0 l1 w
theorem split_hi (a : Nat) : hi a / 10 = hi (a / 10) := by unfold hi; omega
theorem split_lo (a : Nat) : (hi a % 10 * 18446744073709551616 + lo a) / 10 = lo (a / 10) := by unfold hi lo; omega
theorem split_digit (a : Nat) : (hi a % 10 * 18446744073709551616 + lo a) % 10 = (a : Int) % 10 := by unfold hi lo; omega
set_option maxHeartbeats 400000 in
theorem split_any (a : Nat) (ha : a < MM) (w : World) :
    Calls Try.prog 28 #[cn a] w fun e w' => e = .returned (.tuple #[cn (a / 10), .int .u64 ((a : Int) % 10)]) ∧ Below w.heap.size w w' := by
  have b0 := hi_nn a
  have b1 := hi_le a ha
  have b2 := lo_nn a
  have b3 := lo_le a
  go_enter Try.func28, Try.ntmps28
  go_wp2_with fail
  refine (div_any _ _ (by omega) (by omega) b2 b3 _).mono ?_
  rw [split_lo, split_digit]
  rintro e w1 ⟨rfl, hb1⟩
  obtain ⟨hc1, hf1⟩ := bcell hb1
  have e1 := split_hi a
  go_wp2_with fail
  refine bodyPost_ret (v := .tuple #[cn (a / 10), .int .u64 ((a : Int) % 10)]) (by simp [results, Try.results28, go_sem, hc1]) rfl ⟨rfl, ?_⟩
  exact (((((Below.refl _ _).alloc (Nat.le_refl _) _).alloc (by simp) _).trans (hb1.mono (by simp; omega))).setCell (by simp) _).setCell (by simp) _
end Go.Proofs.Yteinkjlnofmalaa
