/- A tree's small calls: bit, with, empty, check. -/
import Derived.Test.YtgcbngephokegaaK4
import Derived.Test.YtgcbngephokegaaC1
import Derived.Test.YtgcbngephokegaaAt
import Derived.RegionTactic
import Derived.ChangeAlike
import Derived.BigRegion
namespace Go.Proofs.Ytgcbngephokegaa
open Go.RowKit
set_option linter.unusedVariables false
set_option linter.unusedSimpArgs false

def bI (b : Bool) : Int := if b then 1 else 0
theorem shr_bit (a k : Nat) : a / 2 ^ k % 2 = if a.testBit k then 1 else 0 := by
  rw [Nat.testBit_eq_decide_div_mod_eq]
  rcases Nat.mod_two_eq_zero_or_one (a / 2 ^ k) with h | h <;> simp [h]
theorem and_one (a k : Nat) (ha : a < 4294967296) : wrap64 (bits .and .u32 ((a : Int) / 2 ^ k) 1) = bI (a.testBit k) := by
  have e : ((a : Int) / 2 ^ k) = ((a / 2 ^ k : Nat) : Int) := by rw [Int.natCast_ediv, Int.natCast_pow]; rfl
  have hl : a / 2 ^ k < 4294967296 := Nat.lt_of_le_of_lt (Nat.div_le_self _ _) ha
  rw [e, show (1 : Int) = ((1 : Nat) : Int) from rfl, bits_and_u32 _ _ hl (by decide), Nat.and_one_is_mod, shr_bit]
  cases a.testBit k <;> (simp [bI, wrap64])
set_option maxRecDepth 100000 in
theorem bit_any (a : Nat) (ha : a < 4294967296) (i : Nat) (hi : i < 32) (w : World) : Calls Try.prog 43 #[.int .u32 (a : Nat), .int .i64 (i : Nat)] w fun e w' => e = .returned (.int .i64 (bI (a.testBit (31 - i)))) ∧ w = w' := by
  have h1 : IntKind.i64.wrap (31 - (i : Int)) = ((31 - i : Nat) : Int) := by rw [IntKind.wrap_i64]; omega
  have h2 := Lib.hid (and_one a (31 - i) ha)
  go_enter Try.func43, Try.ntmps43
  go_wp2
  go_ret
  exact ⟨cret_int h2.out, rfl⟩
set_option maxRecDepth 100000 in
set_option maxHeartbeats 1000000 in
theorem with_any (q : Pth) (hq : q.length < 32) (x : Bool) (w : World) : Calls Try.prog 70 #[pv (ad q : Nat) (q.length : Nat), .int .i64 (bI x)] w fun e w' => e = .returned (pv (ad (q ++ [x]) : Nat) ((q ++ [x]).length : Nat)) ∧ Below w.heap.size w w' := by
  have h1 : IntKind.i64.wrap (31 - (q.length : Int)) = ((31 - q.length : Nat) : Int) := by rw [IntKind.wrap_i64]; omega
  have h2 : IntKind.i64.wrap ((q.length : Int) + 1) = ((q.length + 1 : Nat) : Int) := by rw [IntKind.wrap_i64]; omega
  rw [List.length_append, List.length_singleton]
  go_enter Try.func70, Try.ntmps70
  cases x
  · have h3 := Lib.hid (show bits .or .u32 (ad q : Nat) 0 = (ad (q ++ [false]) : Nat) by
      rw [show (0 : Int) = ((0 : Nat) : Int) from rfl, bits_or_u32 _ _ (ad_lt q (by omega)) (by decide), ← ad_or q hq]; rfl)
    simp only [bI, Bool.false_eq_true, if_false]
    go_wp2
    go_region
    all_goals go_wp2
    all_goals (refine bodyPost_ret (v := pv (bits .or .u32 (ad q : Nat) 0) ((q.length : Int) + 1)) (by simp [results, Try.results70, go_sem]) rfl ⟨by rw [h3.out]; rfl, Below.drew (bel_al (bel_al (Below.refl _ _) _) _)⟩)
  · have hp : (2 : Nat) ^ (31 - q.length) < 4294967296 := by
      have := Nat.pow_le_pow_right (n := 2) (by decide) (show 31 - q.length ≤ 31 by omega)
      have : (2 : Nat) ^ 31 = 2147483648 := by decide
      omega
    have h4 : IntKind.u32.wrap (2 ^ (31 - q.length) : Int) = ((2 ^ (31 - q.length) : Nat) : Int) := by
      rw [show (2 ^ (31 - q.length) : Int) = ((2 ^ (31 - q.length) : Nat) : Int) from (Int.natCast_pow 2 _).symm, IntKind.wrap_u32]; generalize 2 ^ (31 - q.length) = m at hp; omega
    have h3 := Lib.hid (show bits .or .u32 (ad q : Nat) (2 ^ (31 - q.length) : Int) = (ad (q ++ [true]) : Nat) by
      rw [show (2 ^ (31 - q.length) : Int) = ((2 ^ (31 - q.length) : Nat) : Int) from (Int.natCast_pow 2 _).symm, bits_or_u32 _ _ (ad_lt q (by omega)) hp, ← ad_or q hq]; rfl)
    simp only [bI, if_true]
    go_wp2
    go_region
    all_goals go_wp2
    all_goals (refine bodyPost_ret (v := pv (bits .or .u32 (ad q : Nat) (2 ^ (31 - q.length))) ((q.length : Int) + 1)) (by simp [results, Try.results70, go_sem]) rfl ⟨by rw [h3.out]; rfl, Below.drew (bel_al (bel_al (Below.refl _ _) _) _)⟩)
/-- check: of a tree that there is. -/
theorem check_any (a : Nat) (n : Int) (ha : a < 4294967296) (p : Addr) (w : World) : Calls Try.prog 41 #[.pointer (some p), pv a n] w fun e w' => e = .returned (.int .i64 (if rightB a n then 0 else 13)) ∧ Below w.heap.size w w' := by
  have hR := Lib.hid (cright_any a n ha)
  generalize rightB a n = t at hR ⊢
  go_enter Try.func41, Try.ntmps41
  go_wp2_with fail
  refine (hR.out _).mono ?_
  rintro e w' ⟨rfl, hb⟩
  have B1 := Lib.hid (bel_on' (bel_al (Below.refl w.heap.size w) _) hb)
  clear hb hR
  cases t
  · go_wp2
    go_ret
    exact ⟨rfl, B1.out⟩
  · go_wp2
    go_ret
    exact ⟨rfl, B1.out⟩
theorem check_nil (a n : Int) (w : World) : Calls Try.prog 41 #[.pointer none, pv a n] w fun e w' => e = .returned (.int .i64 2) ∧ Below w.heap.size w w' := by
  go_enter Try.func41, Try.ntmps41
  go_wp2
  go_ret
  exact ⟨rfl, bel_al (Below.refl _ _) _⟩
end Go.Proofs.Ytgcbngephokegaa
