/- Prefixes: what Compare answers; the document's Last. -/
import Derived.Test.YtijfohoaeacncaaDoorC2
namespace Go.Proofs.YtijfohoaeacncaaDoor
open Go.RowKit
set_option linter.unusedVariables false

def ccmpI (x y : Int) : Int := if x < y then -1 else if y < x then 1 else 0
set_option maxHeartbeats 400000 in
theorem cmp32_any (x y : Int) (w : World) : Calls Tryd.prog 55 #[.int .u32 x, .int .u32 y] w fun e w' => e = .returned (.int .i64 (ccmpI x y)) ∧ w = w' := by
  unfold ccmpI
  by_cases c1 : x < y
  · rw [if_pos c1]
    go_enter Tryd.func55, Tryd.ntmps55
    go_wp2
    go_ret
    exact ⟨rfl, rfl⟩
  · rw [if_neg c1]
    by_cases c2 : y < x
    · rw [if_pos c2]
      go_enter Tryd.func55, Tryd.ntmps55
      go_wp2
      go_ret
      exact ⟨rfl, rfl⟩
    · rw [if_neg c2]
      go_enter Tryd.func55, Tryd.ntmps55
      go_wp2
      go_ret
      exact ⟨rfl, rfl⟩
set_option maxHeartbeats 400000 in
theorem cmpi_any (x y : Int) (w : World) : Calls Tryd.prog 56 #[.int .i64 x, .int .i64 y] w fun e w' => e = .returned (.int .i64 (ccmpI x y)) ∧ w = w' := by
  unfold ccmpI
  by_cases c1 : x < y
  · rw [if_pos c1]
    go_enter Tryd.func56, Tryd.ntmps56
    go_wp2
    go_ret
    exact ⟨rfl, rfl⟩
  · rw [if_neg c1]
    by_cases c2 : y < x
    · rw [if_pos c2]
      go_enter Tryd.func56, Tryd.ntmps56
      go_wp2
      go_ret
      exact ⟨rfl, rfl⟩
    · rw [if_neg c2]
      go_enter Tryd.func56, Tryd.ntmps56
      go_wp2
      go_ret
      exact ⟨rfl, rfl⟩
/-- By addresses, then by bits. -/
def pcmp (a : Nat) (n : Int) (b : Nat) (m : Int) : Int := if (a : Int) = (b : Int) then ccmpI n m else ccmpI a b
set_option maxHeartbeats 400000 in
theorem ccomp_any (a : Nat) (n : Int) (b : Nat) (m : Int) (w : World) :
    Calls Tryd.prog 36 #[pv a n, pv b m] w fun e w' => e = .returned (.int .i64 (pcmp a n b m)) ∧ Below w.heap.size w w' := by
  unfold pcmp
  by_cases c : a = b
  · subst c
    rw [if_pos rfl]
    have HC := Lib.hid (cmpi_any n m)
    generalize ccmpI n m = t at HC ⊢
    go_enter Tryd.func36, Tryd.ntmps36
    go_wp2_with fail
    refine (HC.out _).mono ?_
    rintro e w' ⟨rfl, rfl⟩
    go_wp2
    go_ret
    exact ⟨rfl, cbelow_al (cbelow_al (Below.refl _ _) _) _⟩
  · rw [if_neg (by omega)]
    have HC := Lib.hid (cmp32_any a b)
    generalize ccmpI (a : Int) (b : Int) = t at HC ⊢
    have c1 : ((a : Int) != (b : Int)) = true := by simp; omega
    have c2 : (a != b) = true := by simp; omega
    go_enter Tryd.func36, Tryd.ntmps36
    go_wp2_with fail
    refine (HC.out _).mono ?_
    rintro e w' ⟨rfl, rfl⟩
    go_wp2
    go_ret
    exact ⟨rfl, cbelow_al (cbelow_al (Below.refl _ _) _) _⟩
set_option maxHeartbeats 1000000 in
theorem rlast_any (a k : Nat) (hk : k ≤ 32) (ha : a + (sz k - 1) < 4294967296) (w : World) :
    Calls Tryd.prog 33 #[pv a k] w fun e w' => e = .returned (.int .u32 (a + (sz k - 1) : Nat)) ∧ Below w.heap.size w w' := by
  have hS := rsize_any k hk
  have hp := sz_pos k
  have hl := sz_le k
  generalize sz k = s at *
  go_enter Tryd.func33, Tryd.ntmps33
  go_wp2_with fail
  go_quiet ((go_at_call 52; exact Calls.quiet_of_same (hS _)))
  go_wp2_with fail
  go_ret
  refine ⟨cret_int ?_, below_drewN (cbelow_al (Below.refl _ _) _) _⟩
  first | omega | (simp only [IntKind.wrap_u64, IntKind.wrap_u32]; omega)
end Go.Proofs.YtijfohoaeacncaaDoor
