/- CidrPrefixes' call answers true for any prefixes, address and number. -/
import Derived.Test.YtijfohoaeacncaaDoorC9
namespace Go.Proofs.YtijfohoaeacncaaDoor
open Go.RowKit
set_option linter.unusedVariables false

theorem cut_lt (a k : Nat) (ha : a < 4294967296) : cutA a k < 4294967296 := Nat.lt_of_le_of_lt (cut_le a k) ha
theorem cut_mod (a k : Nat) : cutA a k % sz k = 0 := by unfold cutA; exact Nat.mul_mod_left _ _
theorem cut_div (a k : Nat) : cutA a k / sz k = a / sz k := by unfold cutA; exact Nat.mul_div_cancel _ (sz_pos k)
theorem right_cut (a : Nat) (n : Int) : rightB (cutA a (inB n)) (inB n) = true := decide_eq_true ⟨by omega, by have := inB_le n; omega, by rw [Int.toNat_natCast]; exact cut_mod a _⟩
theorem rightK {a : Nat} {n : Int} (h : rightB a n = true) : ∃ k : Nat, n = (k : Int) ∧ k ≤ 32 ∧ a % sz k = 0 := by
  obtain ⟨h0, h1, h2⟩ := of_decide_eq_true h
  exact ⟨n.toNat, by omega, by omega, h2⟩
theorem rhas_right (a : Nat) (n : Int) (x : Nat) (h : rightB a n = true) (ha : a < 4294967296) (hx : x < 4294967296) (w : World) :
    Calls Tryd.prog 29 #[pv a n, .int .u32 x] w fun e w' => e = .returned (.bool (hasB a n x)) ∧ Below w.heap.size w w' := by
  obtain ⟨k, rfl, hk, -⟩ := rightK h
  rw [hasB_iff a k x h, Int.toNat_natCast]
  exact rhas_any a k x hk ha hx w
theorem prefixes_any (pa : Nat) (pn : Int) (qa : Nat) (qn : Int) (x : Nat) (n : Int) (hp : pa < 4294967296) (hq : qa < 4294967296) (hx : x < 4294967296) (w : World) (ht : DbTab w) :
    Calls Tryd.prog 8 #[pv pa pn, pv qa qn, .int .u32 x, .int .i64 n] w fun e w' => e = .returned (.bool true) ∧ Below w.heap.size w w' := by
  refine prefixes_core pa pn qa qn x n (cutA x (inB n)) (inB n) (pa + (sz (inB pn) - 1) : Nat) (pcmp pa pn qa qn) (rightB pa pn) (rightB qa qn) (hasB pa pn x) (withinB pa pn qa qn) (withinB qa qn pa pn) (hasB qa qn pa) (hasB pa pn qa)
    (fun w => cright_any pa pn hp w) (fun w => rright_any pa pn hp w) (fun w => rright_any qa qn hq w) (fun w => of_any x hx n w)
    (fun w => by have h := rright_any (cutA x (inB n)) (inB n) (cut_lt x _ hx) w; rw [right_cut] at h; exact h)
    (fun w => by have h := rhas_any (cutA x (inB n)) (inB n) x (inB_le n) (cut_lt x _ hx) hx w; rw [cut_div, decide_eq_true rfl] at h; exact h)
    ?_ ?_ w ht
  · refine ⟨fun h => ?_, fun h => ?_, fun h => ?_⟩
    · unfold inB; rw [if_pos h]; rfl
    · rw [inB_of n h.1 h.2]; omega
    · unfold inB; rw [if_neg (by omega), if_pos h]; rfl
  · intro hr hs
    obtain ⟨k, rfl, hk, hm⟩ := rightK hr
    obtain ⟨j, rfl, hj, hm2⟩ := rightK hs
    have ek : inB (k : Int) = k := by rw [inB_of _ (by omega) (by omega)]; rfl
    refine ⟨⟨fun w => rhas_right qa j pa hs hq hp w, fun h => ?_, fun h => ?_⟩, ⟨fun w => rhas_right pa k qa hr hp hq w, fun h => ?_, fun h => ?_⟩, fun w => has_any pa k x hx w, fun w => rhas_right pa k x hr hp hx w, fun w => ?_, fun w => ?_,
      fun w => within_any pa k qa j hp w, fun w => meet_any pa k qa j hp hq w, fun w => ccomp_any pa k qa j w, fun h => ?_, fun h h2 => ?_, fun h h2 => ?_, fun h h2 => ?_, fun h => ?_⟩
    · unfold withinB; rw [decide_eq_true h, Bool.true_and]
    · unfold withinB; rw [decide_eq_false h, Bool.false_and]
    · unfold withinB; rw [decide_eq_true h, Bool.true_and]
    · unfold withinB; rw [decide_eq_false h, Bool.false_and]
    · have h := last_any pa k hp w
      rw [ek, or_last pa k hm] at h
      rw [ek]; exact h
    · rw [ek]; exact rlast_any pa k hk (right_lt pa k hp hk hm) w
    · unfold pcmp ccmpI; rw [if_neg (by omega), if_pos h]
    · unfold pcmp ccmpI; rw [if_pos h, if_pos h2]
    · unfold pcmp ccmpI; rw [if_pos h, if_neg (by omega), if_neg (by omega)]
    · unfold pcmp ccmpI; rw [if_pos h, if_neg (by omega), if_pos h2]
    · unfold pcmp ccmpI; rw [if_neg (by omega), if_neg (by omega), if_pos h]
end Go.Proofs.YtijfohoaeacncaaDoor
