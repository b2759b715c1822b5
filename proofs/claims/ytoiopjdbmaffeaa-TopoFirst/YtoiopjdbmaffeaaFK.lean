/- What filters are checked and matched for, at large. -/
import Derived.Test.YtoiopjdbmaffeaaF2
namespace Go.Proofs.Ytoiopjdbmaffeaa
open Go.RowKit
set_option linter.unusedVariables false

theorem inR_eq (l h x : Nat) : inR l h x = inR_i l h x := by
  unfold inR inR_i
  rw [← Bool.decide_and, decide_eq_decide]; omega
theorem inb_any (l h x : Nat) (w : World) : Calls Try.prog 19 #[rv l h, .int .u16 x] w fun e w' => e = .returned (.bool (inR l h x)) ∧ Below w.heap.size w w' :=
  (in_any l h x w).mono (by rintro e w' ⟨rfl, rfl⟩; exact ⟨rfl, cbelow_al (Below.refl _ _) _⟩)
theorem chk_right {R1 R2 : Bool} {p : Int} {E1 E2 : Bool} (h : chk R1 R2 p E1 E2 = 0) : R1 = true ∧ R2 = true ∧ (p = -1 ∨ 0 ≤ p ∧ p ≤ 255) ∧ E1 = false ∧ E2 = false := by
  unfold chk at h
  by_cases c1 : R1 = true ∧ R2 = true
  · rw [if_pos c1] at h
    by_cases c2 : p = -1 ∨ 0 ≤ p ∧ p ≤ 255
    · rw [if_pos c2] at h
      by_cases c3 : E1 = true ∨ E2 = true
      · rw [if_pos c3] at h; exact absurd h (by omega)
      · exact ⟨c1.1, c1.2, c2, by cases E1 <;> simp_all, by cases E2 <;> simp_all⟩
    · rw [if_neg c2] at h; exact absurd h (by omega)
  · rw [if_neg c1] at h; exact absurd h (by omega)
theorem right_nat {a : Nat} {n : Int} (h : rightB a n = true) : ∃ k : Nat, n = k ∧ k ≤ 32 ∧ a % sz k = 0 := by
  obtain ⟨n0, n1, n2⟩ := of_decide_eq_true h
  obtain ⟨k, rfl⟩ := Int.eq_ofNat_of_zero_le n0
  exact ⟨k, rfl, by omega, n2⟩
theorem fcheck_any (a : Nat) (n : Int) (b : Nat) (m p : Int) (l h u v : Nat) (ha : a < 4294967296) (hb : b < 4294967296) (w : World) :
    Calls Try.prog 21 #[fv a n b m p l h u v] w fun e w' => e = .returned (.int .i64 (chk (rightB a n) (rightB b m) p (decide (h < l)) (decide (v < u)))) ∧ Below w.heap.size w w' :=
  fcheck_core a n b m p l h u v _ _ _ _ (fun w => cright_any a n ha w) (fun w => cright_any b m hb w) (fun w => by have c := fempty_any l h w; rw [show decide ((h : Int) < l) = decide (h < l) by rw [decide_eq_decide]; omega] at c; exact c) (fun w => by have c := fempty_any u v w; rw [show decide ((v : Int) < u) = decide (v < u) by rw [decide_eq_decide]; omega] at c; exact c) _ rfl w
theorem rfcheck_any (a : Nat) (n : Int) (b : Nat) (m p : Int) (l h u v : Nat) (ha : a < 4294967296) (hb : b < 4294967296) (w : World) :
    Calls Try.prog 11 #[fv a n b m p l h u v] w fun e w' => e = .returned (.int .i64 (chk (rightB a n) (rightB b m) p (decide (h < l)) (decide (v < u)))) ∧ Below w.heap.size w w' := by
  refine rfcheck_core a n b m p l h u v _ _ (fun w => rright_any a n ha w) (fun w => rright_any b m hb w) _ ?_ w
  show _ = _
  rw [show decide ((h : Int) < l) = decide (h < l) by rw [decide_eq_decide]; omega, show decide ((v : Int) < u) = decide (v < u) by rw [decide_eq_decide]; omega]
/-- Whether a header passes. -/
def passB (a : Nat) (n : Int) (b : Nat) (m p : Int) (l h u v d s q x y : Nat) : Bool := hasB a n d && hasB b m s && prB p q && inR l h x && inR u v y
theorem fmatch_all (a : Nat) (n : Int) (b : Nat) (m p : Int) (l h u v d s q x y : Nat) (hd : d < 4294967296) (hs : s < 4294967296) (hq : q < 256) (w : World) :
    Calls Try.prog 13 #[fv a n b m p l h u v, hv d s q x y] w fun e w' => e = .returned (.bool (passB a n b m p l h u v d s q x y)) ∧ Below w.heap.size w w' :=
  fmatch_core a n b m p l h u v d s q x y (by omega) _ _ _ _ (fun w => has_any a n d hd w) (fun w => has_any b m s hs w) (fun w => inb_any l h x w) (fun w => inb_any u v y w) _ rfl w
end Go.Proofs.Ytoiopjdbmaffeaa
