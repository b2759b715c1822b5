/- FilterParts' call answers true. -/
import Derived.Test.YtlmeagnegakifaaDoorF9
import Derived.Test.YtlmeagnegakifaaDoorFM
namespace Go.Proofs.YtlmeagnegakifaaDoor
open Go.RowKit
set_option linter.unusedVariables false

theorem chk_ok {R1 R2 : Bool} {p : Int} {E1 E2 : Bool} (h1 : R1 = true) (h2 : R2 = true) (hp : p = -1 ∨ 0 ≤ p ∧ p ≤ 255) (e1 : E1 = false) (e2 : E2 = false) : chk R1 R2 p E1 E2 = 0 := by
  unfold chk
  rw [if_pos ⟨h1, h2⟩, if_pos hp, if_neg (by simp [e1, e2])]
theorem right0 : rightB 0 0 = true := by decide +kernel
theorem has0 {d : Nat} (hd : d < 4294967296) : hasB 0 0 d = true := by rw [hasB_iff 0 0 d (by decide)]; simp [sz]; omega
theorem in0 {x : Nat} (hx : x < 65536) : inR 0 65535 x = true := by unfold inR; simp; omega
theorem pr0 (q : Nat) : prB (-1) q = true := by rw [prB_iff]; exact Or.inl rfl
theorem pass0 {d s q x y : Nat} (hd : d < 4294967296) (hs : s < 4294967296) (hx : x < 65536) (hy : y < 65536) : passB 0 0 0 0 (-1) 0 65535 0 65535 d s q x y = true := by
  rw [pass_iff]; exact ⟨⟨⟨⟨has0 hd, has0 hs⟩, pr0 q⟩, in0 hx⟩, in0 hy⟩
/-- A right filter is checked as right, and meets the one of all. -/
theorem part_ok (a : Nat) (n : Int) (b : Nat) (m p : Int) (l h u v : Nat) (ha : a < 4294967296) (hb : b < 4294967296) (hl : l < 65536) (hu : u < 65536) (r1 : rightB a n = true) (r2 : rightB b m = true) (hp : p = -1 ∨ 0 ≤ p ∧ p ≤ 255) (h1 : l ≤ h) (h2 : u ≤ v) :
    (∀ w, Calls Tryd.prog 32 #[fv a n b m p l h u v] w fun e w' => e = .returned (.int .i64 0) ∧ Below w.heap.size w w') ∧
    (∀ w, Calls Tryd.prog 40 #[fv a n b m p l h u v, fv 0 0 0 0 (-1) 0 65535 0 65535] w fun e w' => e = .returned (.bool true) ∧ Below w.heap.size w w') := by
  refine ⟨fun w => ?_, fun w => ?_⟩
  · have c := fcheck_any a n b m p l h u v ha hb w
    rw [chk_ok r1 r2 hp (by simp; omega) (by simp; omega)] at c; exact c
  · have c := fmeet_any a n b m p l h u v 0 0 0 0 (-1) 0 65535 0 65535 ha hb (by omega) (by omega) w
    rw [meetF_of r1 r2 right0 right0 (pass_some r1 r2 hp h1 h2) (pass0 ha hb hl hu)] at c; exact c
theorem fparts_any (a : Nat) (n : Int) (b : Nat) (m p : Int) (l h u v d s q x y : Nat) (ha : a < 4294967296) (hb : b < 4294967296) (hl : l < 65536) (hu : u < 65536) (hd : d < 4294967296) (hs : s < 4294967296) (hq : q < 256) (hx : x < 65536) (hy : y < 65536) (w : World) (ht : Mxl w) :
    Calls Tryd.prog 10 #[fv a n b m p l h u v, hv d s q x y] w fun e w' => e = .returned (.bool true) ∧ Below w.heap.size w w' := by
  have k0 := fun (e : chk (rightB a n) (rightB b m) p (decide (h < l)) (decide (v < u)) = 0) => part_ok a n 0 0 (-1) 0 65535 0 65535 ha (by omega) (by omega) (by omega) (chk_right (R1 := rightB a n) (R2 := rightB b m) (p := p) (E1 := decide (h < l)) (E2 := decide (v < u)) e).1 right0 (Or.inl rfl) (by omega) (by omega)
  have k1 := fun (e : chk (rightB a n) (rightB b m) p (decide (h < l)) (decide (v < u)) = 0) => part_ok 0 0 b m (-1) 0 65535 0 65535 (by omega) hb (by omega) (by omega) right0 (chk_right (R1 := rightB a n) (R2 := rightB b m) (p := p) (E1 := decide (h < l)) (E2 := decide (v < u)) e).2.1 (Or.inl rfl) (by omega) (by omega)
  have k2 := fun (e : chk (rightB a n) (rightB b m) p (decide (h < l)) (decide (v < u)) = 0) => part_ok 0 0 0 0 p 0 65535 0 65535 (by omega) (by omega) (by omega) (by omega) right0 right0 (chk_right (R1 := rightB a n) (R2 := rightB b m) (p := p) (E1 := decide (h < l)) (E2 := decide (v < u)) e).2.2.1 (by omega) (by omega)
  have k3 := fun (e : chk (rightB a n) (rightB b m) p (decide (h < l)) (decide (v < u)) = 0) => part_ok 0 0 0 0 (-1) l h 0 65535 (by omega) (by omega) hl (by omega) right0 right0 (Or.inl rfl) (by have := of_decide_eq_false (chk_right (R1 := rightB a n) (R2 := rightB b m) (p := p) (E1 := decide (h < l)) (E2 := decide (v < u)) e).2.2.2.1; omega) (by omega)
  have k4 := fun (e : chk (rightB a n) (rightB b m) p (decide (h < l)) (decide (v < u)) = 0) => part_ok 0 0 0 0 (-1) 0 65535 u v (by omega) (by omega) (by omega) hu right0 right0 (Or.inl rfl) (by omega) (by have := of_decide_eq_false (chk_right (R1 := rightB a n) (R2 := rightB b m) (p := p) (E1 := decide (h < l)) (E2 := decide (v < u)) e).2.2.2.2; omega)
  refine fparts_core a n b m p l h u v d s q x y (chk (rightB a n) (rightB b m) p (decide (h < l)) (decide (v < u))) (passB a n 0 0 (-1) 0 65535 0 65535 d s q x y) (passB 0 0 b m (-1) 0 65535 0 65535 d s q x y) (passB 0 0 0 0 p 0 65535 0 65535 d s q x y) (passB 0 0 0 0 (-1) l h 0 65535 d s q x y) (passB 0 0 0 0 (-1) 0 65535 u v d s q x y) (passB a n b m p l h u v d s q x y)
    Mxl (fun _ _ h hb => h.on hb) (fun w => rfcheck_any a n b m p l h u v ha hb w) (fun w h => fawake_any w h) (fun w => fall_any w)
    (fun e w => (k0 e).1 w) (fun e w => (k0 e).2 w) (fun _ w => fmatch_all a n 0 0 (-1) 0 65535 0 65535 d s q x y hd hs hq w)
    (fun e w => (k1 e).1 w) (fun e w => (k1 e).2 w) (fun _ w => fmatch_all 0 0 b m (-1) 0 65535 0 65535 d s q x y hd hs hq w)
    (fun e w => (k2 e).1 w) (fun e w => (k2 e).2 w) (fun _ w => fmatch_all 0 0 0 0 p 0 65535 0 65535 d s q x y hd hs hq w)
    (fun e w => (k3 e).1 w) (fun e w => (k3 e).2 w) (fun _ w => fmatch_all 0 0 0 0 (-1) l h 0 65535 d s q x y hd hs hq w)
    (fun e w => (k4 e).1 w) (fun e w => (k4 e).2 w) (fun _ w => fmatch_all 0 0 0 0 (-1) 0 65535 u v d s q x y hd hs hq w)
    (fun _ w => fmatch_all a n b m p l h u v d s q x y hd hs hq w) (fun _ => ?_) w ht
  unfold passB
  rw [has0 hd, has0 hs, pr0, in0 hx, in0 hy]
  simp only [Bool.and_true, Bool.true_and]
end Go.Proofs.YtlmeagnegakifaaDoor
