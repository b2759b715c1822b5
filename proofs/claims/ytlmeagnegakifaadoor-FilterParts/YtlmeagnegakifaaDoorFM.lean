/- FilterMeets' call answers true: plain facts of filters that meet. -/
import Derived.Test.YtlmeagnegakifaaDoorF6
import Derived.Test.YtlmeagnegakifaaDoorH6
namespace Go.Proofs.YtlmeagnegakifaaDoor
open Go.RowKit
set_option linter.unusedVariables false

/-- Which of two headers is less, by their words. -/
def hcmp (d s q x y d' s' q' x' y' : Nat) : Int := if (pa d s : Int) = (pa d' s' : Int) then cmpI (pb q x y) (pb q' x' y') else cmpI (pa d s) (pa d' s')
theorem comp_hdr (d s q x y d' s' q' x' y' : Nat) (h : HB d s q x y) (h' : HB d' s' q' x' y') (w : World) :
    Calls Tryd.prog 39 #[hv d s q x y, hv d' s' q' x' y'] w fun e w' => e = .returned (.int .i64 (hcmp d s q x y d' s' q' x' y')) ∧ Below w.heap.size w w' :=
  comp_core _ _ _ _ _ _ _ _ _ _ (pa d s) (pb q x y) (pa d' s') (pb q' x' y') (fun w => pack_exact d s q x y h w) (fun w => pack_exact d' s' q' x' y' h' w) w
theorem hcmp_le (d s q x y d' s' q' x' y' : Nat) (h0 : d' ≤ d) (h1 : s' ≤ s) (h2 : q' ≤ q) (h3 : x' ≤ x) (h4 : y' ≤ y) : ¬ hcmp d s q x y d' s' q' x' y' < 0 := by
  have e1 : pa d' s' ≤ pa d s := by unfold pa; omega
  have e2 : pb q' x' y' ≤ pb q x y := by unfold pb; omega
  unfold hcmp cmpI
  repeat' split
  all_goals omega
theorem sz_up' (j k : Nat) (h : j ≤ k) (hk : k ≤ 32) : sz j = sz k * 2 ^ (k - j) := by
  unfold sz
  rw [← Nat.pow_add]; congr 1; omega
theorem has_iff {a : Nat} {n : Int} {x : Nat} (h : rightB a n = true) : hasB a n x = true ↔ x / sz n.toNat = a / sz n.toNat := by
  rw [hasB_iff a n x h, decide_eq_true_iff]
theorem has_le {a : Nat} {n : Int} {x : Nat} (h : hasB a n x = true) : a ≤ x := by
  obtain ⟨h1, -⟩ := of_decide_eq_true h
  have := cut_le x (inB n)
  omega
theorem has_own {a : Nat} {n : Int} (h : rightB a n = true) : hasB a n a = true := by rw [has_self]; exact h
theorem within_of {a : Nat} {n : Int} {b : Nat} {m : Int} {x : Nat} (ha : rightB a n = true) (hb : rightB b m = true) (h1 : hasB a n x = true) (h2 : hasB b m x = true) (hn : m ≤ n) : withinB a n b m = true := by
  unfold withinB
  rw [decide_eq_true hn, Bool.true_and, has_iff hb]
  rw [has_iff ha] at h1
  rw [has_iff hb] at h2
  obtain ⟨k, rfl, hk, -⟩ := right_nat ha
  obtain ⟨j, rfl, hj, -⟩ := right_nat hb
  rw [Int.toNat_natCast] at *
  have e := sz_up' j k (by omega) hk
  rw [← h2, e, ← Nat.div_div_eq_div_mul, ← Nat.div_div_eq_div_mul, h1]
theorem meet_of {a : Nat} {n : Int} {b : Nat} {m : Int} {x : Nat} (ha : rightB a n = true) (hb : rightB b m = true) (h1 : hasB a n x = true) (h2 : hasB b m x = true) : meetB a n b m = true := by
  unfold meetB
  rcases (show m ≤ n ∨ n ≤ m by omega) with h | h
  · rw [within_of ha hb h1 h2 h]; rfl
  · rw [within_of hb ha h2 h1 h, Bool.or_true]
theorem meet_max {a : Nat} {n : Int} {b : Nat} {m : Int} (ha : rightB a n = true) (hb : rightB b m = true) (h : meetB a n b m = true) : hasB a n (max a b) = true ∧ hasB b m (max a b) = true := by
  unfold meetB withinB at h
  rw [Bool.or_eq_true, Bool.and_eq_true, Bool.and_eq_true] at h
  rcases h with ⟨-, h⟩ | ⟨-, h⟩
  · have := has_le h
    rw [show max a b = a by omega]
    exact ⟨has_own ha, h⟩
  · have := has_le h
    rw [show max a b = b by omega]
    exact ⟨h, has_own hb⟩
theorem meet_comm (a : Nat) (n : Int) (b : Nat) (m : Int) : meetB a n b m = meetB b m a n := Bool.or_comm _ _
theorem mr_comm (l h u v : Nat) : mrB l h u v = mrB u v l h := by unfold mrB; rw [Nat.max_comm, Bool.and_comm]
theorem prM_comm (p q : Int) : prM p q = prM q p := by
  unfold prM
  rw [Bool.or_comm (decide (p = -1)), show decide (p = q) = decide (q = p) by rw [decide_eq_decide]; exact ⟨Eq.symm, Eq.symm⟩]
theorem inR_iff {l h x : Nat} : inR l h x = true ↔ l ≤ x ∧ x ≤ h := by unfold inR; rw [decide_eq_true_iff]
theorem mr_of {l h u v x : Nat} (h1 : inR l h x = true) (h2 : inR u v x = true) : mrB l h u v = true := by
  rw [inR_iff] at h1 h2
  unfold mrB
  rw [Bool.and_eq_true, inR_iff, inR_iff]
  omega
theorem prB_iff {p : Int} {q : Nat} : prB p q = true ↔ p = -1 ∨ p = q := by unfold prB; simp
theorem prM_iff {p q : Int} : prM p q = true ↔ (p = -1 ∨ q = -1) ∨ p = q := by unfold prM; simp
theorem pass_iff {a : Nat} {n : Int} {b : Nat} {m p : Int} {l h u v d s q x y : Nat} : passB a n b m p l h u v d s q x y = true ↔ (((hasB a n d = true ∧ hasB b m s = true) ∧ prB p q = true) ∧ inR l h x = true) ∧ inR u v y = true := by
  unfold passB; simp only [Bool.and_eq_true]
theorem meetF_iff {a : Nat} {n : Int} {b : Nat} {m p : Int} {l h u v a' : Nat} {n' : Int} {b' : Nat} {m' p' : Int} {l' h' u' v' : Nat} : meetF a n b m p l h u v a' n' b' m' p' l' h' u' v' = true ↔ (((meetB a n a' n' = true ∧ meetB b m b' m' = true) ∧ prM p p' = true) ∧ mrB l h l' h' = true) ∧ mrB u v u' v' = true := by
  unfold meetF; simp only [Bool.and_eq_true]
theorem meetF_of {a : Nat} {n : Int} {b : Nat} {m p : Int} {l h u v a' : Nat} {n' : Int} {b' : Nat} {m' p' : Int} {l' h' u' v' d s q x y : Nat} (r1 : rightB a n = true) (r2 : rightB b m = true) (r3 : rightB a' n' = true) (r4 : rightB b' m' = true)
    (h1 : passB a n b m p l h u v d s q x y = true) (h2 : passB a' n' b' m' p' l' h' u' v' d s q x y = true) : meetF a n b m p l h u v a' n' b' m' p' l' h' u' v' = true := by
  rw [pass_iff] at h1 h2
  obtain ⟨⟨⟨⟨i1, i2⟩, i3⟩, i4⟩, i5⟩ := h1
  obtain ⟨⟨⟨⟨j1, j2⟩, j3⟩, j4⟩, j5⟩ := h2
  rw [meetF_iff]
  refine ⟨⟨⟨⟨meet_of r1 r3 i1 j1, meet_of r2 r4 i2 j2⟩, ?_⟩, mr_of i4 j4⟩, mr_of i5 j5⟩
  rw [prB_iff] at i3 j3
  rw [prM_iff]
  omega
/-- The least protocol, as a number. -/
def pqN (p : Int) : Nat := (pq p).toNat
theorem pq_nat {p : Int} (h : p = -1 ∨ 0 ≤ p ∧ p ≤ 255) : pq p = (pqN p : Int) ∧ pqN p < 256 := by
  unfold pqN pq
  split <;> omega
theorem pass_some {a : Nat} {n : Int} {b : Nat} {m p : Int} {l h u v : Nat} (r1 : rightB a n = true) (r2 : rightB b m = true) (hp : p = -1 ∨ 0 ≤ p ∧ p ≤ 255) (hl : l ≤ h) (hu : u ≤ v) : passB a n b m p l h u v a b (pqN p) l u = true := by
  rw [pass_iff]
  refine ⟨⟨⟨⟨has_own r1, has_own r2⟩, ?_⟩, inR_iff.2 (by omega)⟩, inR_iff.2 (by omega)⟩
  rw [prB_iff]; unfold pqN pq
  split <;> omega
theorem fmeets_any (a : Nat) (n : Int) (b : Nat) (m p : Int) (l h u v a' : Nat) (n' : Int) (b' : Nat) (m' p' : Int) (l' h' u' v' d s q x y : Nat) (ha : a < 4294967296) (hb : b < 4294967296) (ha' : a' < 4294967296) (hb' : b' < 4294967296)
    (hl : l < 65536) (hu : u < 65536) (hl' : l' < 65536) (hu' : u' < 65536) (hd : d < 4294967296) (hs : s < 4294967296) (hq : q < 256) (hx : x < 65536) (hy : y < 65536) (w : World) (ht : Mxl w) :
    Calls Tryd.prog 8 #[fv a n b m p l h u v, fv a' n' b' m' p' l' h' u' v', hv d s q x y] w fun e w' => e = .returned (.bool true) ∧ Below w.heap.size w w' := by
  refine fmeets_core a n b m p l h u v a' n' b' m' p' l' h' u' v' d s q x y a b (pqN p) l u a' b' (pqN p') l' u' (max a a' : Nat) (max b b' : Nat) (max (pqN p) (pqN p') : Nat) (max l l' : Nat) (max u u' : Nat) _ _ (hcmp d s q x y a b (pqN p) l u)
    (passB a n b m p l h u v d s q x y) (passB a' n' b' m' p' l' h' u' v' d s q x y) (meetF a n b m p l h u v a' n' b' m' p' l' h' u' v') Mxl (fun _ _ h hb => h.on hb) (fun w => rfcheck_any a n b m p l h u v ha hb w) (fun w => rfcheck_any a' n' b' m' p' l' h' u' v' ha' hb' w) (fun w h => fawake_any w h)
    (by omega) (by omega) (by omega) (by omega) (by omega) (fun e1 e2 => ?_) w ht
  obtain ⟨r1, r2, hp, q1, q2⟩ := chk_right e1
  obtain ⟨r3, r4, hp', q3, q4⟩ := chk_right e2
  have q1 := of_decide_eq_false q1
  have q2 := of_decide_eq_false q2
  have q3 := of_decide_eq_false q3
  have q4 := of_decide_eq_false q4
  obtain ⟨ep, lp⟩ := pq_nat hp
  obtain ⟨ep', lp'⟩ := pq_nat hp'
  have S1 := pass_some (h := h) (v := v) r1 r2 hp (by omega) (by omega) (l := l) (u := u)
  refine ⟨fun w => ?_, fun w => ?_, fun w => ?_, fun w => rfmatch_all a n b m p l h u v d s q x y r1 r2 ha hb hd hs hq w, fun w => rfmatch_all a' n' b' m' p' l' h' u' v' d s q x y r3 r4 ha' hb' hd hs hq w,
    fun w => comp_hdr d s q x y a b (pqN p) l u ⟨by omega, by omega, by omega, by omega, by omega⟩ ⟨by omega, by omega, by omega, by omega, by omega⟩ w, fun e => ?_, fun w => fmeet_any a n b m p l h u v a' n' b' m' p' l' h' u' v' ha hb ha' hb' w, fun w => ?_, fun w => ?_, fun i j => meetF_of r1 r2 r3 r4 i j, fun e w => ?_, fun e => ⟨fun w => ?_, fun w => ?_⟩⟩
  · have c := fsome_any a n b m p l h u v hp w
    rw [ep] at c; exact c
  · have c := fsome_any a' n' b' m' p' l' h' u' v' hp' w
    rw [ep'] at c; exact c
  · have c := rfmatch_all a n b m p l h u v a b (pqN p) l u r1 r2 ha hb ha hb lp w
    rw [S1] at c; exact c
  · rw [pass_iff] at e
    obtain ⟨⟨⟨⟨i1, i2⟩, i3⟩, i4⟩, i5⟩ := e
    rw [inR_iff] at i4 i5
    refine hcmp_le _ _ _ _ _ _ _ _ _ _ (has_le i1) (has_le i2) ?_ (by omega) (by omega)
    rw [prB_iff] at i3
    unfold pqN pq
    split <;> omega
  · have c := fmeet_any a' n' b' m' p' l' h' u' v' a n b m p l h u v ha' hb' ha hb w
    rw [show meetF a' n' b' m' p' l' h' u' v' a n b m p l h u v = meetF a n b m p l h u v a' n' b' m' p' l' h' u' v' by
      unfold meetF; rw [meet_comm a' n', meet_comm b' m', prM_comm p', mr_comm l', mr_comm u']] at c
    exact c
  · have c := fmeet_any a n b m p l h u v a n b m p l h u v ha hb ha hb w
    rw [meetF_of r1 r2 r1 r2 S1 S1] at c; exact c
  · have c := rfmatch_all a' n' b' m' p' l' h' u' v' a b (pqN p) l u r3 r4 ha' hb' ha hb lp w
    rw [show passB a' n' b' m' p' l' h' u' v' a b (pqN p) l u = false by
      cases k : passB a' n' b' m' p' l' h' u' v' a b (pqN p) l u with
      | false => rfl
      | true => rw [meetF_of r1 r2 r3 r4 S1 k] at e; cases e] at c
    exact c
  all_goals
    rw [meetF_iff] at e
    obtain ⟨⟨⟨⟨i1, i2⟩, i3⟩, i4⟩, i5⟩ := e
    have k1 := meet_max r1 r3 i1
    have k2 := meet_max r2 r4 i2
    unfold mrB at i4 i5
    rw [Bool.and_eq_true] at i4 i5
    rw [prM_iff] at i3
  · have c := rfmatch_all a n b m p l h u v (max a a') (max b b') (max (pqN p) (pqN p')) (max l l') (max u u') r1 r2 ha hb (by omega) (by omega) (by omega) w
    rw [show passB a n b m p l h u v (max a a') (max b b') (max (pqN p) (pqN p')) (max l l') (max u u') = true by
      rw [pass_iff]
      refine ⟨⟨⟨⟨k1.1, k2.1⟩, ?_⟩, i4.1⟩, i5.1⟩
      rw [prB_iff]; unfold pqN pq
      repeat' split
      all_goals omega] at c
    exact c
  · have c := rfmatch_all a' n' b' m' p' l' h' u' v' (max a a') (max b b') (max (pqN p) (pqN p')) (max l l') (max u u') r3 r4 ha' hb' (by omega) (by omega) (by omega) w
    rw [show passB a' n' b' m' p' l' h' u' v' (max a a') (max b b') (max (pqN p) (pqN p')) (max l l') (max u u') = true by
      rw [pass_iff]
      refine ⟨⟨⟨⟨k1.2, k2.2⟩, ?_⟩, i4.2⟩, i5.2⟩
      rw [prB_iff]; unfold pqN pq
      repeat' split
      all_goals omega] at c
    exact c
end Go.Proofs.YtlmeagnegakifaaDoor
