/- Prefixes: what inside, mask, Of, Has, Right answer. -/
import Derived.Test.YtgcbngephokegaaRows
import Derived.Test.YtgcbngephokegaaCM
import Derived.WalkKit
import Derived.WalkSpells
import Derived.WalkLawsBesides
import Derived.Laws.Externs
import Derived.Deep.RegionHeld3
import Derived.Deep.DeepCutAuto
import Derived.Deep.CutBlock
import Derived.BigQuiet
import Derived.Deep.QuietTactic
namespace Go.Proofs.Ytgcbngephokegaa
open Go.RowKit
set_option linter.unusedVariables false

/-- A prefix as a value. -/
abbrev pv (a n : Int) : Value := .agg #[.int .u32 a, .int .i64 n]
theorem cbelow_al {W w : World} (h : Below W.heap.size W w) (o : Obj) : Below W.heap.size W (w.alloc o) := h.alloc h.size o
theorem cbelow_on {W w w' : World} (h : Below W.heap.size W w) (k : Below w.heap.size w w') : Below W.heap.size W w' := h.trans (k.mono h.size)
theorem cret_bool {a b : Bool} (h : a = b) : Ending.returned (.bool a) = .returned (.bool b) := by rw [h]
theorem cret_int {k : IntKind} {a b : Int} (h : a = b) : Ending.returned (.int k a) = .returned (.int k b) := by rw [h]
theorem below_drewN {B : Nat} {W w : World} (h : Below B W w) (n : Nat) : Below B W (w.drewN n) := ⟨h.os, h.tape, h.output, h.size, h.block⟩
/-- What was there is there. -/
theorem ckeep {W w : World} (h : Below W.heap.size W w) : Below W.heap.size W w ∧ ∀ b o, (W.cell? ⟨b, o, none⟩).isSome = true → w.cell? ⟨b, o, none⟩ = W.cell? ⟨b, o, none⟩ :=
  ⟨h, fun b o hc => h.cell (p := ⟨b, o, none⟩) (by
    rcases Nat.lt_or_ge b W.heap.size with h1 | h1
    · exact h1
    · simp [World.cell?, Array.getElem?_eq_none h1] at hc)⟩
set_option maxHeartbeats 400000 in
theorem inside_any (n : Int) (w : World) : Calls Try.prog 66 #[.int .i64 n] w fun e w' => e = .returned (.int .i64 (inB n)) ∧ w = w' := by
  by_cases h0 : n < 0
  · have e : inB n = 0 := by unfold inB; rw [if_pos h0]
    rw [e]
    go_enter Try.func66, Try.ntmps66
    go_wp2
    go_ret
    exact ⟨rfl, rfl⟩
  · by_cases h1 : 32 < n
    · have e : inB n = 32 := by unfold inB; rw [if_neg h0, if_pos h1]
      rw [e]
      go_enter Try.func66, Try.ntmps66
      go_wp2
      go_ret
      exact ⟨rfl, rfl⟩
    · obtain ⟨k, rfl⟩ := Int.eq_ofNat_of_zero_le (show 0 ≤ n by omega)
      have e : inB k = k := by unfold inB; rw [if_neg h0, if_neg h1]; rfl
      rw [e]
      clear e
      go_enter Try.func66, Try.ntmps66
      go_wp2
      go_ret
      exact ⟨rfl, rfl⟩
set_option maxHeartbeats 400000 in
theorem cmask_any (n : Int) (w : World) : Calls Try.prog 65 #[.int .i64 n] w fun e w' => e = .returned (.int .u32 (mk (inB n))) ∧ w = w' := by
  have h := shl_mk (inB n) (inB_le n)
  have hl := inB_le n
  obtain ⟨k, hk⟩ : ∃ k, inB n = k := ⟨_, rfl⟩
  have hI := inside_any n
  rw [hk] at h hl ⊢
  simp only [hk] at hI
  go_enter Try.func65, Try.ntmps65
  go_wp2_with fail
  refine (hI _).mono ?_
  rintro e w' ⟨rfl, rfl⟩
  clear hI hk
  go_wp2
  go_ret
  exact ⟨rfl, rfl⟩
set_option maxHeartbeats 400000 in
theorem of_any (a : Nat) (ha : a < 4294967296) (n : Int) (w : World) :
    Calls Try.prog 47 #[.int .u32 a, .int .i64 n] w fun e w' => e = .returned (pv (cutA a (inB n)) (inB n)) ∧ w.alloc (.cells #[.int .u32 (cutA a (inB n)), .int .i64 (inB n)] 25) = w' := by
  have h := bits_and_u32 a (mk (inB n)) ha (mk_lt _)
  rw [and_mk a _ ha (inB_le n)] at h
  have hI := inside_any n
  have hM := cmask_any n
  generalize cutA a (inB n) = c at h ⊢
  generalize inB n = k at h hI hM ⊢
  go_enter Try.func47, Try.ntmps47
  go_wp2_with fail
  refine (hM _).mono ?_
  rintro e w' ⟨rfl, rfl⟩
  go_wp2_with fail
  refine (hI _).mono ?_
  rintro e w' ⟨rfl, rfl⟩
  clear hI hM
  go_wp2
  exact bodyPost_ret (v := pv c k) (by simp [results, Try.results47, go_sem]) rfl ⟨rfl, rfl⟩
set_option maxHeartbeats 1000000 in
theorem has_core (a n x c k : Int) (T : Bool) (hT : Hid ((c == a && k == n) = T)) (hO : ∀ w, Calls Try.prog 47 #[.int .u32 x, .int .i64 n] w fun e w' => e = .returned (pv c k) ∧ w.alloc (.cells #[.int .u32 c, .int .i64 k] 25) = w') (w : World) :
    Calls Try.prog 71 #[pv a n, .int .u32 x] w fun e w' => e = .returned (.bool T) ∧ Below w.heap.size w w' := by
  obtain ⟨W0, hW0⟩ : ∃ W0, (w.alloc (Obj.cells #[.int .u32 a, .int .i64 n] 25)) = W0 := ⟨_, rfl⟩
  have z1 : W0.cell? ⟨w.heap.size, 0, none⟩ = some (.int .u32 a) := by rw [← hW0]; simp [go_sem]
  have z2 : W0.cell? ⟨w.heap.size, 1, none⟩ = some (.int .i64 n) := by rw [← hW0]; simp [go_sem]
  have hB0 : Below w.heap.size w W0 := by rw [← hW0]; exact cbelow_al (Below.refl _ _) _
  have HO := Lib.hid hO
  clear hO
  go_enter Try.func71, Try.ntmps71
  go_upto_region 1 with fail
  clear hW0
  have hc : (c == a) = true ∨ (c == a) = false := by cases (c == a) <;> simp
  have hk : (k == n) = true ∨ (k == n) = false := by cases (k == n) <;> simp
  rcases hc with hc | hc <;> rcases hk with hk | hk
  all_goals
    have HC := Lib.hid hc
    have HK := Lib.hid hk
    go_region_held3 (fun w' => Below W0.heap.size W0 w' ∧ ∀ b o, (W0.cell? ⟨b, o, none⟩).isSome = true → w'.cell? ⟨b, o, none⟩ = W0.cell? ⟨b, o, none⟩)
      ((refine ckeep ?_; repeat (first | exact Below.refl _ _ | assumption | refine Below.drew ?_ | refine cbelow_al ?_ _ | (refine Below.setCell ?_ (by simp; omega) _))))
      (first | (go_at_call 47; (with_reducible refine (HO.out _).mono ?_); rintro e w' ⟨rfl, rfl⟩))
    all_goals (rename_i hH; have HB := Lib.hid hH.1; clear hH; go_wp2_with fail; go_ret; exact ⟨cret_bool (by rw [← hT.out, HC.out, HK.out]; rfl), cbelow_on hB0 HB.out⟩)
theorem has_any (a : Nat) (n : Int) (x : Nat) (hx : x < 4294967296) (w : World) :
    Calls Try.prog 71 #[pv a n, .int .u32 x] w fun e w' => e = .returned (.bool (hasB a n x)) ∧ Below w.heap.size w w' := by
  refine has_core a n x (cutA x (inB n)) (inB n) _ ?_ (fun w => of_any x hx n w) w
  show _ = _
  unfold hasB
  rw [Bool.eq_iff_iff]
  simp
  omega
set_option maxHeartbeats 400000 in
theorem cright_any (a : Nat) (n : Int) (ha : a < 4294967296) (w : World) :
    Calls Try.prog 53 #[pv a n] w fun e w' => e = .returned (.bool (rightB a n)) ∧ Below w.heap.size w w' := by
  have hH := has_any a n a ha
  rw [has_self] at hH
  have HH := Lib.hid hH
  clear hH
  go_enter Try.func53, Try.ntmps53
  go_wp2_with fail
  refine (HH.out _).mono ?_
  rintro e w' ⟨rfl, hb⟩
  go_wp2
  go_ret
  exact ⟨rfl, cbelow_on (cbelow_al (Below.refl _ _) _) hb⟩
end Go.Proofs.Ytgcbngephokegaa
