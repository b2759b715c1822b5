/- The walk of WideDigits: whatever count is handed in, it answers true, and turns nothing that was there. -/
import Derived.Test.YteinkjlnofmalaaW13
import Derived.Test.YteinkjlnofmalaaW10
namespace Go.Proofs.Yteinkjlnofmalaa
open Go.RowKit
set_option linter.unusedVariables false

set_option maxRecDepth 100000 in
set_option maxHeartbeats 4000000 in
theorem digits_core (A1 A2 : Int) (D : ByteArray)
    (HPr : Hid (∀ w, Calls Try.prog 21 #[cv A1 A2] w fun e w' => e = .returned (.string D) ∧ Below w.heap.size w w'))
    (HPa : Hid (∀ w, Calls Try.prog 22 #[.string D] w fun e w' => e = .returned (.tuple #[cv A1 A2, .int .i64 0]) ∧ Below w.heap.size w w'))
    (HRp : Hid (∀ w, Calls Try.prog 23 #[cv A1 A2] w fun e w' => e = .returned (.string D) ∧ Below w.heap.size w w')) (w : World) :
    Calls Try.prog 4 #[cv A1 A2] w fun e w' => e = .returned (.bool true) ∧ Below w.heap.size w w' := by
  go_enter Try.func4, Try.ntmps4
  go_wp2_with fail
  refine (to_any _ _ _).mono ?_
  rintro e w1 ⟨rfl, hb1⟩
  have T1 := Lib.hid ((@two_new w A1 A2 24).on hb1)
  have B1 := Lib.hid (below_on (below_al (Below.refl w.heap.size w) _) hb1)
  clear hb1
  go_wp2_with fail
  refine (HPr.out _).mono ?_
  rintro e w2 ⟨rfl, hb2⟩
  have T2 := Lib.hid (T1.out.on hb2)
  have B2 := Lib.hid (below_on B1.out hb2)
  clear hb2 T1 B1
  go_wp2_with fail
  refine (HPa.out _).mono ?_
  rintro e w3 ⟨rfl, hb3⟩
  have U1 := Lib.hid ((T2.out.on hb3).al (.cells #[.int .u64 A1, .int .u64 A2] 25))
  have U4 := Lib.hid (@two_new w3 A1 A2 25)
  have B3 := Lib.hid (below_al (below_on B2.out hb3) (.cells #[.int .u64 A1, .int .u64 A2] 25))
  obtain ⟨g4, hg4⟩ : ∃ g4, w3.heap.size = g4 := ⟨_, rfl⟩
  obtain ⟨wq, hwq⟩ : ∃ wq, w3.alloc (.cells #[.int .u64 A1, .int .u64 A2] 25) = wq := ⟨_, rfl⟩
  rw [hwq] at U1 U4 B3
  rw [hg4] at U4
  clear hb3 T2 B2
  obtain ⟨a0, a1, -, -⟩ := U1.out
  obtain ⟨b0, b1, -, -⟩ := U4.out
  go_wp2_with fail
  clear hwq hg4
  refine wp_region_noPanic ?_
  refine wp_region_along (S := fun w' => Below wq.heap.size wq w' ∧ ∀ b o, (wq.cell? ⟨b, o, none⟩).isSome = true → w'.cell? ⟨b, o, none⟩ = wq.cell? ⟨b, o, none⟩) ([(0, false), (1, true), (2, true), (3, true), (4, false), (5, true), (6, true), (7, true), (8, true), (9, true), (10, true), (11, true), (12, true), (13, true), (14, false), (15, true)] ++ ([(16, true), (17, true)])) (by kernel_rfl) (by as_aux_lemma => kernel_rfl) (by kernel_rfl) (by kernel_rfl) (alongPre_append _ _ _ (by as_aux_lemma => kernel_rfl) (by as_aux_lemma => kernel_rfl)) (by as_aux_lemma => kernel_rfl) (fun _ _ _ _ _ h => h) (below_kb (Below.refl _ _).drew) (fun hH => ?_)
  simp only [List.cons_append, List.nil_append, stepsOf, pickOp]
  refine along_bar (fun K hK => ?_)
  go_simp
  refine (awake_any _).mono ?_
  rintro e w' ⟨rfl, hbx⟩
  try go_wp2_with fail
  refine hK.out _ _ (below_kb (below_on hH.1 hbx)) (fun hH' => ?_)
  clear hK K hH
  have hH := hH'
  clear hH'
  clear hbx
  try simp only [Act.put, List.setIfInBounds_toArray, List.set_cons_zero, List.set_cons_succ]
  refine along_pure ?_ (by rfl) (fun w hSw => ?_) ?_
  rotate_left
  · (try dsimp only at hSw); go_simp; try with_reducible rfl
  try simp only [Act.put, List.setIfInBounds_toArray, List.set_cons_zero, List.set_cons_succ]
  refine along_pure ?_ (by rfl) (fun w hSw => ?_) ?_
  rotate_left
  · (try dsimp only at hSw); go_simp; try with_reducible rfl
  try simp only [Act.put, List.setIfInBounds_toArray, List.set_cons_zero, List.set_cons_succ]
  refine along_pure ?_ (by rfl) (fun w hSw => ?_) ?_
  rotate_left
  · (try dsimp only at hSw); go_simp; try with_reducible rfl
  try simp only [Act.put, List.setIfInBounds_toArray, List.set_cons_zero, List.set_cons_succ]
  refine along_bar (fun K hK => ?_)
  go_simp
  refine (HRp.out _).mono ?_
  rintro e w' ⟨rfl, hbx⟩
  try go_wp2_with fail
  refine hK.out _ _ (below_kb (below_on hH.1 hbx)) (fun hH' => ?_)
  clear hK K hH
  have hH := hH'
  clear hH'
  clear hbx
  try simp only [Act.put, List.setIfInBounds_toArray, List.set_cons_zero, List.set_cons_succ]
  refine along_pure ?_ (by rfl) (fun w hSw => ?_) ?_
  rotate_left
  · (try dsimp only at hSw); go_simp; try with_reducible rfl
  try simp only [Act.put, List.setIfInBounds_toArray, List.set_cons_zero, List.set_cons_succ]
  refine along_pure ?_ (by rfl) (fun w hSw => ?_) ?_
  rotate_left
  · (try dsimp only at hSw); go_simp; try with_reducible rfl
  try simp only [Act.put, List.setIfInBounds_toArray, List.set_cons_zero, List.set_cons_succ]
  refine along_pure ?_ (by rfl) (fun w hSw => ?_) ?_
  rotate_left
  · (try dsimp only at hSw); go_simp; try with_reducible rfl
  try simp only [Act.put, List.setIfInBounds_toArray, List.set_cons_zero, List.set_cons_succ]
  refine along_pure ?_ (by rfl) (fun w hSw => ?_) ?_
  rotate_left
  · (try dsimp only at hSw); go_simp; try with_reducible rfl
  try simp only [Act.put, List.setIfInBounds_toArray, List.set_cons_zero, List.set_cons_succ]
  refine along_pure ?_ (by rfl) (fun w hSw => ?_) ?_
  rotate_left
  · (try dsimp only at hSw); go_simp; try with_reducible rfl
  try simp only [Act.put, List.setIfInBounds_toArray, List.set_cons_zero, List.set_cons_succ]
  refine along_pure ?_ (by rfl) (fun w hSw => ?_) ?_
  rotate_left
  · (try dsimp only at hSw); go_simp; try with_reducible rfl
  try simp only [Act.put, List.setIfInBounds_toArray, List.set_cons_zero, List.set_cons_succ]
  refine along_pure ?_ (by rfl) (fun w hSw => ?_) ?_
  rotate_left
  · (try dsimp only at hSw); go_simp; try with_reducible rfl
  try simp only [Act.put, List.setIfInBounds_toArray, List.set_cons_zero, List.set_cons_succ]
  refine along_pure ?_ (by rfl) (fun w hSw => ?_) ?_
  rotate_left
  · (try dsimp only at hSw); go_simp; try with_reducible rfl
  try simp only [Act.put, List.setIfInBounds_toArray, List.set_cons_zero, List.set_cons_succ]
  refine along_pure ?_ (by rfl) (fun w hSw => ?_) ?_
  rotate_left
  · (try dsimp only at hSw); go_simp; try with_reducible rfl
  try simp only [Act.put, List.setIfInBounds_toArray, List.set_cons_zero, List.set_cons_succ]
  refine along_bar (fun K hK => ?_)
  go_simp
  refine (to_any _ _ _).mono ?_
  rintro e w' ⟨rfl, hbx⟩
  try go_wp2_with fail
  refine hK.out _ _ (below_kb (below_on hH.1 hbx)) (fun hH' => ?_)
  clear hK K hH
  have hH := hH'
  clear hH'
  clear hbx
  try simp only [Act.put, List.setIfInBounds_toArray, List.set_cons_zero, List.set_cons_succ]
  refine along_pure ?_ (by rfl) (fun w hSw => ?_) ?_
  rotate_left
  · (try dsimp only at hSw); go_simp; try with_reducible rfl
  try simp only [Act.put, List.setIfInBounds_toArray, List.set_cons_zero, List.set_cons_succ]
  refine along_pure ?_ (by rfl) (fun w hSw => ?_) ?_
  rotate_left
  · (try dsimp only at hSw); go_simp; try with_reducible rfl
  try simp only [Act.put, List.setIfInBounds_toArray, List.set_cons_zero, List.set_cons_succ]
  refine along_pure ?_ (by rfl) (fun w hSw => ?_) ?_
  rotate_left
  · (try dsimp only at hSw); go_simp; try with_reducible rfl
  try simp only [Act.put, List.setIfInBounds_toArray, List.set_cons_zero, List.set_cons_succ]
  refine along_end (NoPanic.normal ?_)
  have HB := Lib.hid hH.1
  clear hH
  go_wp2_with fail
  go_ret
  exact ⟨ret_bool (by simp), below_on B3.out HB.out⟩
theorem digits_any (a : Nat) (ha : a < MM) (w : World) :
    Calls Try.prog 4 #[cn a] w fun e w' => e = .returned (.bool true) ∧ Below w.heap.size w w' :=
  digits_core _ _ _ (fun w => print_any a ha w) (fun w => parse_dig a ha w) (fun w => rprint_any a ha w) w
end Go.Proofs.Yteinkjlnofmalaa
