/- The walk of WideTurns: whatever three counts are handed in, it answers true, and turns nothing that was there. -/
import Derived.Test.YteinkjlnofmalaaW5
import Derived.Test.YteinkjlnofmalaaAlong
namespace Go.Proofs.Yteinkjlnofmalaa
open Go.RowKit
set_option linter.unusedVariables false
set_option maxRecDepth 100000 in
set_option maxHeartbeats 40000000 in
theorem turns_core (A1 A2 B1 B2 C1 C2 D1 D2 F1 F2 G1 G2 U1 U2 R1 R2 T1 T2 q q2 : Int)
    (HC1 : Hid (∀ w, Calls Try.prog 11 #[cv A1 A2, cv B1 B2] w fun e w' => e = .returned (cv D1 D2) ∧ Below w.heap.size w w'))
    (HC2 : Hid (∀ w, Calls Try.prog 11 #[cv B1 B2, cv A1 A2] w fun e w' => e = .returned (cv D1 D2) ∧ Below w.heap.size w w'))
    (HC3 : Hid (∀ w, Calls Try.prog 11 #[cv D1 D2, cv C1 C2] w fun e w' => e = .returned (cv F1 F2) ∧ Below w.heap.size w w'))
    (HC4 : Hid (∀ w, Calls Try.prog 11 #[cv B1 B2, cv C1 C2] w fun e w' => e = .returned (cv G1 G2) ∧ Below w.heap.size w w'))
    (HC5 : Hid (∀ w, Calls Try.prog 11 #[cv A1 A2, cv G1 G2] w fun e w' => e = .returned (cv F1 F2) ∧ Below w.heap.size w w'))
    (HC6 : Hid (∀ w, Calls Try.prog 13 #[cv D1 D2, cv B1 B2] w fun e w' => e = .returned (cv A1 A2) ∧ Below w.heap.size w w'))
    (HC7 : Hid (∀ w, Calls Try.prog 11 #[cv A1 A2, cv A1 A2] w fun e w' => e = .returned (cv U1 U2) ∧ Below w.heap.size w w'))
    (HC8 : Hid (∀ w, Calls Try.prog 15 #[cv A1 A2, .int .i64 1] w fun e w' => e = .returned (cv U1 U2) ∧ Below w.heap.size w w'))
    (HC9 : Hid (∀ w, Calls Try.prog 15 #[cv A1 A2, .int .i64 3] w fun e w' => e = .returned (cv R1 R2) ∧ Below w.heap.size w w'))
    (HC10 : Hid (∀ w, Calls Try.prog 15 #[cv R1 R2, .int .i64 4] w fun e w' => e = .returned (cv T1 T2) ∧ Below w.heap.size w w'))
    (HC11 : Hid (∀ w, Calls Try.prog 15 #[cv A1 A2, .int .i64 7] w fun e w' => e = .returned (cv T1 T2) ∧ Below w.heap.size w w'))
    (HC12 : Hid (∀ w, Calls Try.prog 18 #[cv A1 A2, cv B1 B2] w fun e w' => e = .returned (.int .i64 q) ∧ Below w.heap.size w w'))
    (HC13 : Hid (∀ w, Calls Try.prog 18 #[cv B1 B2, cv A1 A2] w fun e w' => e = .returned (.int .i64 q2) ∧ Below w.heap.size w w'))
    (KQ : Hid (-q2 = q)) (KB : Hid (-1 ≤ q ∧ q ≤ 1)) (w : World) :
    Calls Try.prog 6 #[cv A1 A2, cv B1 B2, cv C1 C2] w fun e w' => e = .returned (.bool true) ∧ Below w.heap.size w w' := by
  obtain ⟨W0, hW0⟩ : ∃ W0, ((w.alloc (Obj.cells #[.int .u64 A1, .int .u64 A2] 24)).alloc (Obj.cells #[.int .u64 B1, .int .u64 B2] 24)).alloc (Obj.cells #[.int .u64 C1, .int .u64 C2] 24) = W0 := ⟨_, rfl⟩
  have z1 : W0.cell? ⟨w.heap.size, 0, none⟩ = some (.int .u64 A1) := by rw [← hW0]; simp [go_sem]
  have z2 : W0.cell? ⟨w.heap.size, 1, none⟩ = some (.int .u64 A2) := by rw [← hW0]; simp [go_sem]
  have z3 : W0.cell? ⟨w.heap.size + 1, 0, none⟩ = some (.int .u64 B1) := by rw [← hW0]; simp [go_sem]
  have z4 : W0.cell? ⟨w.heap.size + 1, 1, none⟩ = some (.int .u64 B2) := by rw [← hW0]; simp [go_sem]
  have z5 : W0.cell? ⟨w.heap.size + 1 + 1, 0, none⟩ = some (.int .u64 C1) := by rw [← hW0]; simp [go_sem]
  have z6 : W0.cell? ⟨w.heap.size + 1 + 1, 1, none⟩ = some (.int .u64 C2) := by rw [← hW0]; simp [go_sem]
  have hB0 : Below w.heap.size w W0 := by rw [← hW0]; exact below_al (below_al (below_al (Below.refl _ _) _) _) _
  go_enter Try.func6, Try.ntmps6
  go_upto_region 1 with fail
  clear hW0
  go_cut [7, 8, 9] (fun x y z wx => ∃ g7 g8 g9 : Nat, x = .pointer (some ⟨g7, 0, none⟩) ∧ y = .pointer (some ⟨g8, 0, none⟩) ∧ z = .pointer (some ⟨g9, 0, none⟩) ∧ Below W0.heap.size W0 wx ∧ Two wx g7 A1 A2 ∧ Two wx g8 B1 B2 ∧ Two wx g9 C1 C2)
  case first =>
   as_aux_lemma =>
    clear HC1 HC2 HC3 HC4 HC5 HC6 HC7 HC8 HC9 HC10 HC11 HC12 HC13 KQ KB hB0
    go_region_held3 (fun w' => Below W0.heap.size W0 w' ∧ ∀ b o, (W0.cell? ⟨b, o, none⟩).isSome = true → w'.cell? ⟨b, o, none⟩ = W0.cell? ⟨b, o, none⟩)
      ((refine below_kb ?_; repeat (first | exact Below.refl _ _ | assumption | refine Below.drew ?_ | refine below_al ?_ _ | (refine Below.setCell ?_ (by simp; omega) _))))
      (first | (go_at_call 8; refine (to_exact _ _ _).mono ?_; rintro e w' ⟨rfl, rfl⟩))
    all_goals (rename_i hH; have HB := Lib.hid hH.1; clear hH; go_wp2_with fail; go_meet; as_aux_lemma => exact ⟨_, _, _, rfl, rfl, rfl, HB.out, ⟨by simp [go_sem], by simp [go_sem], by simp [go_sem], by simp [go_sem]⟩, ⟨by simp [go_sem], by simp [go_sem], by simp [go_sem], by simp [go_sem]⟩, ⟨by simp [go_sem], by simp [go_sem], by simp [go_sem], by simp [go_sem]⟩⟩)
  case rest =>
   as_aux_lemma =>
    obtain ⟨g7, g8, g9, rfl, rfl, rfl, hbx0, ⟨p0, p1, -, -⟩, ⟨q0, q1, -, -⟩, ⟨r0, r1, -, -⟩⟩ := hcut
    clear z1 z2 z3 z4 z5 z6
    go_wp2_with fail
    refine wp_region_noPanic ?_
    refine wp_region_along (S := fun w' => Below wc.heap.size wc w' ∧ ∀ b o, (wc.cell? ⟨b, o, none⟩).isSome = true → w'.cell? ⟨b, o, none⟩ = wc.cell? ⟨b, o, none⟩) ([(0, false), (1, true), (2, true), (3, true), (5, true), (6, true), (4, false), (7, false), (8, true), (9, true), (10, true), (11, true), (12, true), (14, true), (16, true), (17, true)] ++ ([(18, true), (13, false), (15, false), (19, false), (20, false), (21, true), (22, true), (23, true), (24, true), (25, true), (27, true), (29, true), (26, false), (28, false), (30, true), (31, true)] ++ ([(32, true), (33, true), (34, true), (36, true), (35, false), (37, false), (38, true), (39, true), (40, true), (41, true), (44, true), (42, false), (43, false), (45, false), (46, true), (47, true)] ++ ([(48, true), (49, true), (50, true), (52, true), (53, true), (51, false), (54, false), (55, true), (56, true), (57, true), (58, true)])))) (by kernel_rfl) (by as_aux_lemma => kernel_rfl) (by kernel_rfl) (by kernel_rfl) (alongPre_append _ _ _ (by as_aux_lemma => kernel_rfl) (alongPre_append _ _ _ (by as_aux_lemma => kernel_rfl) (alongPre_append _ _ _ (by as_aux_lemma => kernel_rfl) (by as_aux_lemma => kernel_rfl)))) (by as_aux_lemma => kernel_rfl) (fun _ _ _ _ _ h => h) (below_kb (Below.refl _ _).drew) (fun hH => ?_)
    simp only [List.cons_append, List.nil_append, stepsOf, pickOp]
    refine along_bar (fun K hK => ?_)
    go_simp
    refine (awake_any _).mono ?_
    rintro e w' ⟨rfl, hbx⟩
    try go_wp2_with fail
    refine hK.out _ _ (below_kb (below_on hH.1 hbx)) (fun hH' => ?_)
    clear hK K hH hbx
    have hH := hH'
    clear hH'
    try simp only [Act.put, List.setIfInBounds_toArray, List.set_cons_zero, List.set_cons_succ]
    refine along_pure ?_ (by rfl) (fun w hSw => ?_) ?_
    rotate_left
    · (try dsimp only at hSw); go_simp; try with_reducible rfl
    try simp only [Act.put, List.setIfInBounds_toArray, List.set_cons_zero, List.set_cons_succ]
    refine along_pure ?_ (by rfl) (fun w hSw => ?_) ?_
    rotate_left
    · (try dsimp only at hSw); go_simp; try with_reducible rfl
    try simp only [Act.put, List.setIfInBounds_toArray, List.set_cons_zero, List.set_cons_succ]
    refine along_pure ?_ (by rfl) (fun w hSw => ?_) ?_
    rotate_left
    · (try dsimp only at hSw); go_simp; try with_reducible rfl
    try simp only [Act.put, List.setIfInBounds_toArray, List.set_cons_zero, List.set_cons_succ]
    refine along_pure ?_ (by rfl) (fun w hSw => ?_) ?_
    rotate_left
    · (try dsimp only at hSw); go_simp; try with_reducible rfl
    try simp only [Act.put, List.setIfInBounds_toArray, List.set_cons_zero, List.set_cons_succ]
    refine along_pure ?_ (by rfl) (fun w hSw => ?_) ?_
    rotate_left
    · (try dsimp only at hSw); go_simp; try with_reducible rfl
    try simp only [Act.put, List.setIfInBounds_toArray, List.set_cons_zero, List.set_cons_succ]
    refine along_bar (fun K hK => ?_)
    go_simp
    refine (HC1.out _).mono ?_
    rintro e w' ⟨rfl, hbx⟩
    try go_wp2_with fail
    refine hK.out _ _ (below_kb (below_on hH.1 hbx)) (fun hH' => ?_)
    clear hK K hH hbx
    have hH := hH'
    clear hH'
    try simp only [Act.put, List.setIfInBounds_toArray, List.set_cons_zero, List.set_cons_succ]
    refine along_bar (fun K hK => ?_)
    go_simp
    refine (HC2.out _).mono ?_
    rintro e w' ⟨rfl, hbx⟩
    try go_wp2_with fail
    refine hK.out _ _ (below_kb (below_on hH.1 hbx)) (fun hH' => ?_)
    clear hK K hH hbx
    have hH := hH'
    clear hH'
    try simp only [Act.put, List.setIfInBounds_toArray, List.set_cons_zero, List.set_cons_succ]
    refine along_pure ?_ (by rfl) (fun w hSw => ?_) ?_
    rotate_left
    · (try dsimp only at hSw); go_simp; try with_reducible rfl
    try simp only [Act.put, List.setIfInBounds_toArray, List.set_cons_zero, List.set_cons_succ]
    refine along_pure ?_ (by rfl) (fun w hSw => ?_) ?_
    rotate_left
    · (try dsimp only at hSw); go_simp; try with_reducible rfl
    try simp only [Act.put, List.setIfInBounds_toArray, List.set_cons_zero, List.set_cons_succ]
    refine along_pure ?_ (by rfl) (fun w hSw => ?_) ?_
    rotate_left
    · (try dsimp only at hSw); go_simp; try with_reducible rfl
    try simp only [Act.put, List.setIfInBounds_toArray, List.set_cons_zero, List.set_cons_succ]
    refine along_pure ?_ (by rfl) (fun w hSw => ?_) ?_
    rotate_left
    · (try dsimp only at hSw); go_simp; try with_reducible rfl
    try simp only [Act.put, List.setIfInBounds_toArray, List.set_cons_zero, List.set_cons_succ]
    refine along_pure ?_ (by rfl) (fun w hSw => ?_) ?_
    rotate_left
    · (try dsimp only at hSw); go_simp; try with_reducible rfl
    try simp only [Act.put, List.setIfInBounds_toArray, List.set_cons_zero, List.set_cons_succ]
    refine along_pure ?_ (by rfl) (fun w hSw => ?_) ?_
    rotate_left
    · (try dsimp only at hSw); go_simp; try with_reducible rfl
    try simp only [Act.put, List.setIfInBounds_toArray, List.set_cons_zero, List.set_cons_succ]
    refine along_pure ?_ (by rfl) (fun w hSw => ?_) ?_
    rotate_left
    · (try dsimp only at hSw); go_simp; try with_reducible rfl
    try simp only [Act.put, List.setIfInBounds_toArray, List.set_cons_zero, List.set_cons_succ]
    refine along_pure ?_ (by rfl) (fun w hSw => ?_) ?_
    rotate_left
    · (try dsimp only at hSw); go_simp; try with_reducible rfl
    try simp only [Act.put, List.setIfInBounds_toArray, List.set_cons_zero, List.set_cons_succ]
    refine along_pure ?_ (by rfl) (fun w hSw => ?_) ?_
    rotate_left
    · (try dsimp only at hSw); go_simp; try with_reducible rfl
    try simp only [Act.put, List.setIfInBounds_toArray, List.set_cons_zero, List.set_cons_succ]
    refine along_bar (fun K hK => ?_)
    go_simp
    refine (HC1.out _).mono ?_
    rintro e w' ⟨rfl, hbx⟩
    try go_wp2_with fail
    refine hK.out _ _ (below_kb (below_on hH.1 hbx)) (fun hH' => ?_)
    clear hK K hH hbx
    have hH := hH'
    clear hH'
    try simp only [Act.put, List.setIfInBounds_toArray, List.set_cons_zero, List.set_cons_succ]
    refine along_bar (fun K hK => ?_)
    go_simp
    refine (HC3.out _).mono ?_
    rintro e w' ⟨rfl, hbx⟩
    try go_wp2_with fail
    refine hK.out _ _ (below_kb (below_on hH.1 hbx)) (fun hH' => ?_)
    clear hK K hH hbx
    have hH := hH'
    clear hH'
    try simp only [Act.put, List.setIfInBounds_toArray, List.set_cons_zero, List.set_cons_succ]
    refine along_bar (fun K hK => ?_)
    go_simp
    refine (HC4.out _).mono ?_
    rintro e w' ⟨rfl, hbx⟩
    try go_wp2_with fail
    refine hK.out _ _ (below_kb (below_on hH.1 hbx)) (fun hH' => ?_)
    clear hK K hH hbx
    have hH := hH'
    clear hH'
    try simp only [Act.put, List.setIfInBounds_toArray, List.set_cons_zero, List.set_cons_succ]
    refine along_bar (fun K hK => ?_)
    go_simp
    refine (HC5.out _).mono ?_
    rintro e w' ⟨rfl, hbx⟩
    try go_wp2_with fail
    refine hK.out _ _ (below_kb (below_on hH.1 hbx)) (fun hH' => ?_)
    clear hK K hH hbx
    have hH := hH'
    clear hH'
    try simp only [Act.put, List.setIfInBounds_toArray, List.set_cons_zero, List.set_cons_succ]
    refine along_pure ?_ (by rfl) (fun w hSw => ?_) ?_
    rotate_left
    · (try dsimp only at hSw); go_simp; try with_reducible rfl
    try simp only [Act.put, List.setIfInBounds_toArray, List.set_cons_zero, List.set_cons_succ]
    refine along_pure ?_ (by rfl) (fun w hSw => ?_) ?_
    rotate_left
    · (try dsimp only at hSw); go_simp; try with_reducible rfl
    try simp only [Act.put, List.setIfInBounds_toArray, List.set_cons_zero, List.set_cons_succ]
    refine along_pure ?_ (by rfl) (fun w hSw => ?_) ?_
    rotate_left
    · (try dsimp only at hSw); go_simp; try with_reducible rfl
    try simp only [Act.put, List.setIfInBounds_toArray, List.set_cons_zero, List.set_cons_succ]
    refine along_pure ?_ (by rfl) (fun w hSw => ?_) ?_
    rotate_left
    · (try dsimp only at hSw); go_simp; try with_reducible rfl
    try simp only [Act.put, List.setIfInBounds_toArray, List.set_cons_zero, List.set_cons_succ]
    refine along_pure ?_ (by rfl) (fun w hSw => ?_) ?_
    rotate_left
    · (try dsimp only at hSw); go_simp; try with_reducible rfl
    try simp only [Act.put, List.setIfInBounds_toArray, List.set_cons_zero, List.set_cons_succ]
    refine along_pure ?_ (by rfl) (fun w hSw => ?_) ?_
    rotate_left
    · (try dsimp only at hSw); go_simp; try with_reducible rfl
    try simp only [Act.put, List.setIfInBounds_toArray, List.set_cons_zero, List.set_cons_succ]
    refine along_pure ?_ (by rfl) (fun w hSw => ?_) ?_
    rotate_left
    · (try dsimp only at hSw); go_simp; try with_reducible rfl
    try simp only [Act.put, List.setIfInBounds_toArray, List.set_cons_zero, List.set_cons_succ]
    refine along_bar (fun K hK => ?_)
    go_simp
    refine (HC1.out _).mono ?_
    rintro e w' ⟨rfl, hbx⟩
    try go_wp2_with fail
    refine hK.out _ _ (below_kb (below_on hH.1 hbx)) (fun hH' => ?_)
    clear hK K hH hbx
    have hH := hH'
    clear hH'
    try simp only [Act.put, List.setIfInBounds_toArray, List.set_cons_zero, List.set_cons_succ]
    refine along_bar (fun K hK => ?_)
    go_simp
    refine (HC6.out _).mono ?_
    rintro e w' ⟨rfl, hbx⟩
    try go_wp2_with fail
    refine hK.out _ _ (below_kb (below_on hH.1 hbx)) (fun hH' => ?_)
    clear hK K hH hbx
    have hH := hH'
    clear hH'
    try simp only [Act.put, List.setIfInBounds_toArray, List.set_cons_zero, List.set_cons_succ]
    refine along_pure ?_ (by rfl) (fun w hSw => ?_) ?_
    rotate_left
    · (try dsimp only at hSw); go_simp; try with_reducible rfl
    try simp only [Act.put, List.setIfInBounds_toArray, List.set_cons_zero, List.set_cons_succ]
    refine along_pure ?_ (by rfl) (fun w hSw => ?_) ?_
    rotate_left
    · (try dsimp only at hSw); go_simp; try with_reducible rfl
    try simp only [Act.put, List.setIfInBounds_toArray, List.set_cons_zero, List.set_cons_succ]
    refine along_pure ?_ (by rfl) (fun w hSw => ?_) ?_
    rotate_left
    · (try dsimp only at hSw); go_simp; try with_reducible rfl
    try simp only [Act.put, List.setIfInBounds_toArray, List.set_cons_zero, List.set_cons_succ]
    refine along_pure ?_ (by rfl) (fun w hSw => ?_) ?_
    rotate_left
    · (try dsimp only at hSw); go_simp; try with_reducible rfl
    try simp only [Act.put, List.setIfInBounds_toArray, List.set_cons_zero, List.set_cons_succ]
    refine along_pure ?_ (by rfl) (fun w hSw => ?_) ?_
    rotate_left
    · (try dsimp only at hSw); go_simp; try with_reducible rfl
    try simp only [Act.put, List.setIfInBounds_toArray, List.set_cons_zero, List.set_cons_succ]
    refine along_pure ?_ (by rfl) (fun w hSw => ?_) ?_
    rotate_left
    · (try dsimp only at hSw); go_simp; try with_reducible rfl
    try simp only [Act.put, List.setIfInBounds_toArray, List.set_cons_zero, List.set_cons_succ]
    refine along_bar (fun K hK => ?_)
    go_simp
    refine (HC7.out _).mono ?_
    rintro e w' ⟨rfl, hbx⟩
    try go_wp2_with fail
    refine hK.out _ _ (below_kb (below_on hH.1 hbx)) (fun hH' => ?_)
    clear hK K hH hbx
    have hH := hH'
    clear hH'
    try simp only [Act.put, List.setIfInBounds_toArray, List.set_cons_zero, List.set_cons_succ]
    refine along_bar (fun K hK => ?_)
    go_simp
    refine (HC8.out _).mono ?_
    rintro e w' ⟨rfl, hbx⟩
    try go_wp2_with fail
    refine hK.out _ _ (below_kb (below_on hH.1 hbx)) (fun hH' => ?_)
    clear hK K hH hbx
    have hH := hH'
    clear hH'
    try simp only [Act.put, List.setIfInBounds_toArray, List.set_cons_zero, List.set_cons_succ]
    refine along_pure ?_ (by rfl) (fun w hSw => ?_) ?_
    rotate_left
    · (try dsimp only at hSw); go_simp; try with_reducible rfl
    try simp only [Act.put, List.setIfInBounds_toArray, List.set_cons_zero, List.set_cons_succ]
    refine along_pure ?_ (by rfl) (fun w hSw => ?_) ?_
    rotate_left
    · (try dsimp only at hSw); go_simp; try with_reducible rfl
    try simp only [Act.put, List.setIfInBounds_toArray, List.set_cons_zero, List.set_cons_succ]
    refine along_pure ?_ (by rfl) (fun w hSw => ?_) ?_
    rotate_left
    · (try dsimp only at hSw); go_simp; try with_reducible rfl
    try simp only [Act.put, List.setIfInBounds_toArray, List.set_cons_zero, List.set_cons_succ]
    refine along_pure ?_ (by rfl) (fun w hSw => ?_) ?_
    rotate_left
    · (try dsimp only at hSw); go_simp; try with_reducible rfl
    try simp only [Act.put, List.setIfInBounds_toArray, List.set_cons_zero, List.set_cons_succ]
    refine along_pure ?_ (by rfl) (fun w hSw => ?_) ?_
    rotate_left
    · (try dsimp only at hSw); go_simp; try with_reducible rfl
    try simp only [Act.put, List.setIfInBounds_toArray, List.set_cons_zero, List.set_cons_succ]
    refine along_bar (fun K hK => ?_)
    go_simp
    refine (HC9.out _).mono ?_
    rintro e w' ⟨rfl, hbx⟩
    try go_wp2_with fail
    refine hK.out _ _ (below_kb (below_on hH.1 hbx)) (fun hH' => ?_)
    clear hK K hH hbx
    have hH := hH'
    clear hH'
    try simp only [Act.put, List.setIfInBounds_toArray, List.set_cons_zero, List.set_cons_succ]
    refine along_bar (fun K hK => ?_)
    go_simp
    refine (HC10.out _).mono ?_
    rintro e w' ⟨rfl, hbx⟩
    try go_wp2_with fail
    refine hK.out _ _ (below_kb (below_on hH.1 hbx)) (fun hH' => ?_)
    clear hK K hH hbx
    have hH := hH'
    clear hH'
    try simp only [Act.put, List.setIfInBounds_toArray, List.set_cons_zero, List.set_cons_succ]
    refine along_bar (fun K hK => ?_)
    go_simp
    refine (HC11.out _).mono ?_
    rintro e w' ⟨rfl, hbx⟩
    try go_wp2_with fail
    refine hK.out _ _ (below_kb (below_on hH.1 hbx)) (fun hH' => ?_)
    clear hK K hH hbx
    have hH := hH'
    clear hH'
    try simp only [Act.put, List.setIfInBounds_toArray, List.set_cons_zero, List.set_cons_succ]
    refine along_pure ?_ (by rfl) (fun w hSw => ?_) ?_
    rotate_left
    · (try dsimp only at hSw); go_simp; try with_reducible rfl
    try simp only [Act.put, List.setIfInBounds_toArray, List.set_cons_zero, List.set_cons_succ]
    refine along_pure ?_ (by rfl) (fun w hSw => ?_) ?_
    rotate_left
    · (try dsimp only at hSw); go_simp; try with_reducible rfl
    try simp only [Act.put, List.setIfInBounds_toArray, List.set_cons_zero, List.set_cons_succ]
    refine along_pure ?_ (by rfl) (fun w hSw => ?_) ?_
    rotate_left
    · (try dsimp only at hSw); go_simp; try with_reducible rfl
    try simp only [Act.put, List.setIfInBounds_toArray, List.set_cons_zero, List.set_cons_succ]
    refine along_pure ?_ (by rfl) (fun w hSw => ?_) ?_
    rotate_left
    · (try dsimp only at hSw); go_simp; try with_reducible rfl
    try simp only [Act.put, List.setIfInBounds_toArray, List.set_cons_zero, List.set_cons_succ]
    refine along_pure ?_ (by rfl) (fun w hSw => ?_) ?_
    rotate_left
    · (try dsimp only at hSw); go_simp; try with_reducible rfl
    try simp only [Act.put, List.setIfInBounds_toArray, List.set_cons_zero, List.set_cons_succ]
    refine along_pure ?_ (by rfl) (fun w hSw => ?_) ?_
    rotate_left
    · (try dsimp only at hSw); go_simp; try with_reducible rfl
    try simp only [Act.put, List.setIfInBounds_toArray, List.set_cons_zero, List.set_cons_succ]
    refine along_pure ?_ (by rfl) (fun w hSw => ?_) ?_
    rotate_left
    · (try dsimp only at hSw); go_simp; try with_reducible rfl
    try simp only [Act.put, List.setIfInBounds_toArray, List.set_cons_zero, List.set_cons_succ]
    refine along_bar (fun K hK => ?_)
    go_simp
    refine (HC12.out _).mono ?_
    rintro e w' ⟨rfl, hbx⟩
    try go_wp2_with fail
    refine hK.out _ _ (below_kb (below_on hH.1 hbx)) (fun hH' => ?_)
    clear hK K hH hbx
    have hH := hH'
    clear hH'
    try simp only [Act.put, List.setIfInBounds_toArray, List.set_cons_zero, List.set_cons_succ]
    refine along_bar (fun K hK => ?_)
    go_simp
    refine (HC13.out _).mono ?_
    rintro e w' ⟨rfl, hbx⟩
    try go_wp2_with fail
    refine hK.out _ _ (below_kb (below_on hH.1 hbx)) (fun hH' => ?_)
    clear hK K hH hbx
    have hH := hH'
    clear hH'
    try simp only [Act.put, List.setIfInBounds_toArray, List.set_cons_zero, List.set_cons_succ]
    refine along_pure ?_ (by rfl) (fun w hSw => ?_) ?_
    rotate_left
    · (try dsimp only at hSw); go_simp; try with_reducible rfl
    try simp only [Act.put, List.setIfInBounds_toArray, List.set_cons_zero, List.set_cons_succ]
    refine along_pure ?_ (by rfl) (fun w hSw => ?_) ?_
    rotate_left
    · (try dsimp only at hSw); go_simp; try with_reducible rfl
    try simp only [Act.put, List.setIfInBounds_toArray, List.set_cons_zero, List.set_cons_succ]
    refine along_pure ?_ (by rfl) (fun w hSw => ?_) ?_
    rotate_left
    · (try dsimp only at hSw); go_simp; try with_reducible rfl
    try simp only [Act.put, List.setIfInBounds_toArray, List.set_cons_zero, List.set_cons_succ]
    refine along_pure ?_ (by rfl) (fun w hSw => ?_) ?_
    rotate_left
    · (try dsimp only at hSw); go_simp; try with_reducible rfl
    try simp only [Act.put, List.setIfInBounds_toArray, List.set_cons_zero, List.set_cons_succ]
    refine along_end (NoPanic.normal ?_)
    have HB := Lib.hid hH.1
    clear hH
    go_wp2_with fail
    go_ret
    have kq := KQ.out
    have kb := KB.out
    refine ⟨ret_bool ?_, below_on (below_on hB0 hbx0) HB.out⟩
    rw [IntWalk.i64_in _ (by omega)]
    simp
    omega
theorem turns_any (a b c : Nat) (ha : a < MM) (hb : b < MM) (hc : c < MM) (w : World) :
    Calls Try.prog 6 #[cn a, cn b, cn c] w fun e w' => e = .returned (.bool true) ∧ Below w.heap.size w w' :=
  turns_core (hi a) (lo a) (hi b) (lo b) (hi c) (lo c) (hi (ad a b)) (lo (ad a b)) (hi (ad (ad a b) c)) (lo (ad (ad a b) c)) (hi (ad b c)) (lo (ad b c)) (hi (ad a a)) (lo (ad a a)) (hi (upI a 3)) (lo (upI a 3)) (hi (upI a 7)) (lo (upI a 7)) (cmpN a b) (cmpN b a)
    (fun w => add_ad a b ha hb w) (by intro w; have := add_ad b a hb ha w; rw [ad_comm] at this; exact this) (fun w => add_ad _ c (ad_lt _ _) hc w) (fun w => add_ad b c hb hc w) (by intro w; have := add_ad a _ ha (ad_lt b c) w; rw [ad_assoc] at this; exact this)
    (by intro w; have := sub_any _ b (ad_lt a b) hb w; rw [sb_ad a b ha hb] at this; exact this) (fun w => add_ad a a ha ha w) (by intro w; have := up_any a 1 ha w; rw [ad_up] at this; exact this) (fun w => up_any a 3 ha w) (by intro w; have := up_any _ 4 (upI_lt a 3) w; rw [up_34] at this; exact this) (fun w => up_any a 7 ha w)
    (fun w => cmp_any a b w) (fun w => cmp_any b a w) (cmp_neg a b).symm (cmpN_bd a b) w
end Go.Proofs.Yteinkjlnofmalaa
