/- FilterMatches' call answers true. -/
import Derived.Test.YtlmeagnegakifaaDoorF3
import Derived.Test.YtlmeagnegakifaaDoorAlong2
namespace Go.Proofs.YtlmeagnegakifaaDoor
open Go.RowKit
set_option linter.unusedVariables false

set_option maxRecDepth 100000 in
set_option maxHeartbeats 8000000 in
theorem fmatches_core (a n b m p l h u v d s q x y E : Int) (R : Bool) (P : World → Prop) (HP : Hid (∀ W w, P W → Below W.heap.size W w → P w))
    (CC : Hid (∀ w, Calls Tryd.prog 32 #[fv a n b m p l h u v] w fun e w' => e = .returned (.int .i64 E) ∧ Below w.heap.size w w'))
    (RC : Hid (∀ w, Calls Tryd.prog 33 #[fv a n b m p l h u v] w fun e w' => e = .returned (.int .i64 E) ∧ Below w.heap.size w w'))
    (AL : Hid (∀ w, Calls Tryd.prog 35 #[] w fun e w' => e = .returned (fv 0 0 0 0 (-1) 0 65535 0 65535) ∧ Below w.heap.size w w'))
    (MA : Hid (∀ w, Calls Tryd.prog 34 #[fv 0 0 0 0 (-1) 0 65535 0 65535, hv d s q x y] w fun e w' => e = .returned (.bool true) ∧ Below w.heap.size w w'))
    (CA : Hid (∀ w, Calls Tryd.prog 32 #[fv 0 0 0 0 (-1) 0 65535 0 65535] w fun e w' => e = .returned (.int .i64 0) ∧ Below w.heap.size w w'))
    (AW : Hid (∀ w, P w → Calls Tryd.prog 36 #[] w fun e w' => e = .returned (.bool true) ∧ Below w.heap.size w w'))
    (M : Hid (E = 0 → ∀ w, Calls Tryd.prog 34 #[fv a n b m p l h u v, hv d s q x y] w fun e w' => e = .returned (.bool R) ∧ Below w.heap.size w w'))
    (RM : Hid (E = 0 → ∀ w, Calls Tryd.prog 37 #[fv a n b m p l h u v, hv d s q x y] w fun e w' => e = .returned (.bool R) ∧ Below w.heap.size w w'))
    (w : World) (ht : P w) :
    Calls Tryd.prog 7 #[fv a n b m p l h u v, hv d s q x y] w fun e w' => e = .returned (.bool true) ∧ Below w.heap.size w w' := by
  obtain ⟨W0, hW0⟩ : ∃ W0, (w.alloc (Obj.cells (fc a n b m p l h u v).toArray 62)).alloc (Obj.cells (hc d s q x y).toArray 25) = W0 := ⟨_, rfl⟩
  have F0 := Lib.hid (show Blk W0 w.heap.size (fc a n b m p l h u v) by rw [← hW0]; exact (Blk.new _ _ _).on (cbelow_al (Below.refl _ _) _))
  have G0 := Lib.hid (show Blk W0 (w.heap.size + 1) (hc d s q x y) by rw [← hW0]; have k := Blk.new (w.alloc (Obj.cells (fc a n b m p l h u v).toArray 62)) 25 (hc d s q x y); rw [World.size_alloc] at k; exact k)
  have HB0 := Lib.hid (show Below w.heap.size w W0 by rw [← hW0]; exact cbelow_al (cbelow_al (Below.refl _ _) _) _)
  have hP0 := Lib.hid (HP.out _ _ ht HB0.out)
  clear ht
  unfold fc hc at *
  unfold fv hv at *
  go_enter Tryd.func7, Tryd.ntmps7
  go_upto_region 1 with fail
  clear hW0
  obtain ⟨z0, z1, z2, z3, z4, z5, z6, z7, z8⟩ : _ ∧ _ ∧ _ ∧ _ ∧ _ ∧ _ ∧ _ ∧ _ ∧ _ := ⟨F0.out.1 0 _ rfl, F0.out.1 1 _ rfl, F0.out.1 2 _ rfl, F0.out.1 3 _ rfl, F0.out.1 4 _ rfl, F0.out.1 5 _ rfl, F0.out.1 6 _ rfl, F0.out.1 7 _ rfl, F0.out.1 8 _ rfl⟩
  obtain ⟨y0, y1, y2, y3, y4⟩ : _ ∧ _ ∧ _ ∧ _ ∧ _ := ⟨G0.out.1 0 _ rfl, G0.out.1 1 _ rfl, G0.out.1 2 _ rfl, G0.out.1 3 _ rfl, G0.out.1 4 _ rfl⟩
  refine wp_region_noPanic ?_
  refine wp_region_along (S := fun w' => Below W0.heap.size W0 w' ∧ ∀ b o, (W0.cell? ⟨b, o, none⟩).isSome = true → w'.cell? ⟨b, o, none⟩ = W0.cell? ⟨b, o, none⟩) ([(0, true), (2, true), (1, false), (3, false), (4, true), (5, true), (7, true), (6, false), (8, false), (9, true), (10, true), (11, true), (12, false), (13, false), (14, true), (15, true)]) (by kernel_rfl) (by as_aux_lemma => kernel_rfl) (by kernel_rfl) (by kernel_rfl) (by as_aux_lemma => kernel_rfl) (by as_aux_lemma => kernel_rfl) (fun _ _ _ _ _ h => h) (ckeep (Below.refl _ _).drew) (fun hH => ?_)
  simp only [stepsOf, pickOp]
  iterate 2 (first | (refine along_skip (by rfl) ?_; try simp only [Act.put, List.setIfInBounds_toArray, List.set_cons_zero, List.set_cons_succ]) | (refine along_pure ?_ (by rfl) (fun w hSw => ?_) ?_; rotate_left; ((try dsimp only at hSw); go_simp; try with_reducible rfl); try simp only [Act.put, List.setIfInBounds_toArray, List.set_cons_zero, List.set_cons_succ]))
  refine along_bar (fun K hK => ?_)
  go_simp
  refine (CC.out _).mono ?_
  rintro e w' ⟨rfl, hbx⟩
  try go_wp2_with fail
  refine hK.out _ _ (ckeep (cbelow_on hH.1 hbx)) (fun hH' => ?_)
  clear hK K hH
  have hH := hH'
  clear hH'
  clear hbx
  try simp only [Act.put, List.setIfInBounds_toArray, List.set_cons_zero, List.set_cons_succ]
  refine along_bar (fun K hK => ?_)
  go_simp
  refine (RC.out _).mono ?_
  rintro e w' ⟨rfl, hbx⟩
  try go_wp2_with fail
  refine hK.out _ _ (ckeep (cbelow_on hH.1 hbx)) (fun hH' => ?_)
  clear hK K hH
  have hH := hH'
  clear hH'
  clear hbx
  try simp only [Act.put, List.setIfInBounds_toArray, List.set_cons_zero, List.set_cons_succ]
  iterate 3 (first | (refine along_skip (by rfl) ?_; try simp only [Act.put, List.setIfInBounds_toArray, List.set_cons_zero, List.set_cons_succ]) | (refine along_pure ?_ (by rfl) (fun w hSw => ?_) ?_; rotate_left; ((try dsimp only at hSw); go_simp; try with_reducible rfl); try simp only [Act.put, List.setIfInBounds_toArray, List.set_cons_zero, List.set_cons_succ]))
  refine along_bar (fun K hK => ?_)
  go_simp
  refine (AL.out _).mono ?_
  rintro e w' ⟨rfl, hbx⟩
  try go_wp2_with fail
  refine hK.out _ _ (ckeep (cbelow_on hH.1 hbx)) (fun hH' => ?_)
  clear hK K hH
  have hH := hH'
  clear hH'
  clear hbx
  try simp only [Act.put, List.setIfInBounds_toArray, List.set_cons_zero, List.set_cons_succ]
  refine along_bar (fun K hK => ?_)
  go_simp
  refine (MA.out _).mono ?_
  rintro e w' ⟨rfl, hbx⟩
  try go_wp2_with fail
  refine hK.out _ _ (ckeep (cbelow_on hH.1 hbx)) (fun hH' => ?_)
  clear hK K hH
  have hH := hH'
  clear hH'
  clear hbx
  try simp only [Act.put, List.setIfInBounds_toArray, List.set_cons_zero, List.set_cons_succ]
  iterate 3 (first | (refine along_skip (by rfl) ?_; try simp only [Act.put, List.setIfInBounds_toArray, List.set_cons_zero, List.set_cons_succ]) | (refine along_pure ?_ (by rfl) (fun w hSw => ?_) ?_; rotate_left; ((try dsimp only at hSw); go_simp; try with_reducible rfl); try simp only [Act.put, List.setIfInBounds_toArray, List.set_cons_zero, List.set_cons_succ]))
  refine along_bar (fun K hK => ?_)
  go_simp
  refine (AL.out _).mono ?_
  rintro e w' ⟨rfl, hbx⟩
  try go_wp2_with fail
  refine hK.out _ _ (ckeep (cbelow_on hH.1 hbx)) (fun hH' => ?_)
  clear hK K hH
  have hH := hH'
  clear hH'
  clear hbx
  try simp only [Act.put, List.setIfInBounds_toArray, List.set_cons_zero, List.set_cons_succ]
  refine along_bar (fun K hK => ?_)
  go_simp
  refine (CA.out _).mono ?_
  rintro e w' ⟨rfl, hbx⟩
  try go_wp2_with fail
  refine hK.out _ _ (ckeep (cbelow_on hH.1 hbx)) (fun hH' => ?_)
  clear hK K hH
  have hH := hH'
  clear hH'
  clear hbx
  try simp only [Act.put, List.setIfInBounds_toArray, List.set_cons_zero, List.set_cons_succ]
  iterate 2 (first | (refine along_skip (by rfl) ?_; try simp only [Act.put, List.setIfInBounds_toArray, List.set_cons_zero, List.set_cons_succ]) | (refine along_pure ?_ (by rfl) (fun w hSw => ?_) ?_; rotate_left; ((try dsimp only at hSw); go_simp; try with_reducible rfl); try simp only [Act.put, List.setIfInBounds_toArray, List.set_cons_zero, List.set_cons_succ]))
  refine along_end (NoPanic.normal ?_)
  have HB1 := Lib.hid (cbelow_on HB0.out hH.1)
  have F1 := Lib.hid (F0.out.on hH.1)
  have G1 := Lib.hid (G0.out.on hH.1)
  have hP1 := Lib.hid (HP.out _ _ hP0.out hH.1)
  clear hH z0 z1 z2 z3 z4 z5 z6 z7 z8 y0 y1 y2 y3 y4 HB0 F0 G0 hP0 CC AL MA CA
  obtain ⟨W1, rfl⟩ : ∃ W1 : World, W1 = w' := ⟨_, rfl⟩
  go_upto_region 3 with fail
  obtain ⟨z0, z1, z2, z3, z4, z5, z6, z7, z8⟩ : _ ∧ _ ∧ _ ∧ _ ∧ _ ∧ _ ∧ _ ∧ _ ∧ _ := ⟨F1.out.1 0 _ rfl, F1.out.1 1 _ rfl, F1.out.1 2 _ rfl, F1.out.1 3 _ rfl, F1.out.1 4 _ rfl, F1.out.1 5 _ rfl, F1.out.1 6 _ rfl, F1.out.1 7 _ rfl, F1.out.1 8 _ rfl⟩
  obtain ⟨y0, y1, y2, y3, y4⟩ : _ ∧ _ ∧ _ ∧ _ ∧ _ := ⟨G1.out.1 0 _ rfl, G1.out.1 1 _ rfl, G1.out.1 2 _ rfl, G1.out.1 3 _ rfl, G1.out.1 4 _ rfl⟩
  by_cases e0 : E = 0
  · subst e0
    refine wp_region_noPanic ?_
    refine wp_region_along (S := fun w' => Below W1.heap.size W1 w' ∧ ∀ b o, (W1.cell? ⟨b, o, none⟩).isSome = true → w'.cell? ⟨b, o, none⟩ = W1.cell? ⟨b, o, none⟩) ([(0, false), (1, true), (2, true), (3, false), (4, true), (5, true), (6, true), (7, true), (9, true), (10, true), (8, false), (11, false), (12, true), (13, true), (14, true), (15, true)]) (by kernel_rfl) (by as_aux_lemma => kernel_rfl) (by kernel_rfl) (by kernel_rfl) (by as_aux_lemma => kernel_rfl) (by as_aux_lemma => kernel_rfl) (fun _ _ _ _ _ h => h) (ckeep (Below.refl _ _).drew) (fun hH => ?_)
    simp only [stepsOf, pickOp]
    refine along_bar (fun K hK => ?_)
    go_simp
    refine (AW.out _ (HP.out _ _ hP1.out hH.1)).mono ?_
    rintro e w' ⟨rfl, hbx⟩
    try go_wp2_with fail
    refine hK.out _ _ (ckeep (cbelow_on hH.1 hbx)) (fun hH' => ?_)
    clear hK K hH
    have hH := hH'
    clear hH'
    clear hbx
    try simp only [Act.put, List.setIfInBounds_toArray, List.set_cons_zero, List.set_cons_succ]
    iterate 2 (first | (refine along_skip (by rfl) ?_; try simp only [Act.put, List.setIfInBounds_toArray, List.set_cons_zero, List.set_cons_succ]) | (refine along_pure ?_ (by rfl) (fun w hSw => ?_) ?_; rotate_left; ((try dsimp only at hSw); go_simp; try with_reducible rfl); try simp only [Act.put, List.setIfInBounds_toArray, List.set_cons_zero, List.set_cons_succ]))
    refine along_bar (fun K hK => ?_)
    go_simp
    refine (RC.out _).mono ?_
    rintro e w' ⟨rfl, hbx⟩
    try go_wp2_with fail
    refine hK.out _ _ (ckeep (cbelow_on hH.1 hbx)) (fun hH' => ?_)
    clear hK K hH
    have hH := hH'
    clear hH'
    clear hbx
    try simp only [Act.put, List.setIfInBounds_toArray, List.set_cons_zero, List.set_cons_succ]
    iterate 6 (first | (refine along_skip (by rfl) ?_; try simp only [Act.put, List.setIfInBounds_toArray, List.set_cons_zero, List.set_cons_succ]) | (refine along_pure ?_ (by rfl) (fun w hSw => ?_) ?_; rotate_left; ((try dsimp only at hSw); go_simp; try with_reducible rfl); try simp only [Act.put, List.setIfInBounds_toArray, List.set_cons_zero, List.set_cons_succ]))
    refine along_bar (fun K hK => ?_)
    go_simp
    refine (M.out (by trivial) _).mono ?_
    rintro e w' ⟨rfl, hbx⟩
    try go_wp2_with fail
    refine hK.out _ _ (ckeep (cbelow_on hH.1 hbx)) (fun hH' => ?_)
    clear hK K hH
    have hH := hH'
    clear hH'
    clear hbx
    try simp only [Act.put, List.setIfInBounds_toArray, List.set_cons_zero, List.set_cons_succ]
    refine along_bar (fun K hK => ?_)
    go_simp
    refine (RM.out (by trivial) _).mono ?_
    rintro e w' ⟨rfl, hbx⟩
    try go_wp2_with fail
    refine hK.out _ _ (ckeep (cbelow_on hH.1 hbx)) (fun hH' => ?_)
    clear hK K hH
    have hH := hH'
    clear hH'
    clear hbx
    try simp only [Act.put, List.setIfInBounds_toArray, List.set_cons_zero, List.set_cons_succ]
    iterate 4 (first | (refine along_skip (by rfl) ?_; try simp only [Act.put, List.setIfInBounds_toArray, List.set_cons_zero, List.set_cons_succ]) | (refine along_pure ?_ (by rfl) (fun w hSw => ?_) ?_; rotate_left; ((try dsimp only at hSw); go_simp; try with_reducible rfl); try simp only [Act.put, List.setIfInBounds_toArray, List.set_cons_zero, List.set_cons_succ]))
    refine along_end (NoPanic.normal ?_)
    have HB2 := Lib.hid (cbelow_on HB1.out hH.1)
    clear hH
    go_wp2
    go_ret
    exact ⟨rfl, HB2.out⟩
  · have e0' : (E != 0) = true := by simp; exact e0
    refine wp_region_noPanic ?_
    refine wp_region_along (S := fun w' => Below W1.heap.size W1 w' ∧ ∀ b o, (W1.cell? ⟨b, o, none⟩).isSome = true → w'.cell? ⟨b, o, none⟩ = W1.cell? ⟨b, o, none⟩) ([(0, false), (1, true), (2, true), (3, false), (4, true), (5, true), (6, true), (7, true), (9, true), (10, true), (8, false), (11, false), (12, true), (13, true), (14, true), (15, true)]) (by kernel_rfl) (by as_aux_lemma => kernel_rfl) (by kernel_rfl) (by kernel_rfl) (by as_aux_lemma => kernel_rfl) (by as_aux_lemma => kernel_rfl) (fun _ _ _ _ _ h => h) (ckeep (Below.refl _ _).drew) (fun hH => ?_)
    simp only [stepsOf, pickOp]
    refine along_bar (fun K hK => ?_)
    go_simp
    refine (AW.out _ (HP.out _ _ hP1.out hH.1)).mono ?_
    rintro e w' ⟨rfl, hbx⟩
    try go_wp2_with fail
    refine hK.out _ _ (ckeep (cbelow_on hH.1 hbx)) (fun hH' => ?_)
    clear hK K hH
    have hH := hH'
    clear hH'
    clear hbx
    try simp only [Act.put, List.setIfInBounds_toArray, List.set_cons_zero, List.set_cons_succ]
    iterate 2 (first | (refine along_skip (by rfl) ?_; try simp only [Act.put, List.setIfInBounds_toArray, List.set_cons_zero, List.set_cons_succ]) | (refine along_pure ?_ (by rfl) (fun w hSw => ?_) ?_; rotate_left; ((try dsimp only at hSw); go_simp; try with_reducible rfl); try simp only [Act.put, List.setIfInBounds_toArray, List.set_cons_zero, List.set_cons_succ]))
    refine along_bar (fun K hK => ?_)
    go_simp
    refine (RC.out _).mono ?_
    rintro e w' ⟨rfl, hbx⟩
    try go_wp2_with fail
    refine hK.out _ _ (ckeep (cbelow_on hH.1 hbx)) (fun hH' => ?_)
    clear hK K hH
    have hH := hH'
    clear hH'
    clear hbx
    try simp only [Act.put, List.setIfInBounds_toArray, List.set_cons_zero, List.set_cons_succ]
    iterate 6 (first | (refine along_skip (by rfl) ?_; try simp only [Act.put, List.setIfInBounds_toArray, List.set_cons_zero, List.set_cons_succ]) | (refine along_pure ?_ (by rfl) (fun w hSw => ?_) ?_; rotate_left; ((try dsimp only at hSw); go_simp; try with_reducible rfl); try simp only [Act.put, List.setIfInBounds_toArray, List.set_cons_zero, List.set_cons_succ]))
    refine along_pass (by rfl) hH ?_
    try simp only [Act.put, List.setIfInBounds_toArray, List.set_cons_zero, List.set_cons_succ]
    refine along_pass (by rfl) hH ?_
    try simp only [Act.put, List.setIfInBounds_toArray, List.set_cons_zero, List.set_cons_succ]
    iterate 4 (first | (refine along_skip (by rfl) ?_; try simp only [Act.put, List.setIfInBounds_toArray, List.set_cons_zero, List.set_cons_succ]) | (refine along_pure ?_ (by rfl) (fun w hSw => ?_) ?_; rotate_left; ((try dsimp only at hSw); go_simp; try with_reducible rfl); try simp only [Act.put, List.setIfInBounds_toArray, List.set_cons_zero, List.set_cons_succ]))
    refine along_end (NoPanic.normal ?_)
    have HB2 := Lib.hid (cbelow_on HB1.out hH.1)
    clear hH
    go_wp2
    go_ret
    exact ⟨rfl, HB2.out⟩
theorem chk_right {R1 R2 : Bool} {p : Int} {E1 E2 : Bool} (h : chk R1 R2 p E1 E2 = 0) : R1 = true ∧ R2 = true ∧ (p = -1 ∨ 0 ≤ p ∧ p ≤ 255) ∧ E1 = false ∧ E2 = false := by
  unfold chk at h
  by_cases c1 : R1 = true ∧ R2 = true
  · rw [if_pos c1] at h
    by_cases c2 : p = -1 ∨ 0 ≤ p ∧ p ≤ 255
    · rw [if_pos c2] at h
      by_cases c3 : E1 = true ∨ E2 = true
      · rw [if_pos c3] at h; exact absurd h (by omega)
      · exact ⟨c1.1, c1.2, c2, by cases E1 <;> simp_all, by cases E2 <;> simp_all⟩
    · rw [if_neg c2] at h; exact absurd h (by omega)
  · rw [if_neg c1] at h; exact absurd h (by omega)
theorem right_nat {a : Nat} {n : Int} (h : rightB a n = true) : ∃ k : Nat, n = k ∧ k ≤ 32 ∧ a % sz k = 0 := by
  obtain ⟨n0, n1, n2⟩ := of_decide_eq_true h
  obtain ⟨k, rfl⟩ := Int.eq_ofNat_of_zero_le n0
  exact ⟨k, rfl, by omega, n2⟩
/-- The document's Has of a prefix that may be. -/
theorem rhas_right (a : Nat) (n : Int) (x : Nat) (h : rightB a n = true) (ha : a < 4294967296) (hx : x < 4294967296) (w : World) :
    Calls Tryd.prog 61 #[pv a n, .int .u32 x] w fun e w' => e = .returned (.bool (hasB a n x)) ∧ Below w.heap.size w w' := by
  rw [hasB_iff a n x h]
  obtain ⟨k, rfl, hk, -⟩ := right_nat h
  exact rhas_any a k x hk ha hx w
theorem fcheck_any (a : Nat) (n : Int) (b : Nat) (m p : Int) (l h u v : Nat) (ha : a < 4294967296) (hb : b < 4294967296) (w : World) :
    Calls Tryd.prog 32 #[fv a n b m p l h u v] w fun e w' => e = .returned (.int .i64 (chk (rightB a n) (rightB b m) p (decide (h < l)) (decide (v < u)))) ∧ Below w.heap.size w w' :=
  fcheck_core a n b m p l h u v _ _ _ _ (fun w => cright_any a n ha w) (fun w => cright_any b m hb w) (fun w => by have c := fempty_any l h w; rw [show decide ((h : Int) < l) = decide (h < l) by rw [decide_eq_decide]; omega] at c; exact c) (fun w => by have c := fempty_any u v w; rw [show decide ((v : Int) < u) = decide (v < u) by rw [decide_eq_decide]; omega] at c; exact c) _ rfl w
theorem rfcheck_any (a : Nat) (n : Int) (b : Nat) (m p : Int) (l h u v : Nat) (ha : a < 4294967296) (hb : b < 4294967296) (w : World) :
    Calls Tryd.prog 33 #[fv a n b m p l h u v] w fun e w' => e = .returned (.int .i64 (chk (rightB a n) (rightB b m) p (decide (h < l)) (decide (v < u)))) ∧ Below w.heap.size w w' := by
  refine rfcheck_core a n b m p l h u v _ _ (fun w => rright_any a n ha w) (fun w => rright_any b m hb w) _ ?_ w
  show _ = _
  rw [show decide ((h : Int) < l) = decide (h < l) by rw [decide_eq_decide]; omega, show decide ((v : Int) < u) = decide (v < u) by rw [decide_eq_decide]; omega]
/-- Whether a header passes. -/
def passB (a : Nat) (n : Int) (b : Nat) (m p : Int) (l h u v d s q x y : Nat) : Bool := hasB a n d && hasB b m s && prB p q && inR l h x && inR u v y
theorem fmatch_all (a : Nat) (n : Int) (b : Nat) (m p : Int) (l h u v d s q x y : Nat) (hd : d < 4294967296) (hs : s < 4294967296) (hq : q < 256) (w : World) :
    Calls Tryd.prog 34 #[fv a n b m p l h u v, hv d s q x y] w fun e w' => e = .returned (.bool (passB a n b m p l h u v d s q x y)) ∧ Below w.heap.size w w' :=
  fmatch_core a n b m p l h u v d s q x y (by omega) _ _ _ _ (fun w => has_any a n d hd w) (fun w => has_any b m s hs w) (fun w => inb_any l h x w) (fun w => inb_any u v y w) _ rfl w
theorem rfmatch_all (a : Nat) (n : Int) (b : Nat) (m p : Int) (l h u v d s q x y : Nat) (h1 : rightB a n = true) (h2 : rightB b m = true) (ha : a < 4294967296) (hb : b < 4294967296) (hd : d < 4294967296) (hs : s < 4294967296) (hq : q < 256) (w : World) :
    Calls Tryd.prog 37 #[fv a n b m p l h u v, hv d s q x y] w fun e w' => e = .returned (.bool (passB a n b m p l h u v d s q x y)) ∧ Below w.heap.size w w' := by
  refine rfmatch_core a n b m p l h u v d s q x y (by omega) _ _ (fun w => rhas_right a n d h1 ha hd w) (fun w => rhas_right b m s h2 hb hs w) _ ?_ w
  show _ = _
  unfold passB
  rw [inR_eq, inR_eq]
theorem fmatches_any (a : Nat) (n : Int) (b : Nat) (m p : Int) (l h u v d s q x y : Nat) (ha : a < 4294967296) (hb : b < 4294967296) (hd : d < 4294967296) (hs : s < 4294967296) (hq : q < 256) (hx : x < 65536) (hy : y < 65536) (w : World) (ht : Mxl w) :
    Calls Tryd.prog 7 #[fv a n b m p l h u v, hv d s q x y] w fun e w' => e = .returned (.bool true) ∧ Below w.heap.size w w' := by
  refine fmatches_core a n b m p l h u v d s q x y _ (passB a n b m p l h u v d s q x y) Mxl (fun _ _ h hb => h.on hb) (fun w => fcheck_any a n b m p l h u v ha hb w) (fun w => rfcheck_any a n b m p l h u v ha hb w) (fun w => fall_any w) (fun w => ?_) (fun w => ?_) (fun w h => fawake_any w h) (fun _ w => fmatch_all a n b m p l h u v d s q x y hd hs hq w) (fun e w => ?_) w ht
  · have c := fmatch_all 0 0 0 0 (-1) 0 65535 0 65535 d s q x y hd hs hq w
    rw [show passB 0 0 0 0 (-1) 0 65535 0 65535 d s q x y = true by
      have e1 : hasB 0 0 d = true := by rw [hasB_iff 0 0 d (by decide)]; simp [sz]; omega
      have e2 : hasB 0 0 s = true := by rw [hasB_iff 0 0 s (by decide)]; simp [sz]; omega
      have e3 : inR 0 65535 x = true := by unfold inR; simp; omega
      have e4 : inR 0 65535 y = true := by unfold inR; simp; omega
      unfold passB
      rw [e1, e2, e3, e4]; rfl] at c
    exact c
  · have c := fcheck_any 0 0 0 0 (-1) 0 65535 0 65535 (by omega) (by omega) w
    rw [show chk (rightB 0 0) (rightB 0 0) (-1) (decide (65535 < 0)) (decide (65535 < 0)) = 0 by decide +kernel] at c
    exact c
  · obtain ⟨h1, h2, -, -, -⟩ := chk_right e
    exact rfmatch_all a n b m p l h u v d s q x y h1 h2 ha hb hd hs hq w
end Go.Proofs.YtlmeagnegakifaaDoor
