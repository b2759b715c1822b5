/- A header as a line: what Print and the document's Print answer. -/
import Derived.Test.YtlmeagnegakifaaDoorH17
import Derived.Test.YtlmeagnegakifaaDoorKept
import Derived.Test.YtlmeagnegakifaaDoorAlong2
namespace Go.Proofs.YtlmeagnegakifaaDoor
open Go.RowKit
set_option linter.unusedVariables false

set_option maxRecDepth 100000 in
set_option maxHeartbeats 4000000 in
theorem print_core (a1 a2 a3 a4 a5 : Int) (t1 t2 t3 t4 t5 R : ByteArray) (P : World → Prop) (HP : Hid (∀ W w, P W → Below W.heap.size W w → P w)) (k3 : 0 ≤ a3) (k3' : a3 < 256) (k4 : 0 ≤ a4) (k4' : a4 < 65536) (k5 : 0 ≤ a5) (k5' : a5 < 65536)
    (C1 : Hid (∀ w, P w → Calls Tryd.prog 14 #[.int .u32 a1] w fun e w' => e = .returned (.string t1) ∧ Below w.heap.size w w'))
    (C2 : Hid (∀ w, P w → Calls Tryd.prog 14 #[.int .u32 a2] w fun e w' => e = .returned (.string t2) ∧ Below w.heap.size w w'))
    (C3 : Hid (∀ w, P w → Calls Tryd.prog 45 #[.int .i64 a3] w fun e w' => e = .returned (.string t3) ∧ Below w.heap.size w w'))
    (C4 : Hid (∀ w, P w → Calls Tryd.prog 45 #[.int .i64 a4] w fun e w' => e = .returned (.string t4) ∧ Below w.heap.size w w'))
    (C5 : Hid (∀ w, P w → Calls Tryd.prog 45 #[.int .i64 a5] w fun e w' => e = .returned (.string t5) ∧ Below w.heap.size w w'))
    (CJ : Hid (∀ w0 : World, Calls Tryd.prog 46 #[.slice (some ⟨w0.heap.size, 0, none⟩) 5 5, .string ⟨#[32]⟩] (w0.alloc (.cells #[.string t1, .string t2, .string t3, .string t4, .string t5] 9)) fun e w' => e = .returned (.string R) ∧ Below (w0.alloc (.cells #[.string t1, .string t2, .string t3, .string t4, .string t5] 9)).heap.size (w0.alloc (.cells #[.string t1, .string t2, .string t3, .string t4, .string t5] 9)) w'))
    (w : World) (hw0 : P w) :
    Calls Tryd.prog 11 #[hv a1 a2 a3 a4 a5] w fun e w' => e = .returned (.string R) ∧ Below w.heap.size w w' := by
  obtain ⟨W0, hW0⟩ : ∃ W0, w.alloc (Obj.cells #[.int .u32 a1, .int .u32 a2, .int .u8 a3, .int .u16 a4, .int .u16 a5] 25) = W0 := ⟨_, rfl⟩
  have za0 : W0.cell? ⟨w.heap.size, 0, none⟩ = some (.int .u32 a1) := by rw [← hW0]; simp [go_sem]
  have za1 : W0.cell? ⟨w.heap.size, 1, none⟩ = some (.int .u32 a2) := by rw [← hW0]; simp [go_sem]
  have za2 : W0.cell? ⟨w.heap.size, 2, none⟩ = some (.int .u8 a3) := by rw [← hW0]; simp [go_sem]
  have za3 : W0.cell? ⟨w.heap.size, 3, none⟩ = some (.int .u16 a4) := by rw [← hW0]; simp [go_sem]
  have za4 : W0.cell? ⟨w.heap.size, 4, none⟩ = some (.int .u16 a5) := by rw [← hW0]; simp [go_sem]
  have HB0 := Lib.hid (show Below w.heap.size w W0 by rw [← hW0]; exact below_al (Below.refl _ _) _)
  have hw := Lib.hid (HP.out _ _ hw0 HB0.out)
  clear hw0
  have e3 : IntKind.i64.wrap a3 = a3 := by rw [IntKind.wrap_i64]; omega
  have e4 : IntKind.i64.wrap a4 = a4 := by rw [IntKind.wrap_i64]; omega
  have e5 : IntKind.i64.wrap a5 = a5 := by rw [IntKind.wrap_i64]; omega
  go_enter Tryd.func11, Tryd.ntmps11
  go_upto_region 1 with fail
  clear hW0
  refine wp_region_noPanic ?_
  refine wp_region_along (S := fun w' => Below W0.heap.size W0 w' ∧ ∀ b o, (W0.cell? ⟨b, o, none⟩).isSome = true → w'.cell? ⟨b, o, none⟩ = W0.cell? ⟨b, o, none⟩) ([(0, true), (1, true), (3, true), (4, true), (6, true), (7, true), (8, true), (10, true), (11, true), (12, true), (14, true), (15, true), (16, true), (2, false), (5, false), (9, false)] ++ ([(13, false), (17, false), (18, false), (19, true)])) (by kernel_rfl) (by as_aux_lemma => kernel_rfl) (by kernel_rfl) (by kernel_rfl) (alongPre_append _ _ _ (by as_aux_lemma => kernel_rfl) (by as_aux_lemma => kernel_rfl)) (by as_aux_lemma => kernel_rfl) (fun _ _ _ _ _ h => h) (below_kb (Below.refl _ _).drew) (fun hH => ?_)
  simp only [List.cons_append, List.nil_append, stepsOf, pickOp]
  iterate 13 (first | (refine along_skip (by rfl) ?_; try simp only [Act.put, List.setIfInBounds_toArray, List.set_cons_zero, List.set_cons_succ]) | (refine along_pure ?_ (by rfl) (fun w hSw => ?_) ?_; rotate_left; ((try dsimp only at hSw); go_simp; try with_reducible rfl); try simp only [Act.put, List.setIfInBounds_toArray, List.set_cons_zero, List.set_cons_succ]))
  refine along_bar (fun K hK => ?_)
  go_simp
  refine (C1.out _ (HP.out _ _ hw.out hH.1)).mono ?_
  rintro e w' ⟨rfl, hbx⟩
  try go_wp2_with fail
  refine hK.out _ _ (below_kb (below_on hH.1 hbx)) (fun hH' => ?_)
  clear hK K hH
  have hH := hH'
  clear hH'
  clear hbx
  try simp only [Act.put, List.setIfInBounds_toArray, List.set_cons_zero, List.set_cons_succ]
  refine along_bar (fun K hK => ?_)
  go_simp
  refine (C2.out _ (HP.out _ _ hw.out hH.1)).mono ?_
  rintro e w' ⟨rfl, hbx⟩
  try go_wp2_with fail
  refine hK.out _ _ (below_kb (below_on hH.1 hbx)) (fun hH' => ?_)
  clear hK K hH
  have hH := hH'
  clear hH'
  clear hbx
  try simp only [Act.put, List.setIfInBounds_toArray, List.set_cons_zero, List.set_cons_succ]
  refine along_bar (fun K hK => ?_)
  go_simp
  refine (C3.out _ (HP.out _ _ hw.out hH.1)).mono ?_
  rintro e w' ⟨rfl, hbx⟩
  try go_wp2_with fail
  refine hK.out _ _ (below_kb (below_on hH.1 hbx)) (fun hH' => ?_)
  clear hK K hH
  have hH := hH'
  clear hH'
  clear hbx
  try simp only [Act.put, List.setIfInBounds_toArray, List.set_cons_zero, List.set_cons_succ]
  refine along_bar (fun K hK => ?_)
  go_simp
  refine (C4.out _ (HP.out _ _ hw.out hH.1)).mono ?_
  rintro e w' ⟨rfl, hbx⟩
  try go_wp2_with fail
  refine hK.out _ _ (below_kb (below_on hH.1 hbx)) (fun hH' => ?_)
  clear hK K hH
  have hH := hH'
  clear hH'
  clear hbx
  try simp only [Act.put, List.setIfInBounds_toArray, List.set_cons_zero, List.set_cons_succ]
  refine along_bar (fun K hK => ?_)
  go_simp
  refine (C5.out _ (HP.out _ _ hw.out hH.1)).mono ?_
  rintro e w' ⟨rfl, hbx⟩
  try go_wp2_with fail
  refine hK.out _ _ (below_kb (below_on hH.1 hbx)) (fun hH' => ?_)
  clear hK K hH
  have hH := hH'
  clear hH'
  clear hbx
  try simp only [Act.put, List.setIfInBounds_toArray, List.set_cons_zero, List.set_cons_succ]
  refine along_bar (fun K hK => ?_)
  go_simp
  refine hK.out _ _ (below_kb (below_al hH.1 _)) (fun hH' => ?_)
  clear hK K hH
  have hH := hH'
  clear hH'
  try simp only [Act.put, List.setIfInBounds_toArray, List.set_cons_zero, List.set_cons_succ]
  iterate 1 (first | (refine along_skip (by rfl) ?_; try simp only [Act.put, List.setIfInBounds_toArray, List.set_cons_zero, List.set_cons_succ]) | (refine along_pure ?_ (by rfl) (fun w hSw => ?_) ?_; rotate_left; ((try dsimp only at hSw); go_simp; try with_reducible rfl); try simp only [Act.put, List.setIfInBounds_toArray, List.set_cons_zero, List.set_cons_succ]))
  refine along_end (NoPanic.normal ?_)
  have HB1 := Lib.hid (below_on HB0.out hH.1)
  clear hH za0 za1 za2 za3 za4
  go_wp2_with fail
  refine (CJ.out _).mono ?_
  rintro e w2 ⟨rfl, hb2⟩
  have HB2 := Lib.hid (below_on HB1.out hb2)
  clear hb2
  go_wp2
  go_ret
  exact ⟨rfl, HB2.out⟩
set_option maxRecDepth 100000 in
set_option maxHeartbeats 4000000 in
theorem rprint_core (a1 a2 a3 a4 a5 : Int) (t1 t2 t3 t4 t5 R : ByteArray) (k3 : 0 ≤ a3) (k3' : a3 < 256) (k4 : 0 ≤ a4) (k4' : a4 < 65536) (k5 : 0 ≤ a5) (k5' : a5 < 65536) (s1 : t1.size ≤ 100) (s2 : t2.size ≤ 100) (s3 : t3.size ≤ 100) (s4 : t4.size ≤ 100) (s5 : t5.size ≤ 100)
    (C1 : Hid (∀ w, Calls Tryd.prog 17 #[.int .u32 a1] w fun e w' => e = .returned (.string t1) ∧ Below w.heap.size w w'))
    (C2 : Hid (∀ w, Calls Tryd.prog 17 #[.int .u32 a2] w fun e w' => e = .returned (.string t2) ∧ Below w.heap.size w w'))
    (C3 : Hid (∀ w, Calls Tryd.prog 51 #[.int .i64 a3] w fun e w' => e = .returned (.string t3) ∧ Below w.heap.size w w'))
    (C4 : Hid (∀ w, Calls Tryd.prog 51 #[.int .i64 a4] w fun e w' => e = .returned (.string t4) ∧ Below w.heap.size w w'))
    (C5 : Hid (∀ w, Calls Tryd.prog 51 #[.int .i64 a5] w fun e w' => e = .returned (.string t5) ∧ Below w.heap.size w w'))
    (hR : Hid (t1 ++ ⟨#[32]⟩ ++ t2 ++ ⟨#[32]⟩ ++ t3 ++ ⟨#[32]⟩ ++ t4 ++ ⟨#[32]⟩ ++ t5 = R)) (w : World) :
    Calls Tryd.prog 16 #[hv a1 a2 a3 a4 a5] w fun e w' => e = .returned (.string R) ∧ Below w.heap.size w w' := by
  obtain ⟨W0, hW0⟩ : ∃ W0, w.alloc (Obj.cells #[.int .u32 a1, .int .u32 a2, .int .u8 a3, .int .u16 a4, .int .u16 a5] 25) = W0 := ⟨_, rfl⟩
  have za0 : W0.cell? ⟨w.heap.size, 0, none⟩ = some (.int .u32 a1) := by rw [← hW0]; simp [go_sem]
  have za1 : W0.cell? ⟨w.heap.size, 1, none⟩ = some (.int .u32 a2) := by rw [← hW0]; simp [go_sem]
  have za2 : W0.cell? ⟨w.heap.size, 2, none⟩ = some (.int .u8 a3) := by rw [← hW0]; simp [go_sem]
  have za3 : W0.cell? ⟨w.heap.size, 3, none⟩ = some (.int .u16 a4) := by rw [← hW0]; simp [go_sem]
  have za4 : W0.cell? ⟨w.heap.size, 4, none⟩ = some (.int .u16 a5) := by rw [← hW0]; simp [go_sem]
  have HB0 := Lib.hid (show Below w.heap.size w W0 by rw [← hW0]; exact below_al (Below.refl _ _) _)
  have e3 : IntKind.i64.wrap a3 = a3 := by rw [IntKind.wrap_i64]; omega
  have e4 : IntKind.i64.wrap a4 = a4 := by rw [IntKind.wrap_i64]; omega
  have e5 : IntKind.i64.wrap a5 = a5 := by rw [IntKind.wrap_i64]; omega
  have c1 : ¬ 9223372036854775807 < t1.size + 1 := by omega
  have c2 : ¬ 9223372036854775807 < t1.size + 1 + t2.size := by omega
  have c3 : ¬ 9223372036854775807 < t1.size + 1 + t2.size + 1 := by omega
  have c4 : ¬ 9223372036854775807 < t1.size + 1 + t2.size + 1 + t3.size := by omega
  have c5 : ¬ 9223372036854775807 < t1.size + 1 + t2.size + 1 + t3.size + 1 := by omega
  have c6 : ¬ 9223372036854775807 < t1.size + 1 + t2.size + 1 + t3.size + 1 + t4.size := by omega
  have c7 : ¬ 9223372036854775807 < t1.size + 1 + t2.size + 1 + t3.size + 1 + t4.size + 1 := by omega
  have c8 : ¬ 9223372036854775807 < t1.size + 1 + t2.size + 1 + t3.size + 1 + t4.size + 1 + t5.size := by omega
  go_enter Tryd.func16, Tryd.ntmps16
  go_upto_region 1 with fail
  clear hW0
  refine wp_region_noPanic ?_
  refine wp_region_along (S := fun w' => Below W0.heap.size W0 w' ∧ ∀ b o, (W0.cell? ⟨b, o, none⟩).isSome = true → w'.cell? ⟨b, o, none⟩ = W0.cell? ⟨b, o, none⟩) ([(0, true), (1, true), (4, true), (5, true), (9, true), (10, true), (11, true), (15, true), (16, true), (17, true), (21, true), (22, true), (23, true), (2, false), (3, true), (6, false)] ++ ([(7, true), (8, true), (12, false), (13, true), (14, true), (18, false), (19, true), (20, true), (24, false), (25, true), (26, true)])) (by kernel_rfl) (by as_aux_lemma => kernel_rfl) (by kernel_rfl) (by kernel_rfl) (alongPre_append _ _ _ (by as_aux_lemma => kernel_rfl) (by as_aux_lemma => kernel_rfl)) (by as_aux_lemma => kernel_rfl) (fun _ _ _ _ _ h => h) (below_kb (Below.refl _ _).drew) (fun hH => ?_)
  simp only [List.cons_append, List.nil_append, stepsOf, pickOp]
  iterate 13 (first | (refine along_skip (by rfl) ?_; try simp only [Act.put, List.setIfInBounds_toArray, List.set_cons_zero, List.set_cons_succ]) | (refine along_pure ?_ (by rfl) (fun w hSw => ?_) ?_; rotate_left; ((try dsimp only at hSw); go_simp; try with_reducible rfl); try simp only [Act.put, List.setIfInBounds_toArray, List.set_cons_zero, List.set_cons_succ]))
  refine along_bar (fun K hK => ?_)
  go_simp
  refine (C1.out _).mono ?_
  rintro e w' ⟨rfl, hbx⟩
  try go_wp2_with fail
  refine hK.out _ _ (below_kb (below_on hH.1 hbx)) (fun hH' => ?_)
  clear hK K hH
  have hH := hH'
  clear hH'
  clear hbx
  try simp only [Act.put, List.setIfInBounds_toArray, List.set_cons_zero, List.set_cons_succ]
  iterate 1 (first | (refine along_skip (by rfl) ?_; try simp only [Act.put, List.setIfInBounds_toArray, List.set_cons_zero, List.set_cons_succ]) | (refine along_pure ?_ (by rfl) (fun w hSw => ?_) ?_; rotate_left; ((try dsimp only at hSw); go_simp; try with_reducible rfl); try simp only [Act.put, List.setIfInBounds_toArray, List.set_cons_zero, List.set_cons_succ]))
  refine along_bar (fun K hK => ?_)
  go_simp
  refine (C2.out _).mono ?_
  rintro e w' ⟨rfl, hbx⟩
  try go_wp2_with fail
  refine hK.out _ _ (below_kb (below_on hH.1 hbx)) (fun hH' => ?_)
  clear hK K hH
  have hH := hH'
  clear hH'
  clear hbx
  try simp only [Act.put, List.setIfInBounds_toArray, List.set_cons_zero, List.set_cons_succ]
  iterate 2 (first | (refine along_skip (by rfl) ?_; try simp only [Act.put, List.setIfInBounds_toArray, List.set_cons_zero, List.set_cons_succ]) | (refine along_pure ?_ (by rfl) (fun w hSw => ?_) ?_; rotate_left; ((try dsimp only at hSw); go_simp; try with_reducible rfl); try simp only [Act.put, List.setIfInBounds_toArray, List.set_cons_zero, List.set_cons_succ]))
  refine along_bar (fun K hK => ?_)
  go_simp
  refine (C3.out _).mono ?_
  rintro e w' ⟨rfl, hbx⟩
  try go_wp2_with fail
  refine hK.out _ _ (below_kb (below_on hH.1 hbx)) (fun hH' => ?_)
  clear hK K hH
  have hH := hH'
  clear hH'
  clear hbx
  try simp only [Act.put, List.setIfInBounds_toArray, List.set_cons_zero, List.set_cons_succ]
  iterate 2 (first | (refine along_skip (by rfl) ?_; try simp only [Act.put, List.setIfInBounds_toArray, List.set_cons_zero, List.set_cons_succ]) | (refine along_pure ?_ (by rfl) (fun w hSw => ?_) ?_; rotate_left; ((try dsimp only at hSw); go_simp; try with_reducible rfl); try simp only [Act.put, List.setIfInBounds_toArray, List.set_cons_zero, List.set_cons_succ]))
  refine along_bar (fun K hK => ?_)
  go_simp
  refine (C4.out _).mono ?_
  rintro e w' ⟨rfl, hbx⟩
  try go_wp2_with fail
  refine hK.out _ _ (below_kb (below_on hH.1 hbx)) (fun hH' => ?_)
  clear hK K hH
  have hH := hH'
  clear hH'
  clear hbx
  try simp only [Act.put, List.setIfInBounds_toArray, List.set_cons_zero, List.set_cons_succ]
  iterate 2 (first | (refine along_skip (by rfl) ?_; try simp only [Act.put, List.setIfInBounds_toArray, List.set_cons_zero, List.set_cons_succ]) | (refine along_pure ?_ (by rfl) (fun w hSw => ?_) ?_; rotate_left; ((try dsimp only at hSw); go_simp; try with_reducible rfl); try simp only [Act.put, List.setIfInBounds_toArray, List.set_cons_zero, List.set_cons_succ]))
  refine along_bar (fun K hK => ?_)
  go_simp
  refine (C5.out _).mono ?_
  rintro e w' ⟨rfl, hbx⟩
  try go_wp2_with fail
  refine hK.out _ _ (below_kb (below_on hH.1 hbx)) (fun hH' => ?_)
  clear hK K hH
  have hH := hH'
  clear hH'
  clear hbx
  try simp only [Act.put, List.setIfInBounds_toArray, List.set_cons_zero, List.set_cons_succ]
  iterate 2 (first | (refine along_skip (by rfl) ?_; try simp only [Act.put, List.setIfInBounds_toArray, List.set_cons_zero, List.set_cons_succ]) | (refine along_pure ?_ (by rfl) (fun w hSw => ?_) ?_; rotate_left; ((try dsimp only at hSw); go_simp; try with_reducible rfl); try simp only [Act.put, List.setIfInBounds_toArray, List.set_cons_zero, List.set_cons_succ]))
  refine along_end (NoPanic.normal ?_)
  have HB1 := Lib.hid (below_on HB0.out hH.1)
  clear hH za0 za1 za2 za3 za4
  go_wp2
  go_ret
  exact ⟨by rw [← hR.out]; rfl, HB1.out⟩
end Go.Proofs.YtlmeagnegakifaaDoor
