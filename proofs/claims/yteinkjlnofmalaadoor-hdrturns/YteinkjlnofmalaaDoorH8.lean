/- The walk of HdrTurns. -/
import Derived.Test.YteinkjlnofmalaaDoorH2
import Derived.Test.YteinkjlnofmalaaDoorH7
import Derived.Test.YteinkjlnofmalaaDoorAlong
namespace Go.Proofs.YteinkjlnofmalaaDoor
open Go.RowKit
set_option linter.unusedVariables false

theorem five_on {w w' : World} {b : Nat} {a1 a2 a3 a4 a5 : Value} (hb : Below w.heap.size w w') (h : w.cell? ⟨b, 0, none⟩ = some a1 ∧ w.cell? ⟨b, 1, none⟩ = some a2 ∧ w.cell? ⟨b, 2, none⟩ = some a3 ∧ w.cell? ⟨b, 3, none⟩ = some a4 ∧ w.cell? ⟨b, 4, none⟩ = some a5) :
    w'.cell? ⟨b, 0, none⟩ = some a1 ∧ w'.cell? ⟨b, 1, none⟩ = some a2 ∧ w'.cell? ⟨b, 2, none⟩ = some a3 ∧ w'.cell? ⟨b, 3, none⟩ = some a4 ∧ w'.cell? ⟨b, 4, none⟩ = some a5 := by
  obtain ⟨k, -⟩ := bsome hb
  obtain ⟨h1, h2, h3, h4, h5⟩ := h
  exact ⟨(k _ _ (by rw [h1]; rfl)).trans h1, (k _ _ (by rw [h2]; rfl)).trans h2, (k _ _ (by rw [h3]; rfl)).trans h3, (k _ _ (by rw [h4]; rfl)).trans h4, (k _ _ (by rw [h5]; rfl)).trans h5⟩
theorem five_set {w : World} {g : Nat} {u1 u2 u3 u4 u5 v1 v2 v3 v4 v5 : Value} (h1 : w.cell? ⟨g, 0, none⟩ = some u1) (h2 : w.cell? ⟨g, 1, none⟩ = some u2) (h3 : w.cell? ⟨g, 2, none⟩ = some u3) (h4 : w.cell? ⟨g, 3, none⟩ = some u4) (h5 : w.cell? ⟨g, 4, none⟩ = some u5) :
    (((((w.setCell ⟨g, 0, none⟩ v1).setCell ⟨g, 1, none⟩ v2).setCell ⟨g, 2, none⟩ v3).setCell ⟨g, 3, none⟩ v4).setCell ⟨g, 4, none⟩ v5).cell? ⟨g, 0, none⟩ = some v1 ∧
    (((((w.setCell ⟨g, 0, none⟩ v1).setCell ⟨g, 1, none⟩ v2).setCell ⟨g, 2, none⟩ v3).setCell ⟨g, 3, none⟩ v4).setCell ⟨g, 4, none⟩ v5).cell? ⟨g, 1, none⟩ = some v2 ∧
    (((((w.setCell ⟨g, 0, none⟩ v1).setCell ⟨g, 1, none⟩ v2).setCell ⟨g, 2, none⟩ v3).setCell ⟨g, 3, none⟩ v4).setCell ⟨g, 4, none⟩ v5).cell? ⟨g, 2, none⟩ = some v3 ∧
    (((((w.setCell ⟨g, 0, none⟩ v1).setCell ⟨g, 1, none⟩ v2).setCell ⟨g, 2, none⟩ v3).setCell ⟨g, 3, none⟩ v4).setCell ⟨g, 4, none⟩ v5).cell? ⟨g, 3, none⟩ = some v4 ∧
    (((((w.setCell ⟨g, 0, none⟩ v1).setCell ⟨g, 1, none⟩ v2).setCell ⟨g, 2, none⟩ v3).setCell ⟨g, 3, none⟩ v4).setCell ⟨g, 4, none⟩ v5).cell? ⟨g, 4, none⟩ = some v5 := by
  refine ⟨?_, ?_, ?_, ?_, ?_⟩
  · rw [World.cell?_setCell_other _ _ _ _ (by simp), World.cell?_setCell_other _ _ _ _ (by simp), World.cell?_setCell_other _ _ _ _ (by simp), World.cell?_setCell_other _ _ _ _ (by simp)]; exact World.cell?_setCell_same _ _ _ h1
  · rw [World.cell?_setCell_other _ _ _ _ (by simp), World.cell?_setCell_other _ _ _ _ (by simp), World.cell?_setCell_other _ _ _ _ (by simp)]; exact World.cell?_setCell_same _ _ _ (by rw [World.cell?_setCell_other _ _ _ _ (by simp)]; exact h2)
  · rw [World.cell?_setCell_other _ _ _ _ (by simp), World.cell?_setCell_other _ _ _ _ (by simp)]; exact World.cell?_setCell_same _ _ _ (by rw [World.cell?_setCell_other _ _ _ _ (by simp), World.cell?_setCell_other _ _ _ _ (by simp)]; exact h3)
  · rw [World.cell?_setCell_other _ _ _ _ (by simp)]; exact World.cell?_setCell_same _ _ _ (by rw [World.cell?_setCell_other _ _ _ _ (by simp), World.cell?_setCell_other _ _ _ _ (by simp), World.cell?_setCell_other _ _ _ _ (by simp)]; exact h4)
  · exact World.cell?_setCell_same _ _ _ (by rw [World.cell?_setCell_other _ _ _ _ (by simp), World.cell?_setCell_other _ _ _ _ (by simp), World.cell?_setCell_other _ _ _ _ (by simp), World.cell?_setCell_other _ _ _ _ (by simp)]; exact h5)
set_option maxRecDepth 100000 in
set_option maxHeartbeats 8000000 in
theorem turns_core (a1 a2 a3 a4 a5 b1 b2 b3 b4 b5 c1 c2 c3 c4 c5 t1 t2 t3 t4 t5 i k x y z r v : Int) (p np : Bool)
    (CX : Hid (∀ w, Calls Tryd.prog 10 #[hv a1 a2 a3 a4 a5, hv b1 b2 b3 b4 b5] w fun e w' => e = .returned (.int .i64 x) ∧ Below w.heap.size w w'))
    (CY : Hid (∀ w, Calls Tryd.prog 10 #[hv b1 b2 b3 b4 b5, hv c1 c2 c3 c4 c5] w fun e w' => e = .returned (.int .i64 y) ∧ Below w.heap.size w w'))
    (CZ : Hid (∀ w, Calls Tryd.prog 10 #[hv a1 a2 a3 a4 a5, hv c1 c2 c3 c4 c5] w fun e w' => e = .returned (.int .i64 z) ∧ Below w.heap.size w w'))
    (CR : Hid (∀ w, Calls Tryd.prog 10 #[hv b1 b2 b3 b4 b5, hv a1 a2 a3 a4 a5] w fun e w' => e = .returned (.int .i64 r) ∧ Below w.heap.size w w'))
    (CT : Hid (∀ w, Calls Tryd.prog 10 #[hv t1 t2 t3 t4 t5, hv a1 a2 a3 a4 a5] w fun e w' => e = .returned (.int .i64 v) ∧ Below w.heap.size w w'))
    (BA : Hid (∀ w, Calls Tryd.prog 9 #[hv a1 a2 a3 a4 a5, .int .i64 k] w fun e w' => e = .returned (.bool p) ∧ Below w.heap.size w w'))
    (BT : Hid (∀ w, Calls Tryd.prog 9 #[hv t1 t2 t3 t4 t5, .int .i64 k] w fun e w' => e = .returned (.bool np) ∧ Below w.heap.size w w'))
    (WA : Hid (∀ w, Calls Tryd.prog 13 #[hv a1 a2 a3 a4 a5, .int .i64 k, .bool np] w fun e w' => e = .returned (hv t1 t2 t3 t4 t5) ∧ Below w.heap.size w w'))
    (WT : Hid (∀ w, Calls Tryd.prog 13 #[hv t1 t2 t3 t4 t5, .int .i64 k, .bool p] w fun e w' => e = .returned (hv a1 a2 a3 a4 a5) ∧ Below w.heap.size w w'))
    (hk : i % 104 = k) (hi : 0 ≤ i) (hi' : i ≤ 255) (hnp : (!p) = np) (hv0 : Hid ((p = false → v = 1) ∧ (p = true → v = -1)))
    (hfin : Hid (r = -x ∧ -1 ≤ x ∧ x ≤ 1 ∧ (x = 0 → a1 = b1 ∧ a2 = b2 ∧ a3 = b3 ∧ a4 = b4 ∧ a5 = b5) ∧ (a1 = b1 ∧ a2 = b2 ∧ a3 = b3 ∧ a4 = b4 ∧ a5 = b5 → x = 0) ∧ (0 < x ∨ 0 < y ∨ z ≤ 0)))
    (w : World) :
    Calls Tryd.prog 6 #[hv a1 a2 a3 a4 a5, hv b1 b2 b3 b4 b5, hv c1 c2 c3 c4 c5, .int .u8 i] w fun e w' => e = .returned (.bool true) ∧ Below w.heap.size w w' := by
  obtain ⟨W0, hW0⟩ : ∃ W0, ((w.alloc (Obj.cells #[.int .u32 a1, .int .u32 a2, .int .u8 a3, .int .u16 a4, .int .u16 a5] 25)).alloc (Obj.cells #[.int .u32 b1, .int .u32 b2, .int .u8 b3, .int .u16 b4, .int .u16 b5] 25)).alloc (Obj.cells #[.int .u32 c1, .int .u32 c2, .int .u8 c3, .int .u16 c4, .int .u16 c5] 25) = W0 := ⟨_, rfl⟩
  have za0 : W0.cell? ⟨w.heap.size, 0, none⟩ = some (.int .u32 a1) := by rw [← hW0]; simp [go_sem]
  have za1 : W0.cell? ⟨w.heap.size, 1, none⟩ = some (.int .u32 a2) := by rw [← hW0]; simp [go_sem]
  have za2 : W0.cell? ⟨w.heap.size, 2, none⟩ = some (.int .u8 a3) := by rw [← hW0]; simp [go_sem]
  have za3 : W0.cell? ⟨w.heap.size, 3, none⟩ = some (.int .u16 a4) := by rw [← hW0]; simp [go_sem]
  have za4 : W0.cell? ⟨w.heap.size, 4, none⟩ = some (.int .u16 a5) := by rw [← hW0]; simp [go_sem]
  have zb0 : W0.cell? ⟨w.heap.size + 1, 0, none⟩ = some (.int .u32 b1) := by rw [← hW0]; simp [go_sem]
  have zb1 : W0.cell? ⟨w.heap.size + 1, 1, none⟩ = some (.int .u32 b2) := by rw [← hW0]; simp [go_sem]
  have zb2 : W0.cell? ⟨w.heap.size + 1, 2, none⟩ = some (.int .u8 b3) := by rw [← hW0]; simp [go_sem]
  have zb3 : W0.cell? ⟨w.heap.size + 1, 3, none⟩ = some (.int .u16 b4) := by rw [← hW0]; simp [go_sem]
  have zb4 : W0.cell? ⟨w.heap.size + 1, 4, none⟩ = some (.int .u16 b5) := by rw [← hW0]; simp [go_sem]
  have zc0 : W0.cell? ⟨w.heap.size + 1 + 1, 0, none⟩ = some (.int .u32 c1) := by rw [← hW0]; simp [go_sem]
  have zc1 : W0.cell? ⟨w.heap.size + 1 + 1, 1, none⟩ = some (.int .u32 c2) := by rw [← hW0]; simp [go_sem]
  have zc2 : W0.cell? ⟨w.heap.size + 1 + 1, 2, none⟩ = some (.int .u8 c3) := by rw [← hW0]; simp [go_sem]
  have zc3 : W0.cell? ⟨w.heap.size + 1 + 1, 3, none⟩ = some (.int .u16 c4) := by rw [← hW0]; simp [go_sem]
  have zc4 : W0.cell? ⟨w.heap.size + 1 + 1, 4, none⟩ = some (.int .u16 c5) := by rw [← hW0]; simp [go_sem]
  have hB0 : Below w.heap.size w W0 := by rw [← hW0]; exact below_al (below_al (below_al (Below.refl _ _) _) _) _
  have HB0 := Lib.hid hB0
  clear hB0
  go_enter Tryd.func6, Tryd.ntmps6
  go_upto_region 1 with fail
  clear hW0
  refine wp_region_noPanic ?_
  refine wp_region_along (S := fun w' => Below W0.heap.size W0 w' ∧ ∀ b o, (W0.cell? ⟨b, o, none⟩).isSome = true → w'.cell? ⟨b, o, none⟩ = W0.cell? ⟨b, o, none⟩) ([(0, true), (1, true), (3, true), (4, true), (6, true), (7, true), (2, false), (5, false), (8, false), (9, true), (10, true), (11, true)]) (by kernel_rfl) (by as_aux_lemma => kernel_rfl) (by kernel_rfl) (by kernel_rfl) (by as_aux_lemma => kernel_rfl) (by as_aux_lemma => kernel_rfl) (fun _ _ _ _ _ h => h) (below_kb (Below.refl _ _).drew) (fun hH => ?_)
  simp only [stepsOf, pickOp]
  refine along_pure ?_ (by rfl) (fun w hSw => ?_) ?_
  rotate_left
  · (try dsimp only at hSw); go_simp; try with_reducible rfl
  try simp only [Act.put, List.setIfInBounds_toArray, List.set_cons_zero, List.set_cons_succ]
  refine along_pure ?_ (by rfl) (fun w hSw => ?_) ?_
  rotate_left
  · (try dsimp only at hSw); go_simp; try with_reducible rfl
  try simp only [Act.put, List.setIfInBounds_toArray, List.set_cons_zero, List.set_cons_succ]
  refine along_pure ?_ (by rfl) (fun w hSw => ?_) ?_
  rotate_left
  · (try dsimp only at hSw); go_simp; try with_reducible rfl
  try simp only [Act.put, List.setIfInBounds_toArray, List.set_cons_zero, List.set_cons_succ]
  refine along_pure ?_ (by rfl) (fun w hSw => ?_) ?_
  rotate_left
  · (try dsimp only at hSw); go_simp; try with_reducible rfl
  try simp only [Act.put, List.setIfInBounds_toArray, List.set_cons_zero, List.set_cons_succ]
  refine along_pure ?_ (by rfl) (fun w hSw => ?_) ?_
  rotate_left
  · (try dsimp only at hSw); go_simp; try with_reducible rfl
  try simp only [Act.put, List.setIfInBounds_toArray, List.set_cons_zero, List.set_cons_succ]
  refine along_pure ?_ (by rfl) (fun w hSw => ?_) ?_
  rotate_left
  · (try dsimp only at hSw); go_simp; try with_reducible rfl
  try simp only [Act.put, List.setIfInBounds_toArray, List.set_cons_zero, List.set_cons_succ]
  refine along_bar (fun K hK => ?_)
  go_simp
  refine (CX.out _).mono ?_
  rintro e w' ⟨rfl, hbx⟩
  try go_wp2_with fail
  refine hK.out _ _ (below_kb (below_on hH.1 hbx)) (fun hH' => ?_)
  clear hK K hH
  have hH := hH'
  clear hH'
  clear hbx
  try simp only [Act.put, List.setIfInBounds_toArray, List.set_cons_zero, List.set_cons_succ]
  refine along_bar (fun K hK => ?_)
  go_simp
  refine (CY.out _).mono ?_
  rintro e w' ⟨rfl, hbx⟩
  try go_wp2_with fail
  refine hK.out _ _ (below_kb (below_on hH.1 hbx)) (fun hH' => ?_)
  clear hK K hH
  have hH := hH'
  clear hH'
  clear hbx
  try simp only [Act.put, List.setIfInBounds_toArray, List.set_cons_zero, List.set_cons_succ]
  refine along_bar (fun K hK => ?_)
  go_simp
  refine (CZ.out _).mono ?_
  rintro e w' ⟨rfl, hbx⟩
  try go_wp2_with fail
  refine hK.out _ _ (below_kb (below_on hH.1 hbx)) (fun hH' => ?_)
  clear hK K hH
  have hH := hH'
  clear hH'
  clear hbx
  try simp only [Act.put, List.setIfInBounds_toArray, List.set_cons_zero, List.set_cons_succ]
  refine along_pure ?_ (by rfl) (fun w hSw => ?_) ?_
  rotate_left
  · (try dsimp only at hSw); go_simp; try with_reducible rfl
  try simp only [Act.put, List.setIfInBounds_toArray, List.set_cons_zero, List.set_cons_succ]
  refine along_pure ?_ (by rfl) (fun w hSw => ?_) ?_
  rotate_left
  · (try dsimp only at hSw); go_simp; try with_reducible rfl
  try simp only [Act.put, List.setIfInBounds_toArray, List.set_cons_zero, List.set_cons_succ]
  refine along_pure ?_ (by rfl) (fun w hSw => ?_) ?_
  rotate_left
  · (try dsimp only at hSw); go_simp; try with_reducible rfl
  try simp only [Act.put, List.setIfInBounds_toArray, List.set_cons_zero, List.set_cons_succ]
  refine along_end (NoPanic.normal ?_)
  have HB1 := Lib.hid (below_on HB0.out hH.1)
  have fa := five_on hH.1 ⟨za0, za1, za2, za3, za4⟩
  have fb := five_on hH.1 ⟨zb0, zb1, zb2, zb3, zb4⟩
  clear hH za0 za1 za2 za3 za4 zb0 zb1 zb2 zb3 zb4 zc0 zc1 zc2 zc3 zc4 HB0
  have FA := Lib.hid fa
  have FB := Lib.hid fb
  clear fa fb
  obtain ⟨W1, rfl⟩ : ∃ W1 : World, W1 = w' := ⟨_, rfl⟩
  go_upto_region 3 with fail
  obtain ⟨za0, za1, za2, za3, za4⟩ := FA.out
  go_cut [13] (fun u wx => ∃ g : Nat, u = .pointer (some ⟨g, 0, none⟩) ∧ Below W1.heap.size W1 wx ∧ (wx.cell? ⟨g, 0, none⟩ = some (.int .u32 t1) ∧ wx.cell? ⟨g, 1, none⟩ = some (.int .u32 t2) ∧ wx.cell? ⟨g, 2, none⟩ = some (.int .u8 t3) ∧ wx.cell? ⟨g, 3, none⟩ = some (.int .u16 t4) ∧ wx.cell? ⟨g, 4, none⟩ = some (.int .u16 t5)))
  case first =>
   as_aux_lemma =>
    go_region_held3 (fun w' => Below W1.heap.size W1 w' ∧ ∀ b o, (W1.cell? ⟨b, o, none⟩).isSome = true → w'.cell? ⟨b, o, none⟩ = W1.cell? ⟨b, o, none⟩)
      ((refine below_kb ?_; repeat (first | exact Below.refl _ _ | assumption | exact And.left (by assumption) | refine Below.drew ?_ | refine below_al ?_ _ | (refine Below.setCell ?_ (by first | omega | (simp; done) | (simp; omega)) _) | refine below_on ?_ (by assumption))))
      (first | (go_at_call 9; with_reducible refine (BA.out _).mono ?_; rintro e w' ⟨rfl, hbt⟩; obtain ⟨kc, kf⟩ := bsome hbt; have sz : W1.heap.size ≤ w'.heap.size := by first | exact hbt.size | (have h := hbt.size; simp at h; omega)) | (go_at_call 13; with_reducible refine (WA.out _).mono ?_; rintro e w' ⟨rfl, hbw⟩; obtain ⟨kc', kf'⟩ := bsome hbw; have sz' := hbw.size))
    all_goals (rename_i hH; have HB := Lib.hid hH.1; clear hH; go_wp2_with fail; go_meet)
    all_goals first
      | exact ⟨_, rfl, HB.out, by simp [go_sem], by simp [go_sem], by simp [go_sem], by simp [go_sem], by simp [go_sem]⟩
      | exact ⟨_, rfl, HB.out, five_set (u1 := .int .u32 0) (u2 := .int .u32 0) (u3 := .int .u8 0) (u4 := .int .u16 0) (u5 := .int .u16 0) ((hbw.cell (p := ⟨_, 0, none⟩) (by simp)).trans (by simp [go_sem]; done)) ((hbw.cell (p := ⟨_, 1, none⟩) (by simp)).trans (by simp [go_sem]; done)) ((hbw.cell (p := ⟨_, 2, none⟩) (by simp)).trans (by simp [go_sem]; done)) ((hbw.cell (p := ⟨_, 3, none⟩) (by simp)).trans (by simp [go_sem]; done)) ((hbw.cell (p := ⟨_, 4, none⟩) (by simp)).trans (by simp [go_sem]; done))⟩
      | exact ⟨_, rfl, HB.out, five_set (u1 := .int .u32 0) (u2 := .int .u32 0) (u3 := .int .u8 0) (u4 := .int .u16 0) (u5 := .int .u16 0) ((hbw.cell (p := ⟨_, 0, none⟩) (by have h := hbt.size; simp at h; first | omega | (simp; omega))).trans ((hbt.cell (p := ⟨_, 0, none⟩) (by simp)).trans (by simp [go_sem]; done))) ((hbw.cell (p := ⟨_, 1, none⟩) (by have h := hbt.size; simp at h; first | omega | (simp; omega))).trans ((hbt.cell (p := ⟨_, 1, none⟩) (by simp)).trans (by simp [go_sem]; done))) ((hbw.cell (p := ⟨_, 2, none⟩) (by have h := hbt.size; simp at h; first | omega | (simp; omega))).trans ((hbt.cell (p := ⟨_, 2, none⟩) (by simp)).trans (by simp [go_sem]; done))) ((hbw.cell (p := ⟨_, 3, none⟩) (by have h := hbt.size; simp at h; first | omega | (simp; omega))).trans ((hbt.cell (p := ⟨_, 3, none⟩) (by simp)).trans (by simp [go_sem]; done))) ((hbw.cell (p := ⟨_, 4, none⟩) (by have h := hbt.size; simp at h; first | omega | (simp; omega))).trans ((hbt.cell (p := ⟨_, 4, none⟩) (by simp)).trans (by simp [go_sem]; done)))⟩
  case rest =>
    obtain ⟨g, rfl, hbx, ft⟩ := hcut
    clear za0 za1 za2 za3 za4
    have FA2 := Lib.hid (five_on hbx FA.out)
    have FB2 := Lib.hid (five_on hbx FB.out)
    have FT2 := Lib.hid ft
    have HB2 := Lib.hid (below_on HB1.out hbx)
    clear FA FB ft HB1 hbx
    obtain ⟨W2, rfl⟩ : ∃ W2 : World, W2 = wc := ⟨_, rfl⟩
    cases p
    all_goals cases np
    · cases hnp
    rotate_left
    rotate_left
    · cases hnp
    all_goals (first | have hv' := hv0.out.1 rfl | have hv' := hv0.out.2 rfl)
    all_goals subst hv'
    all_goals
      obtain ⟨za0, za1, za2, za3, za4⟩ := FA2.out
      obtain ⟨zt0, zt1, zt2, zt3, zt4⟩ := FT2.out
      go_upto_region 4 with fail
      refine wp_region_noPanic ?_
      refine wp_region_along (S := fun w' => Below W2.heap.size W2 w' ∧ ∀ b o, (W2.cell? ⟨b, o, none⟩).isSome = true → w'.cell? ⟨b, o, none⟩ = W2.cell? ⟨b, o, none⟩) ([(0, true), (1, true), (3, true), (4, true), (2, false), (5, false), (6, true), (7, true), (8, true), (9, true), (10, true), (11, true), (14, true), (12, false), (13, false), (15, true)] ++ ([(16, true), (17, true), (18, true), (19, true), (20, false), (21, true), (22, true), (23, true), (24, true), (25, true), (28, true), (29, true), (26, false), (27, true), (30, false), (31, true)] ++ ([(32, true)]))) (by kernel_rfl) (by as_aux_lemma => kernel_rfl) (by kernel_rfl) (by kernel_rfl) (alongPre_append _ _ _ (by as_aux_lemma => kernel_rfl) (alongPre_append _ _ _ (by as_aux_lemma => kernel_rfl) (by as_aux_lemma => kernel_rfl))) (by as_aux_lemma => kernel_rfl) (fun _ _ _ _ _ h => h) (below_kb (Below.refl _ _).drew) (fun hH => ?_)
      simp only [List.cons_append, List.nil_append, stepsOf, pickOp]
      refine along_pure ?_ (by rfl) (fun w hSw => ?_) ?_
      rotate_left
      · (try dsimp only at hSw); go_simp; try with_reducible rfl
      try simp only [Act.put, List.setIfInBounds_toArray, List.set_cons_zero, List.set_cons_succ]
      refine along_pure ?_ (by rfl) (fun w hSw => ?_) ?_
      rotate_left
      · (try dsimp only at hSw); go_simp; try with_reducible rfl
      try simp only [Act.put, List.setIfInBounds_toArray, List.set_cons_zero, List.set_cons_succ]
      refine along_pure ?_ (by rfl) (fun w hSw => ?_) ?_
      rotate_left
      · (try dsimp only at hSw); go_simp; try with_reducible rfl
      try simp only [Act.put, List.setIfInBounds_toArray, List.set_cons_zero, List.set_cons_succ]
      refine along_pure ?_ (by rfl) (fun w hSw => ?_) ?_
      rotate_left
      · (try dsimp only at hSw); go_simp; try with_reducible rfl
      try simp only [Act.put, List.setIfInBounds_toArray, List.set_cons_zero, List.set_cons_succ]
      refine along_bar (fun K hK => ?_)
      go_simp
      refine (BT.out _).mono ?_
      rintro e w' ⟨rfl, hbx⟩
      try go_wp2_with fail
      refine hK.out _ _ (below_kb (below_on hH.1 hbx)) (fun hH' => ?_)
      clear hK K hH
      have hH := hH'
      clear hH'
      clear hbx
      try simp only [Act.put, List.setIfInBounds_toArray, List.set_cons_zero, List.set_cons_succ]
      refine along_bar (fun K hK => ?_)
      go_simp
      refine (BA.out _).mono ?_
      rintro e w' ⟨rfl, hbx⟩
      try go_wp2_with fail
      refine hK.out _ _ (below_kb (below_on hH.1 hbx)) (fun hH' => ?_)
      clear hK K hH
      have hH := hH'
      clear hH'
      clear hbx
      try simp only [Act.put, List.setIfInBounds_toArray, List.set_cons_zero, List.set_cons_succ]
      refine along_pure ?_ (by rfl) (fun w hSw => ?_) ?_
      rotate_left
      · (try dsimp only at hSw); go_simp; try with_reducible rfl
      try simp only [Act.put, List.setIfInBounds_toArray, List.set_cons_zero, List.set_cons_succ]
      refine along_pure ?_ (by rfl) (fun w hSw => ?_) ?_
      rotate_left
      · (try dsimp only at hSw); go_simp; try with_reducible rfl
      try simp only [Act.put, List.setIfInBounds_toArray, List.set_cons_zero, List.set_cons_succ]
      refine along_pure ?_ (by rfl) (fun w hSw => ?_) ?_
      rotate_left
      · (try dsimp only at hSw); go_simp; try with_reducible rfl
      try simp only [Act.put, List.setIfInBounds_toArray, List.set_cons_zero, List.set_cons_succ]
      refine along_pure ?_ (by rfl) (fun w hSw => ?_) ?_
      rotate_left
      · (try dsimp only at hSw); go_simp; try with_reducible rfl
      try simp only [Act.put, List.setIfInBounds_toArray, List.set_cons_zero, List.set_cons_succ]
      refine along_pure ?_ (by rfl) (fun w hSw => ?_) ?_
      rotate_left
      · (try dsimp only at hSw); go_simp; try with_reducible rfl
      try simp only [Act.put, List.setIfInBounds_toArray, List.set_cons_zero, List.set_cons_succ]
      refine along_pure ?_ (by rfl) (fun w hSw => ?_) ?_
      rotate_left
      · (try dsimp only at hSw); go_simp; try with_reducible rfl
      try simp only [Act.put, List.setIfInBounds_toArray, List.set_cons_zero, List.set_cons_succ]
      refine along_pure ?_ (by rfl) (fun w hSw => ?_) ?_
      rotate_left
      · (try dsimp only at hSw); go_simp; try with_reducible rfl
      try simp only [Act.put, List.setIfInBounds_toArray, List.set_cons_zero, List.set_cons_succ]
      refine along_bar (fun K hK => ?_)
      go_simp
      refine (BA.out _).mono ?_
      rintro e w' ⟨rfl, hbx⟩
      try go_wp2_with fail
      refine hK.out _ _ (below_kb (below_on hH.1 hbx)) (fun hH' => ?_)
      clear hK K hH
      have hH := hH'
      clear hH'
      clear hbx
      try simp only [Act.put, List.setIfInBounds_toArray, List.set_cons_zero, List.set_cons_succ]
      refine along_bar (fun K hK => ?_)
      go_simp
      refine (WT.out _).mono ?_
      rintro e w' ⟨rfl, hbx⟩
      try go_wp2_with fail
      refine hK.out _ _ (below_kb (below_on hH.1 hbx)) (fun hH' => ?_)
      clear hK K hH
      have hH := hH'
      clear hH'
      clear hbx
      try simp only [Act.put, List.setIfInBounds_toArray, List.set_cons_zero, List.set_cons_succ]
      refine along_pure ?_ (by rfl) (fun w hSw => ?_) ?_
      rotate_left
      · (try dsimp only at hSw); go_simp; try with_reducible rfl
      try simp only [Act.put, List.setIfInBounds_toArray, List.set_cons_zero, List.set_cons_succ]
      refine along_pure ?_ (by rfl) (fun w hSw => ?_) ?_
      rotate_left
      · (try dsimp only at hSw); go_simp; try with_reducible rfl
      try simp only [Act.put, List.setIfInBounds_toArray, List.set_cons_zero, List.set_cons_succ]
      refine along_pure ?_ (by rfl) (fun w hSw => ?_) ?_
      rotate_left
      · (try dsimp only at hSw); go_simp; try with_reducible rfl
      try simp only [Act.put, List.setIfInBounds_toArray, List.set_cons_zero, List.set_cons_succ]
      refine along_pure ?_ (by rfl) (fun w hSw => ?_) ?_
      rotate_left
      · (try dsimp only at hSw); go_simp; try with_reducible rfl
      try simp only [Act.put, List.setIfInBounds_toArray, List.set_cons_zero, List.set_cons_succ]
      refine along_pure ?_ (by rfl) (fun w hSw => ?_) ?_
      rotate_left
      · (try dsimp only at hSw); go_simp; try with_reducible rfl
      try simp only [Act.put, List.setIfInBounds_toArray, List.set_cons_zero, List.set_cons_succ]
      refine along_bar (fun K hK => ?_)
      go_simp
      refine (CT.out _).mono ?_
      rintro e w' ⟨rfl, hbx⟩
      try go_wp2_with fail
      refine hK.out _ _ (below_kb (below_on hH.1 hbx)) (fun hH' => ?_)
      clear hK K hH
      have hH := hH'
      clear hH'
      clear hbx
      try simp only [Act.put, List.setIfInBounds_toArray, List.set_cons_zero, List.set_cons_succ]
      refine along_pure ?_ (by rfl) (fun w hSw => ?_) ?_
      rotate_left
      · (try dsimp only at hSw); go_simp; try with_reducible rfl
      try simp only [Act.put, List.setIfInBounds_toArray, List.set_cons_zero, List.set_cons_succ]
      refine along_pure ?_ (by rfl) (fun w hSw => ?_) ?_
      rotate_left
      · (try dsimp only at hSw); go_simp; try with_reducible rfl
      try simp only [Act.put, List.setIfInBounds_toArray, List.set_cons_zero, List.set_cons_succ]
      refine along_pure ?_ (by rfl) (fun w hSw => ?_) ?_
      rotate_left
      · (try dsimp only at hSw); go_simp; try with_reducible rfl
      try simp only [Act.put, List.setIfInBounds_toArray, List.set_cons_zero, List.set_cons_succ]
      refine along_pure ?_ (by rfl) (fun w hSw => ?_) ?_
      rotate_left
      · (try dsimp only at hSw); go_simp; try with_reducible rfl
      try simp only [Act.put, List.setIfInBounds_toArray, List.set_cons_zero, List.set_cons_succ]
      refine along_pure ?_ (by rfl) (fun w hSw => ?_) ?_
      rotate_left
      · (try dsimp only at hSw); go_simp; try with_reducible rfl
      try simp only [Act.put, List.setIfInBounds_toArray, List.set_cons_zero, List.set_cons_succ]
      refine along_pure ?_ (by rfl) (fun w hSw => ?_) ?_
      rotate_left
      · (try dsimp only at hSw); go_simp; try with_reducible rfl
      try simp only [Act.put, List.setIfInBounds_toArray, List.set_cons_zero, List.set_cons_succ]
      refine along_pure ?_ (by rfl) (fun w hSw => ?_) ?_
      rotate_left
      · (try dsimp only at hSw); go_simp; try with_reducible rfl
      try simp only [Act.put, List.setIfInBounds_toArray, List.set_cons_zero, List.set_cons_succ]
      refine along_bar (fun K hK => ?_)
      go_simp
      refine (CT.out _).mono ?_
      rintro e w' ⟨rfl, hbx⟩
      try go_wp2_with fail
      refine hK.out _ _ (below_kb (below_on hH.1 hbx)) (fun hH' => ?_)
      clear hK K hH
      have hH := hH'
      clear hH'
      clear hbx
      try simp only [Act.put, List.setIfInBounds_toArray, List.set_cons_zero, List.set_cons_succ]
      refine along_pure ?_ (by rfl) (fun w hSw => ?_) ?_
      rotate_left
      · (try dsimp only at hSw); go_simp; try with_reducible rfl
      try simp only [Act.put, List.setIfInBounds_toArray, List.set_cons_zero, List.set_cons_succ]
      refine along_bar (fun K hK => ?_)
      go_simp
      refine (BT.out _).mono ?_
      rintro e w' ⟨rfl, hbx⟩
      try go_wp2_with fail
      refine hK.out _ _ (below_kb (below_on hH.1 hbx)) (fun hH' => ?_)
      clear hK K hH
      have hH := hH'
      clear hH'
      clear hbx
      try simp only [Act.put, List.setIfInBounds_toArray, List.set_cons_zero, List.set_cons_succ]
      refine along_pure ?_ (by rfl) (fun w hSw => ?_) ?_
      rotate_left
      · (try dsimp only at hSw); go_simp; try with_reducible rfl
      try simp only [Act.put, List.setIfInBounds_toArray, List.set_cons_zero, List.set_cons_succ]
      refine along_pure ?_ (by rfl) (fun w hSw => ?_) ?_
      rotate_left
      · (try dsimp only at hSw); go_simp; try with_reducible rfl
      try simp only [Act.put, List.setIfInBounds_toArray, List.set_cons_zero, List.set_cons_succ]
      refine along_end (NoPanic.normal ?_)
      have HB3 := Lib.hid (below_on HB2.out hH.1)
      have FA3 := Lib.hid (five_on hH.1 FA2.out)
      have FB3 := Lib.hid (five_on hH.1 FB2.out)
      clear hH FA2 FB2 FT2 HB2 za0 za1 za2 za3 za4 zt0 zt1 zt2 zt3 zt4
      go_wp2_with fail
      refine (awake_any _).mono ?_
      rintro e w3 ⟨rfl, hb3⟩
      have FA4 := Lib.hid (five_on hb3 FA3.out)
      have FB4 := Lib.hid (five_on hb3 FB3.out)
      have HB4 := Lib.hid (below_on HB3.out hb3)
      clear hb3 FA3 FB3 HB3
      obtain ⟨za0, za1, za2, za3, za4⟩ := FA4.out
      obtain ⟨zb0, zb1, zb2, zb3, zb4⟩ := FB4.out
      go_wp2_with fail
      refine (CR.out _).mono ?_
      rintro e w4 ⟨rfl, hb4⟩
      have HB5 := Lib.hid (below_on HB4.out hb4)
      have fa := five_on hb4 FA4.out
      have fb := five_on hb4 FB4.out
      clear za0 za1 za2 za3 za4 zb0 zb1 zb2 zb3 zb4 hb4 FA4 FB4 HB4 CX CY CZ CR CT BA BT WA WT
      obtain ⟨za0, za1, za2, za3, za4⟩ := fa
      obtain ⟨zb0, zb1, zb2, zb3, zb4⟩ := fb
      obtain ⟨hr1, hr2, hr3, hr4, hr6, hr5⟩ := hfin.out
      subst hr1
      by_cases c0 : x = 0
      · obtain ⟨rfl, rfl, rfl, rfl, rfl⟩ := hr4 c0
        subst c0
        go_wp2
        all_goals go_ret
        all_goals exact ⟨ret_bool (by simp <;> omega), HB5.out⟩
      · have c1 : (x == 0) = false := by simp; exact c0
        go_wp2
        all_goals go_ret
        all_goals exact ⟨ret_bool (by first | rfl | (simp; omega)), HB5.out⟩
end Go.Proofs.YteinkjlnofmalaaDoor
