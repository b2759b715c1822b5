/- The walk of HdrBits. -/
import Derived.Test.YtijfohoaeacncaaDoorH2
import Derived.Test.YtijfohoaeacncaaDoorH14
import Derived.Test.YtijfohoaeacncaaDoorAlong2
import Derived.BigQuiet
import Derived.Deep.QuietTactic
namespace Go.Proofs.YtijfohoaeacncaaDoor
open Go.RowKit
set_option linter.unusedVariables false

/-- Block g holds these 104 bits. -/
def Row (w : World) (g : Nat) (T : Nat → Bool) : Prop := ∀ j, j < 104 → w.cell? ⟨g, j, none⟩ = some (.bool (T j)) ∧ w.frozen? ⟨g, j, none⟩ = false
theorem Row.lt {w : World} {g : Nat} {T : Nat → Bool} (h : Row w g T) : g < w.heap.size := cell_lt (o := 0) (by rw [(h 0 (by omega)).1]; rfl)
theorem Row.on {w w' : World} {g : Nat} {T : Nat → Bool} (h : Row w g T) (hb : Below w.heap.size w w') : Row w' g T := fun j hj =>
  ⟨(hb.cell (p := ⟨g, j, none⟩) h.lt).trans (h j hj).1, (hb.frozen (p := ⟨g, j, none⟩) h.lt).trans (h j hj).2⟩
def upd (T : Nat → Bool) (i : Nat) (t : Bool) : Nat → Bool := fun j => if j = i then t else T j
theorem Row.set {w : World} {g : Nat} {T : Nat → Bool} (h : Row w g T) (i : Nat) (hi : i < 104) (t : Bool) : Row (w.setCell ⟨g, i, none⟩ (.bool t)) g (upd T i t) := fun j hj => by
  refine ⟨?_, by simp [(h j hj).2]⟩
  unfold upd
  by_cases e : j = i
  · subst e; rw [if_pos rfl]; exact World.cell?_setCell_same _ _ _ (h j hj).1
  · rw [if_neg e, World.cell?_setCell_other _ _ _ _ (by first | (simp; done) | (simp; omega) | (intro h0; injection h0 with _ h1; omega))]; exact (h j hj).1
theorem row_of {w : World} {base : Nat} {v : Value} {X : List Value} {T : Nat → Bool} (hX : ∀ j, j < 104 → X[j]? = some (.bool (T j))) (h : w.ownsRow base 4 1 v 104 X) :
    ∃ g cap, v = .slice (some ⟨g, 0, none⟩) 104 cap ∧ base ≤ g ∧ Row w g T := by
  have hh := h
  obtain ⟨h1, ⟨h2, h3⟩ | ⟨g, cap, cur, h2, h3, h4, h5, h6, h7, h8⟩⟩ := h
  · omega
  · subst h2
    refine ⟨g, cap, rfl, h3, fun j hj => ⟨(World.ownsRow.cellAt hh j (by omega)).trans (hX j hj), by simp [World.frozen?, h4]⟩⟩
theorem below_drewN2 {B : Nat} {W w : World} (h : Below B W w) (n : Nat) : Below B W (w.drewN n) := ⟨h.os, h.tape, h.output, h.size, h.block⟩
theorem five_keep {w w' : World} {b : Nat} {u1 u2 u3 u4 u5 : Value} (hb : Below w.heap.size w w') (h : w.cell? ⟨b, 0, none⟩ = some u1 ∧ w.cell? ⟨b, 1, none⟩ = some u2 ∧ w.cell? ⟨b, 2, none⟩ = some u3 ∧ w.cell? ⟨b, 3, none⟩ = some u4 ∧ w.cell? ⟨b, 4, none⟩ = some u5) :
    w'.cell? ⟨b, 0, none⟩ = some u1 ∧ w'.cell? ⟨b, 1, none⟩ = some u2 ∧ w'.cell? ⟨b, 2, none⟩ = some u3 ∧ w'.cell? ⟨b, 3, none⟩ = some u4 ∧ w'.cell? ⟨b, 4, none⟩ = some u5 := by
  obtain ⟨k, -⟩ := bsome hb
  obtain ⟨h1, h2, h3, h4, h5⟩ := h
  exact ⟨(k _ _ (by rw [h1]; rfl)).trans h1, (k _ _ (by rw [h2]; rfl)).trans h2, (k _ _ (by rw [h3]; rfl)).trans h3, (k _ _ (by rw [h4]; rfl)).trans h4, (k _ _ (by rw [h5]; rfl)).trans h5⟩
set_option maxRecDepth 100000 in
set_option maxHeartbeats 8000000 in
theorem hbits_core (a1 a2 a3 a4 a5 b1 b2 b3 b4 b5 i : Int) (T U : Nat → Bool) (X Y : List Value) (fc : Nat → Int)
    (HX : Hid (∀ j, j < 104 → X[j]? = some (.bool (T j)))) (HY : Hid (∀ j, j < 104 → Y[j]? = some (.bool (U j))))
    (BH : Hid (∀ w, Calls Tryd.prog 10 #[hv a1 a2 a3 a4 a5] w fun e w' => ∃ v, e = .returned v ∧ Below w.heap.size w w' ∧ w'.ownsRow (w.heap.size + 1) 4 1 v 104 X))
    (BG : Hid (∀ w, Calls Tryd.prog 10 #[hv b1 b2 b3 b4 b5] w fun e w' => ∃ v, e = .returned v ∧ Below w.heap.size w w' ∧ w'.ownsRow (w.heap.size + 1) 4 1 v 104 Y))
    (BT : Hid (∀ k : Nat, k < 104 → ∀ w, Calls Tryd.prog 11 #[hv a1 a2 a3 a4 a5, .int .i64 k] w fun e w' => e = .returned (.bool (T k)) ∧ Below w.heap.size w w'))
    (CM : Hid (∀ w, Calls Tryd.prog 12 #[hv a1 a2 a3 a4 a5, hv b1 b2 b3 b4 b5] w fun e w' => e = .returned (.int .i64 (fc 104)) ∧ Below w.heap.size w w'))
    (BK : Hid (∀ (w : World) (g cap : Nat), Row w g (T) → Calls Tryd.prog 13 #[.slice (some ⟨g, 0, none⟩) 104 cap] w fun e w' => e = .returned (hv a1 a2 a3 a4 a5) ∧ Below w.heap.size w w'))
    (HF : Hid (fc 0 = 0 ∧ (∀ k, fc (k + 1) = if fc k = 0 then (if T k = U k then 0 else if U k then -1 else 1) else fc k)))
    (out : Hid (i < 0 ∨ 104 ≤ i → Hid (∀ w, Calls Tryd.prog 11 #[hv a1 a2 a3 a4 a5, .int .i64 i] w fun e w' => e = .returned (.bool false) ∧ Below w.heap.size w w') ∧ Hid (∀ w, Calls Tryd.prog 15 #[hv a1 a2 a3 a4 a5, .int .i64 i, .bool true] w fun e w' => e = .returned (hv a1 a2 a3 a4 a5) ∧ Below w.heap.size w w') ∧ Hid (∀ w, Calls Tryd.prog 15 #[hv a1 a2 a3 a4 a5, .int .i64 i, .bool false] w fun e w' => e = .returned (hv a1 a2 a3 a4 a5) ∧ Below w.heap.size w w')))
    (inn : Hid (∀ n : Nat, i = n → n < 104 → ∃ t1 t2 t3 t4 t5 f1 f2 f3 f4 f5 : Int, Hid (∀ w, Calls Tryd.prog 15 #[hv a1 a2 a3 a4 a5, .int .i64 n, .bool true] w fun e w' => e = .returned (hv t1 t2 t3 t4 t5) ∧ Below w.heap.size w w') ∧ Hid (∀ w, Calls Tryd.prog 15 #[hv a1 a2 a3 a4 a5, .int .i64 n, .bool false] w fun e w' => e = .returned (hv f1 f2 f3 f4 f5) ∧ Below w.heap.size w w') ∧ Hid (∀ w, Calls Tryd.prog 15 #[hv a1 a2 a3 a4 a5, .int .i64 n, .bool (T n)] w fun e w' => e = .returned (hv a1 a2 a3 a4 a5) ∧ Below w.heap.size w w') ∧ Hid (∀ (w : World) (g cap : Nat), Row w g (upd T n true) → Calls Tryd.prog 13 #[.slice (some ⟨g, 0, none⟩) 104 cap] w fun e w' => e = .returned (hv t1 t2 t3 t4 t5) ∧ Below w.heap.size w w') ∧ Hid (∀ (w : World) (g cap : Nat), Row w g (upd (upd T n true) n false) → Calls Tryd.prog 13 #[.slice (some ⟨g, 0, none⟩) 104 cap] w fun e w' => e = .returned (hv f1 f2 f3 f4 f5) ∧ Below w.heap.size w w')))
    (w : World) :
    Calls Tryd.prog 3 #[hv a1 a2 a3 a4 a5, hv b1 b2 b3 b4 b5, .int .i64 i] w fun e w' => e = .returned (.bool true) ∧ Below w.heap.size w w' := by
  obtain ⟨W0, hW0⟩ : ∃ W0, (w.alloc (Obj.cells #[.int .u32 a1, .int .u32 a2, .int .u8 a3, .int .u16 a4, .int .u16 a5] 25)).alloc (Obj.cells #[.int .u32 b1, .int .u32 b2, .int .u8 b3, .int .u16 b4, .int .u16 b5] 25) = W0 := ⟨_, rfl⟩
  have za0 : W0.cell? ⟨w.heap.size, 0, none⟩ = some (.int .u32 a1) := by rw [← hW0]; simp [go_sem]
  have za1 : W0.cell? ⟨w.heap.size, 1, none⟩ = some (.int .u32 a2) := by rw [← hW0]; simp [go_sem]
  have za2 : W0.cell? ⟨w.heap.size, 2, none⟩ = some (.int .u8 a3) := by rw [← hW0]; simp [go_sem]
  have za3 : W0.cell? ⟨w.heap.size, 3, none⟩ = some (.int .u16 a4) := by rw [← hW0]; simp [go_sem]
  have za4 : W0.cell? ⟨w.heap.size, 4, none⟩ = some (.int .u16 a5) := by rw [← hW0]; simp [go_sem]
  have zb0 : W0.cell? ⟨w.heap.size + 1, 0, none⟩ = some (.int .u32 b1) := by rw [← hW0]; simp [go_sem]
  have zb1 : W0.cell? ⟨w.heap.size + 1, 1, none⟩ = some (.int .u32 b2) := by rw [← hW0]; simp [go_sem]
  have zb2 : W0.cell? ⟨w.heap.size + 1, 2, none⟩ = some (.int .u8 b3) := by rw [← hW0]; simp [go_sem]
  have zb3 : W0.cell? ⟨w.heap.size + 1, 3, none⟩ = some (.int .u16 b4) := by rw [← hW0]; simp [go_sem]
  have zb4 : W0.cell? ⟨w.heap.size + 1, 4, none⟩ = some (.int .u16 b5) := by rw [← hW0]; simp [go_sem]
  have HZ0 := Lib.hid (show W0.heap.size = w.heap.size + 1 + 1 by rw [← hW0]; simp)
  have HB0 := Lib.hid (show Below w.heap.size w W0 by rw [← hW0]; exact below_al (below_al (Below.refl _ _) _) _)
  go_enter Tryd.func3, Tryd.ntmps3
  go_upto_region 1 with fail
  clear hW0
  refine wp_region_noPanic ?_
  refine wp_region_along (S := fun w' => Below W0.heap.size W0 w' ∧ ∀ b o, (W0.cell? ⟨b, o, none⟩).isSome = true → w'.cell? ⟨b, o, none⟩ = W0.cell? ⟨b, o, none⟩) ([(0, true), (2, true), (1, false), (3, false), (4, true), (5, true)]) (by kernel_rfl) (by as_aux_lemma => kernel_rfl) (by kernel_rfl) (by kernel_rfl) (by as_aux_lemma => kernel_rfl) (by as_aux_lemma => kernel_rfl) (fun _ _ _ _ _ h => h) (below_kb (Below.refl _ _).drew) (fun hH => ?_)
  simp only [stepsOf, pickOp]
  iterate 2 (first | (refine along_skip (by rfl) ?_; try simp only [Act.put, List.setIfInBounds_toArray, List.set_cons_zero, List.set_cons_succ]) | (refine along_pure ?_ (by rfl) (fun w hSw => ?_) ?_; rotate_left; ((try dsimp only at hSw); go_simp; try with_reducible rfl); try simp only [Act.put, List.setIfInBounds_toArray, List.set_cons_zero, List.set_cons_succ]))
  refine along_bar (fun K hK => ?_)
  go_simp
  refine (BH.out _).mono ?_
  rintro e w1 ⟨vh, rfl, hbx, oh⟩
  obtain ⟨gh, caph, rfl, hgh, rh⟩ := row_of HX.out oh
  have RH1 := Lib.hid rh
  have HW1 : Hid (w.heap.size + 2 ≤ gh) := by have h0 : W0.heap.size + 1 ≤ gh := hgh; have h1 := HZ0.out; show _ ≤ _; omega
  clear oh rh hgh
  try go_wp2_with fail
  refine hK.out _ _ (below_kb (below_on hH.1 hbx)) (fun hH' => ?_)
  clear hK K hH
  have hH := hH'
  clear hH'
  clear hbx
  try simp only [Act.put, List.setIfInBounds_toArray, List.set_cons_zero, List.set_cons_succ]
  refine along_bar (fun K hK => ?_)
  go_simp
  refine (BG.out _).mono ?_
  rintro e w2 ⟨vg, rfl, hbx, og⟩
  obtain ⟨gg, capg, rfl, hgg, rg⟩ := row_of HY.out og
  have RG2 := Lib.hid rg
  have RH2 := Lib.hid (RH1.out.on hbx)
  have HGG : Hid (gh < gg) := by have h1 := RH1.out.lt; show gh < gg; omega
  clear og rg hgg RH1
  try go_wp2_with fail
  refine hK.out _ _ (below_kb (below_on hH.1 hbx)) (fun hH' => ?_)
  clear hK K hH
  have hH := hH'
  clear hH'
  clear hbx
  try simp only [Act.put, List.setIfInBounds_toArray, List.set_cons_zero, List.set_cons_succ]
  iterate 2 (first | (refine along_skip (by rfl) ?_; try simp only [Act.put, List.setIfInBounds_toArray, List.set_cons_zero, List.set_cons_succ]) | (refine along_pure ?_ (by rfl) (fun w hSw => ?_) ?_; rotate_left; ((try dsimp only at hSw); go_simp; try with_reducible rfl); try simp only [Act.put, List.setIfInBounds_toArray, List.set_cons_zero, List.set_cons_succ]))
  refine along_end (NoPanic.normal ?_)
  have HB2 := Lib.hid (below_on HB0.out hH.1)
  have FA := Lib.hid (five_keep hH.1 ⟨za0, za1, za2, za3, za4⟩)
  have FB := Lib.hid (five_keep hH.1 ⟨zb0, zb1, zb2, zb3, zb4⟩)
  clear hH za0 za1 za2 za3 za4 zb0 zb1 zb2 zb3 zb4 HB0 BH BG HX HY
  go_wp2_with fail
  go_loopw [9, 19] (fun cv iv wr => ∃ k : Nat, iv = .int .i64 k ∧ cv = .int .i64 (fc k) ∧ k ≤ 104 ∧ Below w2.heap.size w2 wr) (fun _ iv _ => 104 - (intOf iv).toNat)
  case atStart => exact ⟨0, rfl, by rw [HF.out.1], by omega, Below.refl _ _⟩
  case round =>
    obtain ⟨k, rfl, rfl, hk, hbr⟩ := hrel
    have HBr := Lib.hid (below_on HB2.out hbr)
    have FAr := Lib.hid (five_keep hbr FA.out)
    have FBr := Lib.hid (five_keep hbr FB.out)
    have RHr := Lib.hid (RH2.out.on hbr)
    have RGr := Lib.hid (RG2.out.on hbr)
    have HBr2 := Lib.hid hbr
    clear hbr
    by_cases hlt : k < 104
    · have BTk := Lib.hid (BT.out k hlt)
      have HFk := Lib.hid (HF.out.2 k)
      obtain ⟨za0, za1, za2, za3, za4⟩ := FAr.out
      have r0 := (RHr.out k hlt).1
      have hltI : (k : Int) < 104 := by omega
      obtain ⟨t, ht⟩ : ∃ t, T k = t := ⟨_, rfl⟩
      obtain ⟨u, hu⟩ : ∃ u, U k = u := ⟨_, rfl⟩
      rw [ht] at r0 BTk HFk
      rw [hu] at HFk
      obtain ⟨Wr, rfl⟩ : ∃ Wr : World, Wr = wr := ⟨_, rfl⟩
      go_upto_region 6 with fail
      refine wp_region_noPanic ?_
      refine wp_region_along (S := fun w' => Below Wr.heap.size Wr w' ∧ ∀ b o, (Wr.cell? ⟨b, o, none⟩).isSome = true → w'.cell? ⟨b, o, none⟩ = Wr.cell? ⟨b, o, none⟩) ([(0, true), (1, true), (3, true), (4, true), (5, true), (6, true), (2, false), (7, true)]) (by kernel_rfl) (by as_aux_lemma => kernel_rfl) (by kernel_rfl) (by kernel_rfl) (by as_aux_lemma => kernel_rfl) (by as_aux_lemma => kernel_rfl) (fun _ _ _ _ _ h => h) (below_kb (Below.refl _ _).drew) (fun hH => ?_)
      simp only [stepsOf, pickOp]
      iterate 6 (first | (refine along_skip (by rfl) ?_; try simp only [Act.put, List.setIfInBounds_toArray, List.set_cons_zero, List.set_cons_succ]) | (refine along_pure ?_ (by rfl) (fun w hSw => ?_) ?_; rotate_left; ((try dsimp only at hSw); go_simp; try with_reducible rfl); try simp only [Act.put, List.setIfInBounds_toArray, List.set_cons_zero, List.set_cons_succ]))
      refine along_bar (fun K hK => ?_)
      go_simp
      refine (BTk.out _).mono ?_
      rintro e w' ⟨rfl, hbx⟩
      try go_wp2_with fail
      refine hK.out _ _ (below_kb (below_on hH.1 hbx)) (fun hH' => ?_)
      clear hK K hH
      have hH := hH'
      clear hH'
      clear hbx
      try simp only [Act.put, List.setIfInBounds_toArray, List.set_cons_zero, List.set_cons_succ]
      iterate 1 (first | (refine along_skip (by rfl) ?_; try simp only [Act.put, List.setIfInBounds_toArray, List.set_cons_zero, List.set_cons_succ]) | (refine along_pure ?_ (by rfl) (fun w hSw => ?_) ?_; rotate_left; ((try dsimp only at hSw); go_simp; try with_reducible rfl); try simp only [Act.put, List.setIfInBounds_toArray, List.set_cons_zero, List.set_cons_succ]))
      refine along_end (NoPanic.normal ?_)
      have HB3 := Lib.hid (below_on HBr2.out hH.1)
      have r1 := ((RHr.out.on hH.1) k hlt).1
      have r2 := ((RGr.out.on hH.1) k hlt).1
      rw [ht] at r1
      rw [hu] at r2
      clear hH za0 za1 za2 za3 za4 r0 ht hu BTk
      by_cases c0 : fc k = 0
      · rw [if_pos c0] at HFk
        rw [c0]
        have HC0 := Lib.hid c0
        clear c0
        cases t <;> cases u
        all_goals
          go_wp2_with fail
          go_quiet (fail)
          go_wp2_with fail
          refine ⟨⟨k + 1, by go_num, by rw [HFk.out]; rfl, by omega, below_drewN2 HB3.out _⟩, ?_⟩
          simp [intOf]; omega
      · rw [if_neg c0] at HFk
        have c1 : (fc k == 0) = false := by simp; exact c0
        have C0 := Lib.hid c0
        clear c0
        go_wp2_with fail
        go_quiet (fail)
        go_wp2_with fail
        refine ⟨⟨k + 1, by go_num, by rw [HFk.out], by omega, below_drewN2 HB3.out _⟩, ?_⟩
        simp [intOf]; omega
    · obtain rfl : k = 104 := by omega
      have hge : ¬ ((104 : Nat) : Int) < 104 := by omega
      obtain ⟨za0, za1, za2, za3, za4⟩ := FAr.out
      obtain ⟨zb0, zb1, zb2, zb3, zb4⟩ := FBr.out
      clear RG2 RH2 RGr FA FB HB2 HBr2 BT HF hlt hk
      obtain ⟨c, hc⟩ : ∃ c, fc 104 = c := ⟨_, rfl⟩
      rw [hc] at CM ⊢
      clear hc
      obtain ⟨Wr, rfl⟩ : ∃ Wr : World, Wr = wr := ⟨_, rfl⟩
      go_upto_region 13 with fail
      refine wp_region_noPanic ?_
      refine wp_region_along (S := fun w' => Below Wr.heap.size Wr w' ∧ ∀ b o, (Wr.cell? ⟨b, o, none⟩).isSome = true → w'.cell? ⟨b, o, none⟩ = Wr.cell? ⟨b, o, none⟩) ([(0, true), (1, true), (3, true), (2, false), (4, true), (5, true), (6, true), (8, true), (7, false), (9, true), (10, true)]) (by kernel_rfl) (by as_aux_lemma => kernel_rfl) (by kernel_rfl) (by kernel_rfl) (by as_aux_lemma => kernel_rfl) (by as_aux_lemma => kernel_rfl) (fun _ _ _ _ _ h => h) (below_kb (Below.refl _ _).drew) (fun hH => ?_)
      simp only [stepsOf, pickOp]
      iterate 3 (first | (refine along_skip (by rfl) ?_; try simp only [Act.put, List.setIfInBounds_toArray, List.set_cons_zero, List.set_cons_succ]) | (refine along_pure ?_ (by rfl) (fun w hSw => ?_) ?_; rotate_left; ((try dsimp only at hSw); go_simp; try with_reducible rfl); try simp only [Act.put, List.setIfInBounds_toArray, List.set_cons_zero, List.set_cons_succ]))
      refine along_bar (fun K hK => ?_)
      go_simp
      refine (CM.out _).mono ?_
      rintro e w' ⟨rfl, hbx⟩
      try go_wp2_with fail
      refine hK.out _ _ (below_kb (below_on hH.1 hbx)) (fun hH' => ?_)
      clear hK K hH
      have hH := hH'
      clear hH'
      clear hbx
      try simp only [Act.put, List.setIfInBounds_toArray, List.set_cons_zero, List.set_cons_succ]
      iterate 4 (first | (refine along_skip (by rfl) ?_; try simp only [Act.put, List.setIfInBounds_toArray, List.set_cons_zero, List.set_cons_succ]) | (refine along_pure ?_ (by rfl) (fun w hSw => ?_) ?_; rotate_left; ((try dsimp only at hSw); go_simp; try with_reducible rfl); try simp only [Act.put, List.setIfInBounds_toArray, List.set_cons_zero, List.set_cons_succ]))
      refine along_bar (fun K hK => ?_)
      go_simp
      refine (BK.out _ _ _ (RHr.out.on hH.1)).mono ?_
      rintro e w' ⟨rfl, hbx⟩
      try go_wp2_with fail
      refine hK.out _ _ (below_kb (below_on hH.1 hbx)) (fun hH' => ?_)
      clear hK K hH
      have hH := hH'
      clear hH'
      clear hbx
      try simp only [Act.put, List.setIfInBounds_toArray, List.set_cons_zero, List.set_cons_succ]
      iterate 2 (first | (refine along_skip (by rfl) ?_; try simp only [Act.put, List.setIfInBounds_toArray, List.set_cons_zero, List.set_cons_succ]) | (refine along_pure ?_ (by rfl) (fun w hSw => ?_) ?_; rotate_left; ((try dsimp only at hSw); go_simp; try with_reducible rfl); try simp only [Act.put, List.setIfInBounds_toArray, List.set_cons_zero, List.set_cons_succ]))
      refine along_end (NoPanic.normal ?_)
      have HB4 := Lib.hid (below_on HBr.out hH.1)
      have FA4 := Lib.hid (five_keep hH.1 FAr.out)
      have RH4 := Lib.hid (RHr.out.on hH.1)
      clear hH za0 za1 za2 za3 za4 zb0 zb1 zb2 zb3 zb4 FAr FBr RHr HBr CM BK
      obtain ⟨W4, rfl⟩ : ∃ W4 : World, W4 = w' := ⟨_, rfl⟩
      obtain ⟨za0, za1, za2, za3, za4⟩ := FA4.out
      have AW := Lib.hid awake_any
      by_cases ci : i < 0 ∨ 104 ≤ i
      · obtain ⟨BO, WT, WF⟩ := out.out ci
        clear out inn
        rcases ci with ci | ci
        all_goals
          go_upto_region 16 with fail
          refine wp_region_noPanic ?_
          refine wp_region_along (S := fun w' => Below W4.heap.size W4 w' ∧ ∀ b o, (W4.cell? ⟨b, o, none⟩).isSome = true → w'.cell? ⟨b, o, none⟩ = W4.cell? ⟨b, o, none⟩) ([(0, false), (1, true), (2, true), (3, true), (4, false), (5, true), (6, true), (7, true), (8, true), (9, true), (11, true), (10, false), (12, true), (13, true), (14, true), (15, true)] ++ ([(16, true), (18, true), (17, false), (19, true), (20, true), (21, true)])) (by kernel_rfl) (by as_aux_lemma => kernel_rfl) (by kernel_rfl) (by kernel_rfl) (alongPre_append _ _ _ (by as_aux_lemma => kernel_rfl) (by as_aux_lemma => kernel_rfl)) (by as_aux_lemma => kernel_rfl) (fun _ _ _ _ _ h => h) (below_kb (Below.refl _ _).drew) (fun hH => ?_)
          simp only [List.cons_append, List.nil_append, stepsOf, pickOp]
          refine along_bar (fun K hK => ?_)
          go_simp
          refine (AW.out _).mono ?_
          rintro e w' ⟨rfl, hbx⟩
          try go_wp2_with fail
          refine hK.out _ _ (below_kb (below_on hH.1 hbx)) (fun hH' => ?_)
          clear hK K hH
          have hH := hH'
          clear hH'
          clear hbx
          try simp only [Act.put, List.setIfInBounds_toArray, List.set_cons_zero, List.set_cons_succ]
          iterate 3 (first | (refine along_skip (by rfl) ?_; try simp only [Act.put, List.setIfInBounds_toArray, List.set_cons_zero, List.set_cons_succ]) | (refine along_pure ?_ (by rfl) (fun w hSw => ?_) ?_; rotate_left; ((try dsimp only at hSw); go_simp; try with_reducible rfl); try simp only [Act.put, List.setIfInBounds_toArray, List.set_cons_zero, List.set_cons_succ]))
          refine along_bar (fun K hK => ?_)
          go_simp
          refine (BO.out _).mono ?_
          rintro e w' ⟨rfl, hbx⟩
          try go_wp2_with fail
          refine hK.out _ _ (below_kb (below_on hH.1 hbx)) (fun hH' => ?_)
          clear hK K hH
          have hH := hH'
          clear hH'
          clear hbx
          try simp only [Act.put, List.setIfInBounds_toArray, List.set_cons_zero, List.set_cons_succ]
          iterate 6 (first | (refine along_skip (by rfl) ?_; try simp only [Act.put, List.setIfInBounds_toArray, List.set_cons_zero, List.set_cons_succ]) | (refine along_pure ?_ (by rfl) (fun w hSw => ?_) ?_; rotate_left; ((try dsimp only at hSw); go_simp; try with_reducible rfl); try simp only [Act.put, List.setIfInBounds_toArray, List.set_cons_zero, List.set_cons_succ]))
          refine along_bar (fun K hK => ?_)
          go_simp
          refine (WT.out _).mono ?_
          rintro e w' ⟨rfl, hbx⟩
          try go_wp2_with fail
          refine hK.out _ _ (below_kb (below_on hH.1 hbx)) (fun hH' => ?_)
          clear hK K hH
          have hH := hH'
          clear hH'
          clear hbx
          try simp only [Act.put, List.setIfInBounds_toArray, List.set_cons_zero, List.set_cons_succ]
          iterate 6 (first | (refine along_skip (by rfl) ?_; try simp only [Act.put, List.setIfInBounds_toArray, List.set_cons_zero, List.set_cons_succ]) | (refine along_pure ?_ (by rfl) (fun w hSw => ?_) ?_; rotate_left; ((try dsimp only at hSw); go_simp; try with_reducible rfl); try simp only [Act.put, List.setIfInBounds_toArray, List.set_cons_zero, List.set_cons_succ]))
          refine along_bar (fun K hK => ?_)
          go_simp
          refine (WF.out _).mono ?_
          rintro e w' ⟨rfl, hbx⟩
          try go_wp2_with fail
          refine hK.out _ _ (below_kb (below_on hH.1 hbx)) (fun hH' => ?_)
          clear hK K hH
          have hH := hH'
          clear hH'
          clear hbx
          try simp only [Act.put, List.setIfInBounds_toArray, List.set_cons_zero, List.set_cons_succ]
          iterate 3 (first | (refine along_skip (by rfl) ?_; try simp only [Act.put, List.setIfInBounds_toArray, List.set_cons_zero, List.set_cons_succ]) | (refine along_pure ?_ (by rfl) (fun w hSw => ?_) ?_; rotate_left; ((try dsimp only at hSw); go_simp; try with_reducible rfl); try simp only [Act.put, List.setIfInBounds_toArray, List.set_cons_zero, List.set_cons_succ]))
          refine along_end (NoPanic.normal ?_)
          have HB5 := Lib.hid (below_on HB4.out hH.1)
          clear hH
          go_wp2
          go_ret
          exact ⟨ret_bool (by simp), HB5.out⟩
      · obtain ⟨n, rfl⟩ := Int.eq_ofNat_of_zero_le (show 0 ≤ i by omega)
        have hn : n < 104 := by omega
        have hnI : (n : Int) < 104 := by omega
        obtain ⟨t1, t2, t3, t4, t5, f1, f2, f3, f4, f5, WT, WF, WW, KT, KF⟩ := inn.out n rfl hn
        clear out inn ci
        obtain ⟨r0, f0⟩ := RH4.out n hn
        have hgl := RH4.out.lt
        obtain ⟨q, hq⟩ : ∃ q, T n = q := ⟨_, rfl⟩
        rw [hq] at r0 WW
        clear hq
        have RH5 := Lib.hid (RH4.out.set n hn true)
        go_upto_region 19 with fail
        obtain ⟨W5, hW5⟩ : ∃ W5, W4.setCell ⟨gh, n, none⟩ (.bool true) = W5 := ⟨_, rfl⟩
        rw [hW5]
        rw [hW5] at RH5
        have hghw := HW1.out
        have HB5 := Lib.hid (show Below w.heap.size w W5 by rw [← hW5]; exact HB4.out.setCell (by show w.heap.size ≤ gh; omega) _)
        have FA5 := Lib.hid (show W5.cell? ⟨w.heap.size, 0, none⟩ = some (.int .u32 a1) ∧ W5.cell? ⟨w.heap.size, 1, none⟩ = some (.int .u32 a2) ∧ W5.cell? ⟨w.heap.size, 2, none⟩ = some (.int .u8 a3) ∧ W5.cell? ⟨w.heap.size, 3, none⟩ = some (.int .u16 a4) ∧ W5.cell? ⟨w.heap.size, 4, none⟩ = some (.int .u16 a5) by
          rw [← hW5]
          refine ⟨?_, ?_, ?_, ?_, ?_⟩
          all_goals rw [World.cell?_setCell_far _ _ _ _ (by show gh ≠ w.heap.size; omega)]
          all_goals assumption)
        clear hW5 RH4 HB4 FA4 za0 za1 za2 za3 za4 r0 f0 hgl
        go_cut [12] (fun u wx => ∃ g : Nat, u = .pointer (some ⟨g, 0, none⟩) ∧ W5.heap.size ≤ g ∧ Below W5.heap.size W5 wx ∧ wx.cell? ⟨g, 0, none⟩ = some (.int .u32 t1) ∧ wx.cell? ⟨g, 1, none⟩ = some (.int .u32 t2) ∧ wx.cell? ⟨g, 2, none⟩ = some (.int .u8 t3) ∧ wx.cell? ⟨g, 3, none⟩ = some (.int .u16 t4) ∧ wx.cell? ⟨g, 4, none⟩ = some (.int .u16 t5))
        case first =>
          go_wp2_with fail
          refine (KT.out _ _ _ RH5.out).mono ?_
          rintro e w6 ⟨rfl, hb6⟩
          have s6 := hb6.size
          have HB6 := Lib.hid hb6
          clear hb6
          go_wp2_with fail
          go_meet
          refine ⟨_, rfl, s6, ?_, ?_⟩
          · repeat (first | exact HB6.out | refine below_al ?_ _ | (refine Below.setCell ?_ (by simp; omega) _))
          · simp [go_sem]
        case rest =>
          obtain ⟨g, rfl, hgW, hbx, ft⟩ := hcut
          have FA6 := Lib.hid (five_keep hbx FA5.out)
          have RH6 := Lib.hid (RH5.out.on hbx)
          have HB6 := Lib.hid (below_on HB5.out hbx)
          have FT6 := Lib.hid ft
          have hgg : gh < g := by have := RH5.out.lt; omega
          clear hbx ft FA5 RH5 HB5 KT
          obtain ⟨W6, rfl⟩ : ∃ W6 : World, W6 = wc := ⟨_, rfl⟩
          obtain ⟨r0, f0⟩ := RH6.out n hn
          have RH7 := Lib.hid (RH6.out.set n hn false)
          go_upto_region 21 with fail
          obtain ⟨W7, hW7⟩ : ∃ W7, W6.setCell ⟨gh, n, none⟩ (.bool false) = W7 := ⟨_, rfl⟩
          rw [hW7]
          rw [hW7] at RH7
          have HB7 := Lib.hid (show Below w.heap.size w W7 by rw [← hW7]; exact HB6.out.setCell (by show w.heap.size ≤ gh; omega) _)
          have fa : W7.cell? ⟨w.heap.size, 0, none⟩ = some (.int .u32 a1) ∧ W7.cell? ⟨w.heap.size, 1, none⟩ = some (.int .u32 a2) ∧ W7.cell? ⟨w.heap.size, 2, none⟩ = some (.int .u8 a3) ∧ W7.cell? ⟨w.heap.size, 3, none⟩ = some (.int .u16 a4) ∧ W7.cell? ⟨w.heap.size, 4, none⟩ = some (.int .u16 a5) := by
            obtain ⟨q0, q1, q2, q3, q4⟩ := FA6.out
            rw [← hW7]
            refine ⟨?_, ?_, ?_, ?_, ?_⟩
            all_goals rw [World.cell?_setCell_far _ _ _ _ (by show gh ≠ w.heap.size; omega)]
            all_goals assumption
          have ft : W7.cell? ⟨g, 0, none⟩ = some (.int .u32 t1) ∧ W7.cell? ⟨g, 1, none⟩ = some (.int .u32 t2) ∧ W7.cell? ⟨g, 2, none⟩ = some (.int .u8 t3) ∧ W7.cell? ⟨g, 3, none⟩ = some (.int .u16 t4) ∧ W7.cell? ⟨g, 4, none⟩ = some (.int .u16 t5) := by
            obtain ⟨q0, q1, q2, q3, q4⟩ := FT6.out
            rw [← hW7]
            refine ⟨?_, ?_, ?_, ?_, ?_⟩
            all_goals rw [World.cell?_setCell_far _ _ _ _ (by show gh ≠ g; omega)]
            all_goals assumption
          clear hW7 RH6 HB6 FA6 FT6 r0 f0
          obtain ⟨za0, za1, za2, za3, za4⟩ := fa
          obtain ⟨zt0, zt1, zt2, zt3, zt4⟩ := ft
          refine wp_region_noPanic ?_
          refine wp_region_along (S := fun w' => Below W7.heap.size W7 w' ∧ ∀ b o, (W7.cell? ⟨b, o, none⟩).isSome = true → w'.cell? ⟨b, o, none⟩ = W7.cell? ⟨b, o, none⟩) ([(0, false), (1, true), (2, true), (3, true), (5, true), (4, false), (6, true), (7, true), (8, true), (9, true), (10, true), (12, true), (11, false), (13, false), (14, true), (15, true)] ++ ([(16, true), (17, true), (18, true), (19, true), (21, true), (20, false), (22, true), (23, true), (24, true)])) (by kernel_rfl) (by as_aux_lemma => kernel_rfl) (by kernel_rfl) (by kernel_rfl) (alongPre_append _ _ _ (by as_aux_lemma => kernel_rfl) (by as_aux_lemma => kernel_rfl)) (by as_aux_lemma => kernel_rfl) (fun _ _ _ _ _ h => h) (below_kb (Below.refl _ _).drew) (fun hH => ?_)
          simp only [List.cons_append, List.nil_append, stepsOf, pickOp]
          refine along_bar (fun K hK => ?_)
          go_simp
          refine (AW.out _).mono ?_
          rintro e w' ⟨rfl, hbx⟩
          try go_wp2_with fail
          refine hK.out _ _ (below_kb (below_on hH.1 hbx)) (fun hH' => ?_)
          clear hK K hH
          have hH := hH'
          clear hH'
          clear hbx
          try simp only [Act.put, List.setIfInBounds_toArray, List.set_cons_zero, List.set_cons_succ]
          iterate 4 (first | (refine along_skip (by rfl) ?_; try simp only [Act.put, List.setIfInBounds_toArray, List.set_cons_zero, List.set_cons_succ]) | (refine along_pure ?_ (by rfl) (fun w hSw => ?_) ?_; rotate_left; ((try dsimp only at hSw); go_simp; try with_reducible rfl); try simp only [Act.put, List.setIfInBounds_toArray, List.set_cons_zero, List.set_cons_succ]))
          refine along_bar (fun K hK => ?_)
          go_simp
          refine (WT.out _).mono ?_
          rintro e w' ⟨rfl, hbx⟩
          try go_wp2_with fail
          refine hK.out _ _ (below_kb (below_on hH.1 hbx)) (fun hH' => ?_)
          clear hK K hH
          have hH := hH'
          clear hH'
          clear hbx
          try simp only [Act.put, List.setIfInBounds_toArray, List.set_cons_zero, List.set_cons_succ]
          iterate 6 (first | (refine along_skip (by rfl) ?_; try simp only [Act.put, List.setIfInBounds_toArray, List.set_cons_zero, List.set_cons_succ]) | (refine along_pure ?_ (by rfl) (fun w hSw => ?_) ?_; rotate_left; ((try dsimp only at hSw); go_simp; try with_reducible rfl); try simp only [Act.put, List.setIfInBounds_toArray, List.set_cons_zero, List.set_cons_succ]))
          refine along_bar (fun K hK => ?_)
          go_simp
          refine (WF.out _).mono ?_
          rintro e w' ⟨rfl, hbx⟩
          try go_wp2_with fail
          refine hK.out _ _ (below_kb (below_on hH.1 hbx)) (fun hH' => ?_)
          clear hK K hH
          have hH := hH'
          clear hH'
          clear hbx
          try simp only [Act.put, List.setIfInBounds_toArray, List.set_cons_zero, List.set_cons_succ]
          refine along_bar (fun K hK => ?_)
          go_simp
          refine (KF.out _ _ _ (RH7.out.on hH.1)).mono ?_
          rintro e w' ⟨rfl, hbx⟩
          try go_wp2_with fail
          refine hK.out _ _ (below_kb (below_on hH.1 hbx)) (fun hH' => ?_)
          clear hK K hH
          have hH := hH'
          clear hH'
          clear hbx
          try simp only [Act.put, List.setIfInBounds_toArray, List.set_cons_zero, List.set_cons_succ]
          iterate 7 (first | (refine along_skip (by rfl) ?_; try simp only [Act.put, List.setIfInBounds_toArray, List.set_cons_zero, List.set_cons_succ]) | (refine along_pure ?_ (by rfl) (fun w hSw => ?_) ?_; rotate_left; ((try dsimp only at hSw); go_simp; try with_reducible rfl); try simp only [Act.put, List.setIfInBounds_toArray, List.set_cons_zero, List.set_cons_succ]))
          refine along_bar (fun K hK => ?_)
          go_simp
          refine (WW.out _).mono ?_
          rintro e w' ⟨rfl, hbx⟩
          try go_wp2_with fail
          refine hK.out _ _ (below_kb (below_on hH.1 hbx)) (fun hH' => ?_)
          clear hK K hH
          have hH := hH'
          clear hH'
          clear hbx
          try simp only [Act.put, List.setIfInBounds_toArray, List.set_cons_zero, List.set_cons_succ]
          iterate 3 (first | (refine along_skip (by rfl) ?_; try simp only [Act.put, List.setIfInBounds_toArray, List.set_cons_zero, List.set_cons_succ]) | (refine along_pure ?_ (by rfl) (fun w hSw => ?_) ?_; rotate_left; ((try dsimp only at hSw); go_simp; try with_reducible rfl); try simp only [Act.put, List.setIfInBounds_toArray, List.set_cons_zero, List.set_cons_succ]))
          refine along_end (NoPanic.normal ?_)
          have HB8 := Lib.hid (below_on HB7.out hH.1)
          clear hH
          go_wp2
          go_ret
          exact ⟨ret_bool (by simp), HB8.out⟩
end Go.Proofs.YtijfohoaeacncaaDoor
