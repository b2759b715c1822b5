/- A filter's text, written by the program and by the document; read by the document. -/
import Derived.Test.YtgbphocmnpjjpaaDoorF3
import Derived.Test.YtgbphocmnpjjpaaDoorAlongT
namespace Go.Proofs.YtgbphocmnpjjpaaDoor
open Go.RowKit
set_option linter.unusedVariables false

/-- A protocol's word. -/
def protoT (p : Int) : ByteArray := if p = -1 then ⟨#[97, 110, 121]⟩ else dd p.toNat
theorem protoT_size {p : Int} (hp : p = -1 ∨ 0 ≤ p ∧ p ≤ 255) : (protoT p).size ≤ 100 := by
  unfold protoT
  split
  · decide
  · have := dd_size p.toNat (by omega)
    omega
set_option maxHeartbeats 400000 in
theorem fpp_any (p : Int) (hp : p = -1 ∨ 0 ≤ p ∧ p ≤ 255) (w : World) (ht : Txt w) : Calls Tryd.prog 68 #[.int .i64 p] w (SRet (protoT p) w) := by
  unfold protoT
  by_cases c : p = -1
  · subst c
    rw [if_pos rfl]
    go_enter Tryd.func68, Tryd.ntmps68
    go_wp2
    go_ret
    exact ⟨rfl, Below.refl _ _⟩
  · rw [if_neg c]
    obtain ⟨k, rfl⟩ := Int.eq_ofNat_of_zero_le (show 0 ≤ p by omega)
    have HI := Lib.hid (itoa_any k (by omega) w ht)
    have c' : ((k : Int) == -1) = false := by simp
    rw [show ((k : Int)).toNat = k from rfl]
    go_enter Tryd.func68, Tryd.ntmps68
    go_wp2_with fail
    refine HI.out.mono ?_
    rintro e w1 ⟨rfl, hb⟩
    go_wp2
    go_ret
    exact ⟨rfl, hb⟩
theorem Blk.put5 {w : World} {b : Nat} {c0 c1 c2 c3 c4 : Value} (h : Blk w b [c0, c1, c2, c3, c4]) (v0 v1 v2 v3 v4 : Value) :
    Blk (((((w.setCell ⟨b, 0, none⟩ v0).setCell ⟨b, 1, none⟩ v1).setCell ⟨b, 2, none⟩ v2).setCell ⟨b, 3, none⟩ v3).setCell ⟨b, 4, none⟩ v4) b [v0, v1, v2, v3, v4] :=
  ((((h.set 0 v0 (by simp)).set 1 v1 (by simp)).set 2 v2 (by simp)).set 3 v3 (by simp)).set 4 v4 (by simp)
theorem join5g (t1 t2 t3 t4 t5 R : ByteArray) (hR : (⟨(Lib.join ([t1, t2, t3, t4, t5].map (·.data.toList)) [32]).toArray⟩ : ByteArray) = R) (hl : (Lib.join ([t1, t2, t3, t4, t5].map (·.data.toList)) [32]).length ≤ 140737488355328) (w : World) (g : Nat) (h : Cel w g [.string t1, .string t2, .string t3, .string t4, .string t5]) :
    Calls Tryd.prog 46 #[.slice (some ⟨g, 0, none⟩) 5 5, .string ⟨#[32]⟩] w fun e w' => e = .returned (.string R) ∧ Below w.heap.size w w' := by
  have k := Tryd.strings_Join g 0 5 [t1, t2, t3, t4, t5] ⟨#[32]⟩ w ?_ (cell_lt (o := 0) (by rw [h 0 _ rfl]; rfl)) (by simp) (by simp) hl
  · rw [← hR]; exact k
  intro j x hj
  match j, hj with
  | 0, hj => cases hj; exact h 0 _ rfl
  | 1, hj => cases hj; exact h 1 _ rfl
  | 2, hj => cases hj; exact h 2 _ rfl
  | 3, hj => cases hj; exact h 3 _ rfl
  | 4, hj => cases hj; exact h 4 _ rfl
set_option maxRecDepth 100000 in
set_option maxHeartbeats 8000000 in
theorem fprint_core (a n b m p l h u v : Int) (t1 t2 t3 t4 t5 R : ByteArray) (P : World → Prop) (HP : Hid (∀ W w, P W → Below W.heap.size W w → P w))
    (C1 : Hid (∀ w, P w → Calls Tryd.prog 27 #[pv a n] w fun e w' => e = .returned (.string t1) ∧ Below w.heap.size w w'))
    (C2 : Hid (∀ w, P w → Calls Tryd.prog 27 #[pv b m] w fun e w' => e = .returned (.string t2) ∧ Below w.heap.size w w'))
    (C3 : Hid (∀ w, P w → Calls Tryd.prog 68 #[.int .i64 p] w fun e w' => e = .returned (.string t3) ∧ Below w.heap.size w w'))
    (C4 : Hid (∀ w, P w → Calls Tryd.prog 22 #[rv l h] w fun e w' => e = .returned (.string t4) ∧ Below w.heap.size w w'))
    (C5 : Hid (∀ w, P w → Calls Tryd.prog 22 #[rv u v] w fun e w' => e = .returned (.string t5) ∧ Below w.heap.size w w'))
    (CJ : Hid (∀ (w : World) (g : Nat), Cel w g [.string t1, .string t2, .string t3, .string t4, .string t5] → Calls Tryd.prog 46 #[.slice (some ⟨g, 0, none⟩) 5 5, .string ⟨#[32]⟩] w fun e w' => e = .returned (.string R) ∧ Below w.heap.size w w'))
    (w : World) (hw0 : P w) : Calls Tryd.prog 43 #[fv a n b m p l h u v] w (SRet R w) := by
  unfold pv at C1 C2
  unfold rv at C4 C5
  obtain ⟨W0, hW0⟩ : ∃ W0, w.alloc (Obj.cells (fc a n b m p l h u v).toArray 62) = W0 := ⟨_, rfl⟩
  have F0 := Lib.hid (show Blk W0 w.heap.size (fc a n b m p l h u v) by rw [← hW0]; exact Blk.new _ _ _)
  have B0 := Lib.hid (show Below w.heap.size w W0 by rw [← hW0]; exact cbelow_al (Below.refl _ _) _)
  have hw := Lib.hid (HP.out _ _ hw0 B0.out)
  clear hw0
  unfold fc at *
  unfold fv
  go_enter Tryd.func43, Tryd.ntmps43
  go_upto_region 1 with fail
  clear hW0
  go_cut [3] (fun z wx => ∃ g : Nat, z = .pointer (some ⟨g, 0, none⟩) ∧ Below W0.heap.size W0 wx ∧ Cel wx g [.string t1, .string t2, .string t3, .string t4, .string t5])
  case first =>
    obtain ⟨z0, z1, z2, z3, z4, z5, z6, z7, z8⟩ : _ ∧ _ ∧ _ ∧ _ ∧ _ ∧ _ ∧ _ ∧ _ ∧ _ := ⟨F0.out.1 0 _ rfl, F0.out.1 1 _ rfl, F0.out.1 2 _ rfl, F0.out.1 3 _ rfl, F0.out.1 4 _ rfl, F0.out.1 5 _ rfl, F0.out.1 6 _ rfl, F0.out.1 7 _ rfl, F0.out.1 8 _ rfl⟩
    refine wp_region_noPanic ?_
    refine wp_region_alongT (S := fun w' => Below W0.heap.size W0 w' ∧ ∀ b o, (W0.cell? ⟨b, o, none⟩).isSome = true → w'.cell? ⟨b, o, none⟩ = W0.cell? ⟨b, o, none⟩) (.pure 0 (.pure 1 (.pure 3 (.pure 4 (.pure 6 (.pure 7 (.pure 9 (.pure 10 (.pure 12 (.pure 13 (.b2 2 (.b2 5 (.b2 8 (.b2 11 (.b2 14 (.pure 15 (.b1 16 (.b1 17 .done))) 16 (.b1 14 (.pure 15 (.b1 17 .done)))) 16 (.b1 11 (.b1 14 (.pure 15 (.b1 17 .done))))) 16 (.b1 8 (.b1 11 (.b1 14 (.pure 15 (.b1 17 .done)))))) 16 (.b1 5 (.b1 8 (.b1 11 (.b1 14 (.pure 15 (.b1 17 .done))))))) 16 (.b1 2 (.b1 5 (.b1 8 (.b1 11 (.b1 14 (.pure 15 (.b1 17 .done)))))))))))))))))) (by kernel_rfl) (by as_aux_lemma => kernel_rfl) (by decide) (by as_aux_lemma => kernel_rfl) (fun _ _ _ _ _ h => h) (ckeep (Below.refl _ _).drew) (fun hH => ?_)
    iterate 10 (refine T_pure ?_ (by rfl) (fun w hSw => ?_) ?_; rotate_left; ((try dsimp only at hSw); simp only [pickOp]; go_simp; try with_reducible rfl); try simp only [pickOp, Act.put, List.setIfInBounds_toArray, List.set_cons_zero, List.set_cons_succ])
    obtain ⟨wd, hwd⟩ : ∃ x, x = W0.drew := ⟨_, rfl⟩
    rw [← hwd] at hH ⊢
    clear hwd
    refine T_b2 (fun K hK => ?_) (fun K hK => ?_)
    · simp only [pickOp]
      go_simp
      refine (C1.out _ (HP.out _ _ hw.out hH.1)).mono ?_
      rintro e wd0 ⟨rfl, hbx⟩
      try go_wp2_with fail
      refine hK.out _ _ (ckeep (cbelow_on hH.1 hbx)) (fun hH' => ?_)
      clear hK K hH
      have hH := hH'
      clear hH'
      clear hbx
      try simp only [pickOp, Act.put, List.setIfInBounds_toArray, List.set_cons_zero, List.set_cons_succ]
      refine T_b2 (fun K hK => ?_) (fun K hK => ?_)
      · simp only [pickOp]
        go_simp
        refine (C2.out _ (HP.out _ _ hw.out hH.1)).mono ?_
        rintro e wd01 ⟨rfl, hbx⟩
        try go_wp2_with fail
        refine hK.out _ _ (ckeep (cbelow_on hH.1 hbx)) (fun hH' => ?_)
        clear hK K hH
        have hH := hH'
        clear hH'
        clear hbx
        try simp only [pickOp, Act.put, List.setIfInBounds_toArray, List.set_cons_zero, List.set_cons_succ]
        refine T_b2 (fun K hK => ?_) (fun K hK => ?_)
        · simp only [pickOp]
          go_simp
          refine (C3.out _ (HP.out _ _ hw.out hH.1)).mono ?_
          rintro e wd012 ⟨rfl, hbx⟩
          try go_wp2_with fail
          refine hK.out _ _ (ckeep (cbelow_on hH.1 hbx)) (fun hH' => ?_)
          clear hK K hH
          have hH := hH'
          clear hH'
          clear hbx
          try simp only [pickOp, Act.put, List.setIfInBounds_toArray, List.set_cons_zero, List.set_cons_succ]
          refine T_b2 (fun K hK => ?_) (fun K hK => ?_)
          · simp only [pickOp]
            go_simp
            refine (C4.out _ (HP.out _ _ hw.out hH.1)).mono ?_
            rintro e wd0123 ⟨rfl, hbx⟩
            try go_wp2_with fail
            refine hK.out _ _ (ckeep (cbelow_on hH.1 hbx)) (fun hH' => ?_)
            clear hK K hH
            have hH := hH'
            clear hH'
            clear hbx
            try simp only [pickOp, Act.put, List.setIfInBounds_toArray, List.set_cons_zero, List.set_cons_succ]
            refine T_b2 (fun K hK => ?_) (fun K hK => ?_)
            · simp only [pickOp]
              go_simp
              refine (C5.out _ (HP.out _ _ hw.out hH.1)).mono ?_
              rintro e wd01234 ⟨rfl, hbx⟩
              try go_wp2_with fail
              refine hK.out _ _ (ckeep (cbelow_on hH.1 hbx)) (fun hH' => ?_)
              clear hK K hH
              have hH := hH'
              clear hH'
              clear hbx
              try simp only [pickOp, Act.put, List.setIfInBounds_toArray, List.set_cons_zero, List.set_cons_succ]
              refine T_pure ?_ (by rfl) (fun w hSw => ?_) ?_; rotate_left; ((try dsimp only at hSw); simp only [pickOp]; go_simp; try with_reducible rfl); try simp only [pickOp, Act.put, List.setIfInBounds_toArray, List.set_cons_zero, List.set_cons_succ]
              refine T_b1 (fun K hK => ?_)
              simp only [pickOp]
              go_simp
              refine hK.out _ _ (ckeep (cbelow_al hH.1 _)) (fun hH' => ?_)
              clear hK K
              have LB := Lib.hid hH.1.size
              clear hH
              have AB := Lib.hid (Blk.new wd01234 110 [.string ⟨#[]⟩, .string ⟨#[]⟩, .string ⟨#[]⟩, .string ⟨#[]⟩, .string ⟨#[]⟩])
              try simp only [pickOp, Act.put, List.setIfInBounds_toArray, List.set_cons_zero, List.set_cons_succ]
              obtain ⟨wd01234a, hwn⟩ : ∃ x, x = wd01234.alloc (Obj.cells #[.string ⟨#[]⟩, .string ⟨#[]⟩, .string ⟨#[]⟩, .string ⟨#[]⟩, .string ⟨#[]⟩] 110) := ⟨_, rfl⟩
              rw [← hwn] at hH' ⊢
              have AB' := Lib.hid (show Blk wd01234a wd01234.heap.size [.string ⟨#[]⟩, .string ⟨#[]⟩, .string ⟨#[]⟩, .string ⟨#[]⟩, .string ⟨#[]⟩] by rw [hwn]; exact AB.out)
              clear AB
              have AB := AB'
              have hH := hH'
              clear AB' hH' hwn
              obtain ⟨p0, p1, p2, p3, p4⟩ : _ ∧ _ ∧ _ ∧ _ ∧ _ := ⟨AB.out.1 0 _ rfl, AB.out.1 1 _ rfl, AB.out.1 2 _ rfl, AB.out.1 3 _ rfl, AB.out.1 4 _ rfl⟩
              obtain ⟨f0, f1, f2, f3, f4⟩ : _ ∧ _ ∧ _ ∧ _ ∧ _ := ⟨AB.out.2 0 _ rfl, AB.out.2 1 _ rfl, AB.out.2 2 _ rfl, AB.out.2 3 _ rfl, AB.out.2 4 _ rfl⟩
              refine T_b1 (fun K hK => ?_)
              simp only [pickOp]
              go_simp
              refine hK.out _ _ (ckeep (below_put5 hH.1 LB.out _ _ _ _ _)) (fun hH' => ?_)
              clear hK K
              have A' := Lib.hid (AB.out.put5 (.string t1) (.string t2) (.string t3) (.string t4) (.string t5))
              clear p0 p1 p2 p3 p4 f0 f1 f2 f3 f4 AB hH
              try simp only [pickOp, Act.put, List.setIfInBounds_toArray, List.set_cons_zero, List.set_cons_succ]
              refine T_done (NoPanic.normal ?_)
              have HBz := Lib.hid hH'.1
              clear hH'
              go_wp2_with fail
              go_meet
              exact ⟨_, rfl, HBz.out, A'.out.1⟩
            · simp only [pickOp]
              go_simp
              refine hK.out _ _ (ckeep (cbelow_al hH.1 _)) (fun hH' => ?_)
              clear hK K
              have LB := Lib.hid hH.1.size
              clear hH
              have AB := Lib.hid (Blk.new wd0123 110 [.string ⟨#[]⟩, .string ⟨#[]⟩, .string ⟨#[]⟩, .string ⟨#[]⟩, .string ⟨#[]⟩])
              try simp only [pickOp, Act.put, List.setIfInBounds_toArray, List.set_cons_zero, List.set_cons_succ]
              obtain ⟨wd0123a, hwn⟩ : ∃ x, x = wd0123.alloc (Obj.cells #[.string ⟨#[]⟩, .string ⟨#[]⟩, .string ⟨#[]⟩, .string ⟨#[]⟩, .string ⟨#[]⟩] 110) := ⟨_, rfl⟩
              rw [← hwn] at hH' ⊢
              have AB' := Lib.hid (show Blk wd0123a wd0123.heap.size [.string ⟨#[]⟩, .string ⟨#[]⟩, .string ⟨#[]⟩, .string ⟨#[]⟩, .string ⟨#[]⟩] by rw [hwn]; exact AB.out)
              clear AB
              have AB := AB'
              have hH := hH'
              clear AB' hH' hwn
              refine T_b1 (fun K hK => ?_)
              simp only [pickOp]
              go_simp
              refine (C5.out _ (HP.out _ _ hw.out hH.1)).mono ?_
              rintro e wd0123a4 ⟨rfl, hbx⟩
              try go_wp2_with fail
              refine hK.out _ _ (ckeep (cbelow_on hH.1 hbx)) (fun hH' => ?_)
              clear hK K hH
              have hH := hH'
              clear hH'
              have A' := Lib.hid (AB.out.on hbx)
              clear AB
              have AB := A'
              clear A'
              clear hbx
              try simp only [pickOp, Act.put, List.setIfInBounds_toArray, List.set_cons_zero, List.set_cons_succ]
              refine T_pure ?_ (by rfl) (fun w hSw => ?_) ?_; rotate_left; ((try dsimp only at hSw); simp only [pickOp]; go_simp; try with_reducible rfl); try simp only [pickOp, Act.put, List.setIfInBounds_toArray, List.set_cons_zero, List.set_cons_succ]
              obtain ⟨p0, p1, p2, p3, p4⟩ : _ ∧ _ ∧ _ ∧ _ ∧ _ := ⟨AB.out.1 0 _ rfl, AB.out.1 1 _ rfl, AB.out.1 2 _ rfl, AB.out.1 3 _ rfl, AB.out.1 4 _ rfl⟩
              obtain ⟨f0, f1, f2, f3, f4⟩ : _ ∧ _ ∧ _ ∧ _ ∧ _ := ⟨AB.out.2 0 _ rfl, AB.out.2 1 _ rfl, AB.out.2 2 _ rfl, AB.out.2 3 _ rfl, AB.out.2 4 _ rfl⟩
              refine T_b1 (fun K hK => ?_)
              simp only [pickOp]
              go_simp
              refine hK.out _ _ (ckeep (below_put5 hH.1 LB.out _ _ _ _ _)) (fun hH' => ?_)
              clear hK K
              have A' := Lib.hid (AB.out.put5 (.string t1) (.string t2) (.string t3) (.string t4) (.string t5))
              clear p0 p1 p2 p3 p4 f0 f1 f2 f3 f4 AB hH
              try simp only [pickOp, Act.put, List.setIfInBounds_toArray, List.set_cons_zero, List.set_cons_succ]
              refine T_done (NoPanic.normal ?_)
              have HBz := Lib.hid hH'.1
              clear hH'
              go_wp2_with fail
              go_meet
              exact ⟨_, rfl, HBz.out, A'.out.1⟩
          · simp only [pickOp]
            go_simp
            refine hK.out _ _ (ckeep (cbelow_al hH.1 _)) (fun hH' => ?_)
            clear hK K
            have LB := Lib.hid hH.1.size
            clear hH
            have AB := Lib.hid (Blk.new wd012 110 [.string ⟨#[]⟩, .string ⟨#[]⟩, .string ⟨#[]⟩, .string ⟨#[]⟩, .string ⟨#[]⟩])
            try simp only [pickOp, Act.put, List.setIfInBounds_toArray, List.set_cons_zero, List.set_cons_succ]
            obtain ⟨wd012a, hwn⟩ : ∃ x, x = wd012.alloc (Obj.cells #[.string ⟨#[]⟩, .string ⟨#[]⟩, .string ⟨#[]⟩, .string ⟨#[]⟩, .string ⟨#[]⟩] 110) := ⟨_, rfl⟩
            rw [← hwn] at hH' ⊢
            have AB' := Lib.hid (show Blk wd012a wd012.heap.size [.string ⟨#[]⟩, .string ⟨#[]⟩, .string ⟨#[]⟩, .string ⟨#[]⟩, .string ⟨#[]⟩] by rw [hwn]; exact AB.out)
            clear AB
            have AB := AB'
            have hH := hH'
            clear AB' hH' hwn
            refine T_b1 (fun K hK => ?_)
            simp only [pickOp]
            go_simp
            refine (C4.out _ (HP.out _ _ hw.out hH.1)).mono ?_
            rintro e wd012a3 ⟨rfl, hbx⟩
            try go_wp2_with fail
            refine hK.out _ _ (ckeep (cbelow_on hH.1 hbx)) (fun hH' => ?_)
            clear hK K hH
            have hH := hH'
            clear hH'
            have A' := Lib.hid (AB.out.on hbx)
            clear AB
            have AB := A'
            clear A'
            clear hbx
            try simp only [pickOp, Act.put, List.setIfInBounds_toArray, List.set_cons_zero, List.set_cons_succ]
            refine T_b1 (fun K hK => ?_)
            simp only [pickOp]
            go_simp
            refine (C5.out _ (HP.out _ _ hw.out hH.1)).mono ?_
            rintro e wd012a34 ⟨rfl, hbx⟩
            try go_wp2_with fail
            refine hK.out _ _ (ckeep (cbelow_on hH.1 hbx)) (fun hH' => ?_)
            clear hK K hH
            have hH := hH'
            clear hH'
            have A' := Lib.hid (AB.out.on hbx)
            clear AB
            have AB := A'
            clear A'
            clear hbx
            try simp only [pickOp, Act.put, List.setIfInBounds_toArray, List.set_cons_zero, List.set_cons_succ]
            refine T_pure ?_ (by rfl) (fun w hSw => ?_) ?_; rotate_left; ((try dsimp only at hSw); simp only [pickOp]; go_simp; try with_reducible rfl); try simp only [pickOp, Act.put, List.setIfInBounds_toArray, List.set_cons_zero, List.set_cons_succ]
            obtain ⟨p0, p1, p2, p3, p4⟩ : _ ∧ _ ∧ _ ∧ _ ∧ _ := ⟨AB.out.1 0 _ rfl, AB.out.1 1 _ rfl, AB.out.1 2 _ rfl, AB.out.1 3 _ rfl, AB.out.1 4 _ rfl⟩
            obtain ⟨f0, f1, f2, f3, f4⟩ : _ ∧ _ ∧ _ ∧ _ ∧ _ := ⟨AB.out.2 0 _ rfl, AB.out.2 1 _ rfl, AB.out.2 2 _ rfl, AB.out.2 3 _ rfl, AB.out.2 4 _ rfl⟩
            refine T_b1 (fun K hK => ?_)
            simp only [pickOp]
            go_simp
            refine hK.out _ _ (ckeep (below_put5 hH.1 LB.out _ _ _ _ _)) (fun hH' => ?_)
            clear hK K
            have A' := Lib.hid (AB.out.put5 (.string t1) (.string t2) (.string t3) (.string t4) (.string t5))
            clear p0 p1 p2 p3 p4 f0 f1 f2 f3 f4 AB hH
            try simp only [pickOp, Act.put, List.setIfInBounds_toArray, List.set_cons_zero, List.set_cons_succ]
            refine T_done (NoPanic.normal ?_)
            have HBz := Lib.hid hH'.1
            clear hH'
            go_wp2_with fail
            go_meet
            exact ⟨_, rfl, HBz.out, A'.out.1⟩
        · simp only [pickOp]
          go_simp
          refine hK.out _ _ (ckeep (cbelow_al hH.1 _)) (fun hH' => ?_)
          clear hK K
          have LB := Lib.hid hH.1.size
          clear hH
          have AB := Lib.hid (Blk.new wd01 110 [.string ⟨#[]⟩, .string ⟨#[]⟩, .string ⟨#[]⟩, .string ⟨#[]⟩, .string ⟨#[]⟩])
          try simp only [pickOp, Act.put, List.setIfInBounds_toArray, List.set_cons_zero, List.set_cons_succ]
          obtain ⟨wd01a, hwn⟩ : ∃ x, x = wd01.alloc (Obj.cells #[.string ⟨#[]⟩, .string ⟨#[]⟩, .string ⟨#[]⟩, .string ⟨#[]⟩, .string ⟨#[]⟩] 110) := ⟨_, rfl⟩
          rw [← hwn] at hH' ⊢
          have AB' := Lib.hid (show Blk wd01a wd01.heap.size [.string ⟨#[]⟩, .string ⟨#[]⟩, .string ⟨#[]⟩, .string ⟨#[]⟩, .string ⟨#[]⟩] by rw [hwn]; exact AB.out)
          clear AB
          have AB := AB'
          have hH := hH'
          clear AB' hH' hwn
          refine T_b1 (fun K hK => ?_)
          simp only [pickOp]
          go_simp
          refine (C3.out _ (HP.out _ _ hw.out hH.1)).mono ?_
          rintro e wd01a2 ⟨rfl, hbx⟩
          try go_wp2_with fail
          refine hK.out _ _ (ckeep (cbelow_on hH.1 hbx)) (fun hH' => ?_)
          clear hK K hH
          have hH := hH'
          clear hH'
          have A' := Lib.hid (AB.out.on hbx)
          clear AB
          have AB := A'
          clear A'
          clear hbx
          try simp only [pickOp, Act.put, List.setIfInBounds_toArray, List.set_cons_zero, List.set_cons_succ]
          refine T_b1 (fun K hK => ?_)
          simp only [pickOp]
          go_simp
          refine (C4.out _ (HP.out _ _ hw.out hH.1)).mono ?_
          rintro e wd01a23 ⟨rfl, hbx⟩
          try go_wp2_with fail
          refine hK.out _ _ (ckeep (cbelow_on hH.1 hbx)) (fun hH' => ?_)
          clear hK K hH
          have hH := hH'
          clear hH'
          have A' := Lib.hid (AB.out.on hbx)
          clear AB
          have AB := A'
          clear A'
          clear hbx
          try simp only [pickOp, Act.put, List.setIfInBounds_toArray, List.set_cons_zero, List.set_cons_succ]
          refine T_b1 (fun K hK => ?_)
          simp only [pickOp]
          go_simp
          refine (C5.out _ (HP.out _ _ hw.out hH.1)).mono ?_
          rintro e wd01a234 ⟨rfl, hbx⟩
          try go_wp2_with fail
          refine hK.out _ _ (ckeep (cbelow_on hH.1 hbx)) (fun hH' => ?_)
          clear hK K hH
          have hH := hH'
          clear hH'
          have A' := Lib.hid (AB.out.on hbx)
          clear AB
          have AB := A'
          clear A'
          clear hbx
          try simp only [pickOp, Act.put, List.setIfInBounds_toArray, List.set_cons_zero, List.set_cons_succ]
          refine T_pure ?_ (by rfl) (fun w hSw => ?_) ?_; rotate_left; ((try dsimp only at hSw); simp only [pickOp]; go_simp; try with_reducible rfl); try simp only [pickOp, Act.put, List.setIfInBounds_toArray, List.set_cons_zero, List.set_cons_succ]
          obtain ⟨p0, p1, p2, p3, p4⟩ : _ ∧ _ ∧ _ ∧ _ ∧ _ := ⟨AB.out.1 0 _ rfl, AB.out.1 1 _ rfl, AB.out.1 2 _ rfl, AB.out.1 3 _ rfl, AB.out.1 4 _ rfl⟩
          obtain ⟨f0, f1, f2, f3, f4⟩ : _ ∧ _ ∧ _ ∧ _ ∧ _ := ⟨AB.out.2 0 _ rfl, AB.out.2 1 _ rfl, AB.out.2 2 _ rfl, AB.out.2 3 _ rfl, AB.out.2 4 _ rfl⟩
          refine T_b1 (fun K hK => ?_)
          simp only [pickOp]
          go_simp
          refine hK.out _ _ (ckeep (below_put5 hH.1 LB.out _ _ _ _ _)) (fun hH' => ?_)
          clear hK K
          have A' := Lib.hid (AB.out.put5 (.string t1) (.string t2) (.string t3) (.string t4) (.string t5))
          clear p0 p1 p2 p3 p4 f0 f1 f2 f3 f4 AB hH
          try simp only [pickOp, Act.put, List.setIfInBounds_toArray, List.set_cons_zero, List.set_cons_succ]
          refine T_done (NoPanic.normal ?_)
          have HBz := Lib.hid hH'.1
          clear hH'
          go_wp2_with fail
          go_meet
          exact ⟨_, rfl, HBz.out, A'.out.1⟩
      · simp only [pickOp]
        go_simp
        refine hK.out _ _ (ckeep (cbelow_al hH.1 _)) (fun hH' => ?_)
        clear hK K
        have LB := Lib.hid hH.1.size
        clear hH
        have AB := Lib.hid (Blk.new wd0 110 [.string ⟨#[]⟩, .string ⟨#[]⟩, .string ⟨#[]⟩, .string ⟨#[]⟩, .string ⟨#[]⟩])
        try simp only [pickOp, Act.put, List.setIfInBounds_toArray, List.set_cons_zero, List.set_cons_succ]
        obtain ⟨wd0a, hwn⟩ : ∃ x, x = wd0.alloc (Obj.cells #[.string ⟨#[]⟩, .string ⟨#[]⟩, .string ⟨#[]⟩, .string ⟨#[]⟩, .string ⟨#[]⟩] 110) := ⟨_, rfl⟩
        rw [← hwn] at hH' ⊢
        have AB' := Lib.hid (show Blk wd0a wd0.heap.size [.string ⟨#[]⟩, .string ⟨#[]⟩, .string ⟨#[]⟩, .string ⟨#[]⟩, .string ⟨#[]⟩] by rw [hwn]; exact AB.out)
        clear AB
        have AB := AB'
        have hH := hH'
        clear AB' hH' hwn
        refine T_b1 (fun K hK => ?_)
        simp only [pickOp]
        go_simp
        refine (C2.out _ (HP.out _ _ hw.out hH.1)).mono ?_
        rintro e wd0a1 ⟨rfl, hbx⟩
        try go_wp2_with fail
        refine hK.out _ _ (ckeep (cbelow_on hH.1 hbx)) (fun hH' => ?_)
        clear hK K hH
        have hH := hH'
        clear hH'
        have A' := Lib.hid (AB.out.on hbx)
        clear AB
        have AB := A'
        clear A'
        clear hbx
        try simp only [pickOp, Act.put, List.setIfInBounds_toArray, List.set_cons_zero, List.set_cons_succ]
        refine T_b1 (fun K hK => ?_)
        simp only [pickOp]
        go_simp
        refine (C3.out _ (HP.out _ _ hw.out hH.1)).mono ?_
        rintro e wd0a12 ⟨rfl, hbx⟩
        try go_wp2_with fail
        refine hK.out _ _ (ckeep (cbelow_on hH.1 hbx)) (fun hH' => ?_)
        clear hK K hH
        have hH := hH'
        clear hH'
        have A' := Lib.hid (AB.out.on hbx)
        clear AB
        have AB := A'
        clear A'
        clear hbx
        try simp only [pickOp, Act.put, List.setIfInBounds_toArray, List.set_cons_zero, List.set_cons_succ]
        refine T_b1 (fun K hK => ?_)
        simp only [pickOp]
        go_simp
        refine (C4.out _ (HP.out _ _ hw.out hH.1)).mono ?_
        rintro e wd0a123 ⟨rfl, hbx⟩
        try go_wp2_with fail
        refine hK.out _ _ (ckeep (cbelow_on hH.1 hbx)) (fun hH' => ?_)
        clear hK K hH
        have hH := hH'
        clear hH'
        have A' := Lib.hid (AB.out.on hbx)
        clear AB
        have AB := A'
        clear A'
        clear hbx
        try simp only [pickOp, Act.put, List.setIfInBounds_toArray, List.set_cons_zero, List.set_cons_succ]
        refine T_b1 (fun K hK => ?_)
        simp only [pickOp]
        go_simp
        refine (C5.out _ (HP.out _ _ hw.out hH.1)).mono ?_
        rintro e wd0a1234 ⟨rfl, hbx⟩
        try go_wp2_with fail
        refine hK.out _ _ (ckeep (cbelow_on hH.1 hbx)) (fun hH' => ?_)
        clear hK K hH
        have hH := hH'
        clear hH'
        have A' := Lib.hid (AB.out.on hbx)
        clear AB
        have AB := A'
        clear A'
        clear hbx
        try simp only [pickOp, Act.put, List.setIfInBounds_toArray, List.set_cons_zero, List.set_cons_succ]
        refine T_pure ?_ (by rfl) (fun w hSw => ?_) ?_; rotate_left; ((try dsimp only at hSw); simp only [pickOp]; go_simp; try with_reducible rfl); try simp only [pickOp, Act.put, List.setIfInBounds_toArray, List.set_cons_zero, List.set_cons_succ]
        obtain ⟨p0, p1, p2, p3, p4⟩ : _ ∧ _ ∧ _ ∧ _ ∧ _ := ⟨AB.out.1 0 _ rfl, AB.out.1 1 _ rfl, AB.out.1 2 _ rfl, AB.out.1 3 _ rfl, AB.out.1 4 _ rfl⟩
        obtain ⟨f0, f1, f2, f3, f4⟩ : _ ∧ _ ∧ _ ∧ _ ∧ _ := ⟨AB.out.2 0 _ rfl, AB.out.2 1 _ rfl, AB.out.2 2 _ rfl, AB.out.2 3 _ rfl, AB.out.2 4 _ rfl⟩
        refine T_b1 (fun K hK => ?_)
        simp only [pickOp]
        go_simp
        refine hK.out _ _ (ckeep (below_put5 hH.1 LB.out _ _ _ _ _)) (fun hH' => ?_)
        clear hK K
        have A' := Lib.hid (AB.out.put5 (.string t1) (.string t2) (.string t3) (.string t4) (.string t5))
        clear p0 p1 p2 p3 p4 f0 f1 f2 f3 f4 AB hH
        try simp only [pickOp, Act.put, List.setIfInBounds_toArray, List.set_cons_zero, List.set_cons_succ]
        refine T_done (NoPanic.normal ?_)
        have HBz := Lib.hid hH'.1
        clear hH'
        go_wp2_with fail
        go_meet
        exact ⟨_, rfl, HBz.out, A'.out.1⟩
    · simp only [pickOp]
      go_simp
      refine hK.out _ _ (ckeep (cbelow_al hH.1 _)) (fun hH' => ?_)
      clear hK K
      have LB := Lib.hid hH.1.size
      clear hH
      have AB := Lib.hid (Blk.new wd 110 [.string ⟨#[]⟩, .string ⟨#[]⟩, .string ⟨#[]⟩, .string ⟨#[]⟩, .string ⟨#[]⟩])
      try simp only [pickOp, Act.put, List.setIfInBounds_toArray, List.set_cons_zero, List.set_cons_succ]
      obtain ⟨wda, hwn⟩ : ∃ x, x = wd.alloc (Obj.cells #[.string ⟨#[]⟩, .string ⟨#[]⟩, .string ⟨#[]⟩, .string ⟨#[]⟩, .string ⟨#[]⟩] 110) := ⟨_, rfl⟩
      rw [← hwn] at hH' ⊢
      have AB' := Lib.hid (show Blk wda wd.heap.size [.string ⟨#[]⟩, .string ⟨#[]⟩, .string ⟨#[]⟩, .string ⟨#[]⟩, .string ⟨#[]⟩] by rw [hwn]; exact AB.out)
      clear AB
      have AB := AB'
      have hH := hH'
      clear AB' hH' hwn
      refine T_b1 (fun K hK => ?_)
      simp only [pickOp]
      go_simp
      refine (C1.out _ (HP.out _ _ hw.out hH.1)).mono ?_
      rintro e wda0 ⟨rfl, hbx⟩
      try go_wp2_with fail
      refine hK.out _ _ (ckeep (cbelow_on hH.1 hbx)) (fun hH' => ?_)
      clear hK K hH
      have hH := hH'
      clear hH'
      have A' := Lib.hid (AB.out.on hbx)
      clear AB
      have AB := A'
      clear A'
      clear hbx
      try simp only [pickOp, Act.put, List.setIfInBounds_toArray, List.set_cons_zero, List.set_cons_succ]
      refine T_b1 (fun K hK => ?_)
      simp only [pickOp]
      go_simp
      refine (C2.out _ (HP.out _ _ hw.out hH.1)).mono ?_
      rintro e wda01 ⟨rfl, hbx⟩
      try go_wp2_with fail
      refine hK.out _ _ (ckeep (cbelow_on hH.1 hbx)) (fun hH' => ?_)
      clear hK K hH
      have hH := hH'
      clear hH'
      have A' := Lib.hid (AB.out.on hbx)
      clear AB
      have AB := A'
      clear A'
      clear hbx
      try simp only [pickOp, Act.put, List.setIfInBounds_toArray, List.set_cons_zero, List.set_cons_succ]
      refine T_b1 (fun K hK => ?_)
      simp only [pickOp]
      go_simp
      refine (C3.out _ (HP.out _ _ hw.out hH.1)).mono ?_
      rintro e wda012 ⟨rfl, hbx⟩
      try go_wp2_with fail
      refine hK.out _ _ (ckeep (cbelow_on hH.1 hbx)) (fun hH' => ?_)
      clear hK K hH
      have hH := hH'
      clear hH'
      have A' := Lib.hid (AB.out.on hbx)
      clear AB
      have AB := A'
      clear A'
      clear hbx
      try simp only [pickOp, Act.put, List.setIfInBounds_toArray, List.set_cons_zero, List.set_cons_succ]
      refine T_b1 (fun K hK => ?_)
      simp only [pickOp]
      go_simp
      refine (C4.out _ (HP.out _ _ hw.out hH.1)).mono ?_
      rintro e wda0123 ⟨rfl, hbx⟩
      try go_wp2_with fail
      refine hK.out _ _ (ckeep (cbelow_on hH.1 hbx)) (fun hH' => ?_)
      clear hK K hH
      have hH := hH'
      clear hH'
      have A' := Lib.hid (AB.out.on hbx)
      clear AB
      have AB := A'
      clear A'
      clear hbx
      try simp only [pickOp, Act.put, List.setIfInBounds_toArray, List.set_cons_zero, List.set_cons_succ]
      refine T_b1 (fun K hK => ?_)
      simp only [pickOp]
      go_simp
      refine (C5.out _ (HP.out _ _ hw.out hH.1)).mono ?_
      rintro e wda01234 ⟨rfl, hbx⟩
      try go_wp2_with fail
      refine hK.out _ _ (ckeep (cbelow_on hH.1 hbx)) (fun hH' => ?_)
      clear hK K hH
      have hH := hH'
      clear hH'
      have A' := Lib.hid (AB.out.on hbx)
      clear AB
      have AB := A'
      clear A'
      clear hbx
      try simp only [pickOp, Act.put, List.setIfInBounds_toArray, List.set_cons_zero, List.set_cons_succ]
      refine T_pure ?_ (by rfl) (fun w hSw => ?_) ?_; rotate_left; ((try dsimp only at hSw); simp only [pickOp]; go_simp; try with_reducible rfl); try simp only [pickOp, Act.put, List.setIfInBounds_toArray, List.set_cons_zero, List.set_cons_succ]
      obtain ⟨p0, p1, p2, p3, p4⟩ : _ ∧ _ ∧ _ ∧ _ ∧ _ := ⟨AB.out.1 0 _ rfl, AB.out.1 1 _ rfl, AB.out.1 2 _ rfl, AB.out.1 3 _ rfl, AB.out.1 4 _ rfl⟩
      obtain ⟨f0, f1, f2, f3, f4⟩ : _ ∧ _ ∧ _ ∧ _ ∧ _ := ⟨AB.out.2 0 _ rfl, AB.out.2 1 _ rfl, AB.out.2 2 _ rfl, AB.out.2 3 _ rfl, AB.out.2 4 _ rfl⟩
      refine T_b1 (fun K hK => ?_)
      simp only [pickOp]
      go_simp
      refine hK.out _ _ (ckeep (below_put5 hH.1 LB.out _ _ _ _ _)) (fun hH' => ?_)
      clear hK K
      have A' := Lib.hid (AB.out.put5 (.string t1) (.string t2) (.string t3) (.string t4) (.string t5))
      clear p0 p1 p2 p3 p4 f0 f1 f2 f3 f4 AB hH
      try simp only [pickOp, Act.put, List.setIfInBounds_toArray, List.set_cons_zero, List.set_cons_succ]
      refine T_done (NoPanic.normal ?_)
      have HBz := Lib.hid hH'.1
      clear hH'
      go_wp2_with fail
      go_meet
      exact ⟨_, rfl, HBz.out, A'.out.1⟩
  case rest =>
    obtain ⟨g, rfl, hbx, hC⟩ := hcut
    have B1 := Lib.hid (cbelow_on B0.out hbx)
    clear hbx B0
    go_wp2_with fail
    refine (CJ.out _ _ hC).mono ?_
    rintro e w2 ⟨rfl, hb⟩
    have B2 := Lib.hid (cbelow_on B1.out hb)
    clear hb
    go_wp2
    go_ret
    exact ⟨rfl, B2.out⟩
set_option maxRecDepth 100000 in
set_option maxHeartbeats 8000000 in
theorem rfprint_core (a n b m p l h u v : Int) (t1 t2 t3 t4 t5 R : ByteArray) (s1 : t1.size ≤ 100) (s2 : t2.size ≤ 100) (s3 : t3.size ≤ 100) (s4 : t4.size ≤ 100) (s5 : t5.size ≤ 100) (hp : p = -1 ∨ 0 ≤ p)
    (C1 : Hid (∀ w, Calls Tryd.prog 29 #[pv a n] w fun e w' => e = .returned (.string t1) ∧ Below w.heap.size w w'))
    (C2 : Hid (∀ w, Calls Tryd.prog 29 #[pv b m] w fun e w' => e = .returned (.string t2) ∧ Below w.heap.size w w'))
    (C3 : Hid (0 ≤ p → ∀ w, Calls Tryd.prog 51 #[.int .i64 p] w fun e w' => e = .returned (.string t3) ∧ Below w.heap.size w w'))
    (h3 : p = -1 → t3 = ⟨#[97, 110, 121]⟩)
    (C4 : Hid (∀ w, Calls Tryd.prog 24 #[rv l h] w fun e w' => e = .returned (.string t4) ∧ Below w.heap.size w w'))
    (C5 : Hid (∀ w, Calls Tryd.prog 24 #[rv u v] w fun e w' => e = .returned (.string t5) ∧ Below w.heap.size w w'))
    (hR : Hid (t1 ++ ⟨#[32]⟩ ++ t2 ++ ⟨#[32]⟩ ++ t3 ++ ⟨#[32]⟩ ++ t4 ++ ⟨#[32]⟩ ++ t5 = R)) (w : World) : Calls Tryd.prog 44 #[fv a n b m p l h u v] w (SRet R w) := by
  unfold pv at C1 C2
  unfold rv at C4 C5
  obtain ⟨W0, hW0⟩ : ∃ W0, w.alloc (Obj.cells (fc a n b m p l h u v).toArray 62) = W0 := ⟨_, rfl⟩
  have F0 := Lib.hid (show Blk W0 w.heap.size (fc a n b m p l h u v) by rw [← hW0]; exact Blk.new _ _ _)
  have B0 := Lib.hid (show Below w.heap.size w W0 by rw [← hW0]; exact cbelow_al (Below.refl _ _) _)
  have c0 : ¬ 9223372036854775807 < t1.size + 1 := by omega
  have c1 : ¬ 9223372036854775807 < t1.size + 1 + t2.size := by omega
  have c2 : ¬ 9223372036854775807 < t1.size + 1 + t2.size + 1 := by omega
  have c3 : ¬ 9223372036854775807 < t1.size + 1 + t2.size + 1 + t3.size := by omega
  have c4 : ¬ 9223372036854775807 < t1.size + 1 + t2.size + 1 + t3.size + 1 := by omega
  have c5 : ¬ 9223372036854775807 < t1.size + 1 + t2.size + 1 + t3.size + 1 + t4.size := by omega
  have c6 : ¬ 9223372036854775807 < t1.size + 1 + t2.size + 1 + t3.size + 1 + t4.size + 1 := by omega
  have c7 : ¬ 9223372036854775807 < t1.size + 1 + t2.size + 1 + t3.size + 1 + t4.size + 1 + t5.size := by omega
  unfold fc at *
  unfold fv
  by_cases p1 : p = -1
  · subst p1
    obtain rfl := h3 rfl
    have k3 : ByteArray.size ⟨#[97, 110, 121]⟩ = 3 := rfl
    rw [k3] at c3 c4 c5 c6 c7
    go_enter Tryd.func44, Tryd.ntmps44
    go_upto_region 2 with fail
    clear hW0
    obtain ⟨z0, z1, z2, z3, z4, z5, z6, z7, z8⟩ : _ ∧ _ ∧ _ ∧ _ ∧ _ ∧ _ ∧ _ ∧ _ ∧ _ := ⟨F0.out.1 0 _ rfl, F0.out.1 1 _ rfl, F0.out.1 2 _ rfl, F0.out.1 3 _ rfl, F0.out.1 4 _ rfl, F0.out.1 5 _ rfl, F0.out.1 6 _ rfl, F0.out.1 7 _ rfl, F0.out.1 8 _ rfl⟩
    go_upto_region 4 with fail
    refine wp_region_noPanic ?_
    refine wp_region_along (S := fun w' => Below W0.heap.size W0 w' ∧ ∀ b o, (W0.cell? ⟨b, o, none⟩).isSome = true → w'.cell? ⟨b, o, none⟩ = W0.cell? ⟨b, o, none⟩) ([(0, true), (1, true), (4, true), (5, true), (9, true), (12, true), (13, true), (17, true), (18, true), (2, false), (3, true), (6, false), (7, true), (8, true), (10, true), (11, true)] ++ ([(14, false), (15, true), (16, true), (19, false), (20, true), (21, true)])) (by kernel_rfl) (by as_aux_lemma => kernel_rfl) (by kernel_rfl) (by kernel_rfl) (alongPre_append _ _ _ (by as_aux_lemma => kernel_rfl) (by as_aux_lemma => kernel_rfl)) (by as_aux_lemma => kernel_rfl) (fun _ _ _ _ _ h => h) (ckeep (Below.refl _ _).drew) (fun hH => ?_)
    simp only [List.cons_append, List.nil_append, stepsOf, pickOp]
    iterate 9 (first | (refine along_skip (by rfl) ?_; try simp only [Act.put, List.setIfInBounds_toArray, List.set_cons_zero, List.set_cons_succ]) | (refine along_pure ?_ (by rfl) (fun w hSw => ?_) ?_; rotate_left; ((try dsimp only at hSw); go_simp; try with_reducible rfl); try simp only [Act.put, List.setIfInBounds_toArray, List.set_cons_zero, List.set_cons_succ]))
    refine along_bar (fun K hK => ?_)
    go_simp
    refine (C1.out _).mono ?_
    rintro e w' ⟨rfl, hbx⟩
    try go_wp2_with fail
    refine hK.out _ _ (ckeep (cbelow_on hH.1 hbx)) (fun hH' => ?_)
    clear hK K hH
    have hH := hH'
    clear hH'
    clear hbx
    try simp only [Act.put, List.setIfInBounds_toArray, List.set_cons_zero, List.set_cons_succ]
    iterate 1 (first | (refine along_skip (by rfl) ?_; try simp only [Act.put, List.setIfInBounds_toArray, List.set_cons_zero, List.set_cons_succ]) | (refine along_pure ?_ (by rfl) (fun w hSw => ?_) ?_; rotate_left; ((try dsimp only at hSw); go_simp; try with_reducible rfl); try simp only [Act.put, List.setIfInBounds_toArray, List.set_cons_zero, List.set_cons_succ]))
    refine along_bar (fun K hK => ?_)
    go_simp
    refine (C2.out _).mono ?_
    rintro e w' ⟨rfl, hbx⟩
    try go_wp2_with fail
    refine hK.out _ _ (ckeep (cbelow_on hH.1 hbx)) (fun hH' => ?_)
    clear hK K hH
    have hH := hH'
    clear hH'
    clear hbx
    try simp only [Act.put, List.setIfInBounds_toArray, List.set_cons_zero, List.set_cons_succ]
    iterate 4 (first | (refine along_skip (by rfl) ?_; try simp only [Act.put, List.setIfInBounds_toArray, List.set_cons_zero, List.set_cons_succ]) | (refine along_pure ?_ (by rfl) (fun w hSw => ?_) ?_; rotate_left; ((try dsimp only at hSw); go_simp; try with_reducible rfl); try simp only [Act.put, List.setIfInBounds_toArray, List.set_cons_zero, List.set_cons_succ]))
    refine along_bar (fun K hK => ?_)
    go_simp
    refine (C4.out _).mono ?_
    rintro e w' ⟨rfl, hbx⟩
    try go_wp2_with fail
    refine hK.out _ _ (ckeep (cbelow_on hH.1 hbx)) (fun hH' => ?_)
    clear hK K hH
    have hH := hH'
    clear hH'
    clear hbx
    try simp only [Act.put, List.setIfInBounds_toArray, List.set_cons_zero, List.set_cons_succ]
    iterate 2 (first | (refine along_skip (by rfl) ?_; try simp only [Act.put, List.setIfInBounds_toArray, List.set_cons_zero, List.set_cons_succ]) | (refine along_pure ?_ (by rfl) (fun w hSw => ?_) ?_; rotate_left; ((try dsimp only at hSw); go_simp; try with_reducible rfl); try simp only [Act.put, List.setIfInBounds_toArray, List.set_cons_zero, List.set_cons_succ]))
    refine along_bar (fun K hK => ?_)
    go_simp
    refine (C5.out _).mono ?_
    rintro e w' ⟨rfl, hbx⟩
    try go_wp2_with fail
    refine hK.out _ _ (ckeep (cbelow_on hH.1 hbx)) (fun hH' => ?_)
    clear hK K hH
    have hH := hH'
    clear hH'
    clear hbx
    try simp only [Act.put, List.setIfInBounds_toArray, List.set_cons_zero, List.set_cons_succ]
    iterate 2 (first | (refine along_skip (by rfl) ?_; try simp only [Act.put, List.setIfInBounds_toArray, List.set_cons_zero, List.set_cons_succ]) | (refine along_pure ?_ (by rfl) (fun w hSw => ?_) ?_; rotate_left; ((try dsimp only at hSw); go_simp; try with_reducible rfl); try simp only [Act.put, List.setIfInBounds_toArray, List.set_cons_zero, List.set_cons_succ]))
    refine along_end (NoPanic.normal ?_)
    have B9 := Lib.hid (cbelow_on B0.out hH.1)
    clear hH
    go_wp2
    go_ret
    exact ⟨by rw [← hR.out]; rfl, B9.out⟩
  · have p2 : 0 ≤ p := by omega
    have p2' : decide (0 ≤ p) = true := decide_eq_true p2
    go_enter Tryd.func44, Tryd.ntmps44
    go_upto_region 2 with fail
    clear hW0
    obtain ⟨z0, z1, z2, z3, z4, z5, z6, z7, z8⟩ : _ ∧ _ ∧ _ ∧ _ ∧ _ ∧ _ ∧ _ ∧ _ ∧ _ := ⟨F0.out.1 0 _ rfl, F0.out.1 1 _ rfl, F0.out.1 2 _ rfl, F0.out.1 3 _ rfl, F0.out.1 4 _ rfl, F0.out.1 5 _ rfl, F0.out.1 6 _ rfl, F0.out.1 7 _ rfl, F0.out.1 8 _ rfl⟩
    go_wp2_with fail
    refine (C3.out p2 _).mono ?_
    rintro e W1 ⟨rfl, hb⟩
    have F1 := Lib.hid (F0.out.on hb)
    have B1 := Lib.hid (cbelow_on B0.out hb)
    clear hb F0 B0 z0 z1 z2 z3 z4 z5 z6 z7 z8
    go_upto_region 4 with fail
    obtain ⟨z0, z1, z2, z3, z4, z5, z6, z7, z8⟩ : _ ∧ _ ∧ _ ∧ _ ∧ _ ∧ _ ∧ _ ∧ _ ∧ _ := ⟨F1.out.1 0 _ rfl, F1.out.1 1 _ rfl, F1.out.1 2 _ rfl, F1.out.1 3 _ rfl, F1.out.1 4 _ rfl, F1.out.1 5 _ rfl, F1.out.1 6 _ rfl, F1.out.1 7 _ rfl, F1.out.1 8 _ rfl⟩
    refine wp_region_noPanic ?_
    refine wp_region_along (S := fun w' => Below W1.heap.size W1 w' ∧ ∀ b o, (W1.cell? ⟨b, o, none⟩).isSome = true → w'.cell? ⟨b, o, none⟩ = W1.cell? ⟨b, o, none⟩) ([(0, true), (1, true), (4, true), (5, true), (9, true), (12, true), (13, true), (17, true), (18, true), (2, false), (3, true), (6, false), (7, true), (8, true), (10, true), (11, true)] ++ ([(14, false), (15, true), (16, true), (19, false), (20, true), (21, true)])) (by kernel_rfl) (by as_aux_lemma => kernel_rfl) (by kernel_rfl) (by kernel_rfl) (alongPre_append _ _ _ (by as_aux_lemma => kernel_rfl) (by as_aux_lemma => kernel_rfl)) (by as_aux_lemma => kernel_rfl) (fun _ _ _ _ _ h => h) (ckeep (Below.refl _ _).drew) (fun hH => ?_)
    simp only [List.cons_append, List.nil_append, stepsOf, pickOp]
    iterate 9 (first | (refine along_skip (by rfl) ?_; try simp only [Act.put, List.setIfInBounds_toArray, List.set_cons_zero, List.set_cons_succ]) | (refine along_pure ?_ (by rfl) (fun w hSw => ?_) ?_; rotate_left; ((try dsimp only at hSw); go_simp; try with_reducible rfl); try simp only [Act.put, List.setIfInBounds_toArray, List.set_cons_zero, List.set_cons_succ]))
    refine along_bar (fun K hK => ?_)
    go_simp
    refine (C1.out _).mono ?_
    rintro e w' ⟨rfl, hbx⟩
    try go_wp2_with fail
    refine hK.out _ _ (ckeep (cbelow_on hH.1 hbx)) (fun hH' => ?_)
    clear hK K hH
    have hH := hH'
    clear hH'
    clear hbx
    try simp only [Act.put, List.setIfInBounds_toArray, List.set_cons_zero, List.set_cons_succ]
    iterate 1 (first | (refine along_skip (by rfl) ?_; try simp only [Act.put, List.setIfInBounds_toArray, List.set_cons_zero, List.set_cons_succ]) | (refine along_pure ?_ (by rfl) (fun w hSw => ?_) ?_; rotate_left; ((try dsimp only at hSw); go_simp; try with_reducible rfl); try simp only [Act.put, List.setIfInBounds_toArray, List.set_cons_zero, List.set_cons_succ]))
    refine along_bar (fun K hK => ?_)
    go_simp
    refine (C2.out _).mono ?_
    rintro e w' ⟨rfl, hbx⟩
    try go_wp2_with fail
    refine hK.out _ _ (ckeep (cbelow_on hH.1 hbx)) (fun hH' => ?_)
    clear hK K hH
    have hH := hH'
    clear hH'
    clear hbx
    try simp only [Act.put, List.setIfInBounds_toArray, List.set_cons_zero, List.set_cons_succ]
    iterate 4 (first | (refine along_skip (by rfl) ?_; try simp only [Act.put, List.setIfInBounds_toArray, List.set_cons_zero, List.set_cons_succ]) | (refine along_pure ?_ (by rfl) (fun w hSw => ?_) ?_; rotate_left; ((try dsimp only at hSw); go_simp; try with_reducible rfl); try simp only [Act.put, List.setIfInBounds_toArray, List.set_cons_zero, List.set_cons_succ]))
    refine along_bar (fun K hK => ?_)
    go_simp
    refine (C4.out _).mono ?_
    rintro e w' ⟨rfl, hbx⟩
    try go_wp2_with fail
    refine hK.out _ _ (ckeep (cbelow_on hH.1 hbx)) (fun hH' => ?_)
    clear hK K hH
    have hH := hH'
    clear hH'
    clear hbx
    try simp only [Act.put, List.setIfInBounds_toArray, List.set_cons_zero, List.set_cons_succ]
    iterate 2 (first | (refine along_skip (by rfl) ?_; try simp only [Act.put, List.setIfInBounds_toArray, List.set_cons_zero, List.set_cons_succ]) | (refine along_pure ?_ (by rfl) (fun w hSw => ?_) ?_; rotate_left; ((try dsimp only at hSw); go_simp; try with_reducible rfl); try simp only [Act.put, List.setIfInBounds_toArray, List.set_cons_zero, List.set_cons_succ]))
    refine along_bar (fun K hK => ?_)
    go_simp
    refine (C5.out _).mono ?_
    rintro e w' ⟨rfl, hbx⟩
    try go_wp2_with fail
    refine hK.out _ _ (ckeep (cbelow_on hH.1 hbx)) (fun hH' => ?_)
    clear hK K hH
    have hH := hH'
    clear hH'
    clear hbx
    try simp only [Act.put, List.setIfInBounds_toArray, List.set_cons_zero, List.set_cons_succ]
    iterate 2 (first | (refine along_skip (by rfl) ?_; try simp only [Act.put, List.setIfInBounds_toArray, List.set_cons_zero, List.set_cons_succ]) | (refine along_pure ?_ (by rfl) (fun w hSw => ?_) ?_; rotate_left; ((try dsimp only at hSw); go_simp; try with_reducible rfl); try simp only [Act.put, List.setIfInBounds_toArray, List.set_cons_zero, List.set_cons_succ]))
    refine along_end (NoPanic.normal ?_)
    have B9 := Lib.hid (cbelow_on B1.out hH.1)
    clear hH
    go_wp2
    go_ret
    exact ⟨by rw [← hR.out]; rfl, B9.out⟩
/-- What the walk of the document's Parse reads: its answer's block r, the filter's block f, the words' block g. -/
structure FR (w W : World) (r f g : Nat) (ss fs : List Value) : Prop where
  R : Blk W r (fc 0 0 0 0 0 0 0 0 0)
  F : Blk W f fs
  S : Cel W g ss
  B : Below w.heap.size w W
theorem FR.on {w W W' : World} {r f g : Nat} {ss fs : List Value} (h : FR w W r f g ss fs) (hb : Below W.heap.size W W') : FR w W' r f g ss fs := ⟨h.R.on hb, h.F.on hb, h.S.on hb, cbelow_on h.B hb⟩
theorem FR.setF {w W : World} {r f g : Nat} {ss fs : List Value} (h : FR w W r f g ss fs) (hrf : f ≠ r) (hgf : f ≠ g) (hw : w.heap.size ≤ f) (j : Nat) (y : Value) (hj : j < fs.length) : FR w (W.setCell ⟨f, j, none⟩ y) r f g ss (fs.set j y) :=
  ⟨h.R.far _ _ hrf, h.F.set j y hj, h.S.far _ _ hgf, h.B.setCell hw _⟩
set_option maxRecDepth 100000 in
set_option maxHeartbeats 8000000 in
theorem rfparse_any (s : ByteArray) (hs : s.size ≤ 300) (w : World) : Calls Tryd.prog 42 #[.string s] w (FRet (parseF s.data.toList) w) := by
  obtain ⟨T, hT⟩ : ∃ T, parseF s.data.toList = T := ⟨_, rfl⟩
  rw [hT]
  have HT := Lib.hid hT
  clear hT
  obtain ⟨W0, hW0⟩ : ∃ W0, w.alloc (Obj.cells (fc 0 0 0 0 0 0 0 0 0).toArray 62) = W0 := ⟨_, rfl⟩
  have hBW : Below w.heap.size w W0 := by rw [← hW0]; exact below_al (Below.refl _ _) _
  have HR0 := Lib.hid (show Blk W0 w.heap.size (fc 0 0 0 0 0 0 0 0 0) by rw [← hW0]; exact Blk.new _ _ _)
  have hsl : s.data.toList.length ≤ 300 := by rw [Array.length_toList]; exact hs
  have HLn := Lib.hid (fun x hx => Nat.le_trans (sp_part 32 s.data.toList x hx) hsl)
  have HSp := Lib.hid (rsplit_any 32 s hs W0)
  have hl1 := (sp_len 32 s.data.toList).1
  have HB0 := Lib.hid hBW
  clear hBW
  unfold fc at *
  go_enter Tryd.func42, Tryd.ntmps42
  go_upto_region 1 with fail
  clear hW0
  go_wp2_with fail
  refine HSp.out.mono ?_
  rintro e w1 ⟨v, rfl, hb, ho⟩
  have HB1 := Lib.hid (below_on HB0.out hb)
  have HR1 := Lib.hid (HR0.out.on hb)
  clear hb HSp HB0 HR0
  obtain ⟨L, hL⟩ : ∃ L, sp 32 s.data.toList = L := ⟨_, rfl⟩
  have HTL : Hid (∀ p0 p1 p2 p3 p4, L = [p0, p1, p2, p3, p4] → fparts (parseP p0) (parseP p1) (protoL p2) (parseR p3) (parseR p4) = T) := by
    intro p0 p1 p2 p3 p4 e
    have h := HT.out
    unfold parseF at h
    rw [hL, e] at h
    exact h
  have HTn : Hid (L.length ≠ 5 → T = (fl0, 6)) := by
    intro h; rw [← HT.out]; exact parseF_no _ (by rw [hL]; exact h)
  rw [hL] at ho hl1 HLn
  clear hL HT
  obtain ⟨g, cap, rfl, hgb, hcap, -⟩ := own_form ho hl1
  by_cases c : L.length = 5
  · obtain ⟨p0, p1, p2, p3, p4, rfl⟩ := five_of c
    have q0 := HLn.out p0 (by simp)
    have q1 := HLn.out p1 (by simp)
    have q2 := HLn.out p2 (by simp)
    have q3 := HLn.out p3 (by simp)
    have q4 := HLn.out p4 (by simp)
    have HTv : Hid (fparts (parseP p0) (parseP p1) (protoL p2) (parseR p3) (parseR p4) = T) := HTL.out _ _ _ _ _ rfl
    have HS1 : Hid (Cel w1 g [.string (mkS p0), .string (mkS p1), .string (mkS p2), .string (mkS p3), .string (mkS p4)]) := fun i v hv => by
      match i, hv with
      | 0, hv => cases hv; exact part_at ho rfl 0 (by simp)
      | 1, hv => cases hv; exact part_at ho rfl 1 (by simp)
      | 2, hv => cases hv; exact part_at ho rfl 2 (by simp)
      | 3, hv => cases hv; exact part_at ho rfl 3 (by simp)
      | 4, hv => cases hv; exact part_at ho rfl 4 (by simp)
      | n + 5, hv => simp at hv
    have hgw : g < w1.heap.size := cell_lt (o := 0) (by rw [HS1.out 0 _ rfl]; rfl)
    have hcap5 : 5 ≤ cap := by simpa using hcap
    have hrw : w.heap.size < w1.heap.size := HR1.out.lt
    have A0 : Hid (∀ w, Calls Tryd.prog 30 #[.string (mkS p0)] w (PRet (parseP p0) w)) := by
      intro w; have h := rpparse_any (mkS p0) (by rw [mkS_size]; exact q0) w; rw [mkS_list] at h; exact h
    have A1 : Hid (∀ w, Calls Tryd.prog 30 #[.string (mkS p1)] w (PRet (parseP p1) w)) := by
      intro w; have h := rpparse_any (mkS p1) (by rw [mkS_size]; exact q1) w; rw [mkS_list] at h; exact h
    have A3 : Hid (∀ w, Calls Tryd.prog 31 #[.string (mkS p3)] w (GRet (parseR p3) w)) := by
      intro w; have h := rgparse_any (mkS p3) (by rw [mkS_size]; exact q3) w; rw [mkS_list] at h; exact h
    have A4 : Hid (∀ w, Calls Tryd.prog 31 #[.string (mkS p4)] w (GRet (parseR p4) w)) := by
      intro w; have h := rgparse_any (mkS p4) (by rw [mkS_size]; exact q4) w; rw [mkS_list] at h; exact h
    have A2 : Hid (∀ w, Calls Tryd.prog 21 #[.string (mkS p2), .int .i64 255] w fun e w' => e = .returned (.tuple #[.int .i64 (nz 255 p2).1, .int .i64 (nz 255 p2).2]) ∧ w' = w) := by
      intro w; have h := rnum_any (mkS p2) 255 (by omega) (by rw [mkS_size]; unfold maxLen; omega) w; rw [mkS_list] at h; exact h
    have h2a : mkS p2 = ⟨#[97, 110, 121]⟩ → protoL p2 = (-1, 0) := fun e => by
      have e' : p2 = [97, 110, 121] := by have := congrArg (fun x : ByteArray => x.data.toList) e; rw [mkS_list] at this; exact this
      unfold protoL; rw [if_pos e']
    have h2b : mkS p2 ≠ ⟨#[97, 110, 121]⟩ → protoL p2 = (((nz 255 p2).1 : Int), (nz 255 p2).2) := fun e => by
      have e' : p2 ≠ [97, 110, 121] := fun q => e (by rw [q]; rfl)
      unfold protoL; rw [if_neg e']
    unfold PRet pv at A0 A1
    unfold GRet gv at A3 A4
    generalize mkS p0 = x0 at *
    generalize mkS p1 = x1 at *
    generalize mkS p2 = x2 at *
    generalize mkS p3 = x3 at *
    generalize mkS p4 = x4 at *
    generalize parseP p0 = t0 at *
    generalize parseP p1 = t1 at *
    generalize nz 255 p2 = z2 at *
    generalize protoL p2 = t2 at *
    generalize parseR p3 = t3 at *
    generalize parseR p4 = t4 at *
    obtain ⟨⟨a, n⟩, e0⟩ := t0
    obtain ⟨⟨b, m⟩, e1⟩ := t1
    obtain ⟨k2, f2⟩ := z2
    obtain ⟨⟨l, h⟩, e3⟩ := t3
    obtain ⟨⟨u, v⟩, e4⟩ := t4
    simp only at A0 A1 A2 A3 A4 h2b
    clear ho HTL HTn c hcap q0 q1 q2 q3 q4 HLn hl1
    have H2 := Lib.hid (And.intro h2a h2b)
    clear h2a h2b
    go_upto_region 6 with fail
    refine at_code (S := fun W => FR w W w.heap.size w1.heap.size g [.string x0, .string x1, .string x2, .string x3, .string x4] (fc 0 0 0 0 (-1) 0 0 0 0)) ?_ (fun W1 hW => ?_)
    · have k1 : Below w1.heap.size w1 (w1.alloc (Obj.cells (fc 0 0 0 0 (-1) 0 0 0 0).toArray 62)) := below_al (Below.refl _ _) _
      exact ⟨HR1.out.on k1, Blk.new _ _ _, HS1.out.on k1, below_on HB1.out k1⟩
    obtain ⟨f, hf⟩ : ∃ f, w1.heap.size = f := ⟨_, rfl⟩
    rw [hf] at hW hgw hrw ⊢
    have V0 := Lib.hid hW
    clear hW HR1 HB1 HS1 hf
    have n1 : f ≠ w.heap.size := by omega
    have n3 : f ≠ g := by omega
    have n9 : w.heap.size ≤ f := by omega
    unfold fc at V0
    have s0 := V0.out.S 0 _ rfl
    go_wp2_with fail
    refine (A0.out _).mono ?_
    rintro e w2 ⟨rfl, hb⟩
    have U := Lib.hid (V0.out.on hb)
    clear hb V0 s0 A0
    have c0 := U.out.F.1 0 _ rfl
    have d0 := U.out.F.2 0 _ rfl
    have c1 := U.out.F.1 1 _ rfl
    have d1 := U.out.F.2 1 _ rfl
    go_upto_region 7 with fail
    refine at_code (S := fun W => FR w W w.heap.size f g [.string x0, .string x1, .string x2, .string x3, .string x4] [.int .u32 (a : Int), .int .i64 (n : Int), .int .u32 0, .int .i64 0, .int .i64 (-1), .int .u16 0, .int .u16 0, .int .u16 0, .int .u16 0]) ((U.out.setF n1 n3 n9 0 (.int .u32 (a : Int)) (by simp)).setF n1 n3 n9 1 (.int .i64 (n : Int)) (by simp)) (fun W2 hW => ?_)
    have V1 := Lib.hid hW
    clear hW U c0 d0 c1 d1
    by_cases y0 : e0 = 0
    · subst y0
      have s1 := V1.out.S 1 _ rfl
      go_wp2_with fail
      refine (A1.out _).mono ?_
      rintro e w3 ⟨rfl, hb⟩
      have U := Lib.hid (V1.out.on hb)
      clear hb V1 s1 A1
      have c2 := U.out.F.1 2 _ rfl
      have d2 := U.out.F.2 2 _ rfl
      have c3 := U.out.F.1 3 _ rfl
      have d3 := U.out.F.2 3 _ rfl
      go_upto_region 10 with fail
      refine at_code (S := fun W => FR w W w.heap.size f g [.string x0, .string x1, .string x2, .string x3, .string x4] [.int .u32 (a : Int), .int .i64 (n : Int), .int .u32 (b : Int), .int .i64 (m : Int), .int .i64 (-1), .int .u16 0, .int .u16 0, .int .u16 0, .int .u16 0]) ((U.out.setF n1 n3 n9 2 (.int .u32 (b : Int)) (by simp)).setF n1 n3 n9 3 (.int .i64 (m : Int)) (by simp)) (fun W3 hW => ?_)
      have V2 := Lib.hid hW
      clear hW U c2 d2 c3 d3
      by_cases y1 : e1 = 0
      · subst y1
        have s2 := V2.out.S 2 _ rfl
        by_cases y : x2 = ⟨#[97, 110, 121]⟩
        · obtain rfl := H2.out.1 y
          subst y
          clear s2
          have s2 := V2.out.S 2 _ rfl
          have s3 := V2.out.S 3 _ rfl
          go_wp2_with fail
          refine (A3.out _).mono ?_
          rintro e w4 ⟨rfl, hb⟩
          have U := Lib.hid (V2.out.on hb)
          clear hb V2 s3 A3 s2
          have c5 := U.out.F.1 5 _ rfl
          have d5 := U.out.F.2 5 _ rfl
          have c6 := U.out.F.1 6 _ rfl
          have d6 := U.out.F.2 6 _ rfl
          go_upto_region 17 with fail
          refine at_code (S := fun W => FR w W w.heap.size f g [.string x0, .string x1, .string ⟨#[97, 110, 121]⟩, .string x3, .string x4] [.int .u32 (a : Int), .int .i64 (n : Int), .int .u32 (b : Int), .int .i64 (m : Int), .int .i64 (-1), .int .u16 (l : Int), .int .u16 (h : Int), .int .u16 0, .int .u16 0]) ((U.out.setF n1 n3 n9 5 (.int .u16 (l : Int)) (by simp)).setF n1 n3 n9 6 (.int .u16 (h : Int)) (by simp)) (fun W4 hW => ?_)
          have V3 := Lib.hid hW
          clear hW U c5 d5 c6 d6
          by_cases y3 : e3 = 0
          · subst y3
            have s4 := V3.out.S 4 _ rfl
            go_wp2_with fail
            refine (A4.out _).mono ?_
            rintro e w5 ⟨rfl, hb⟩
            have U := Lib.hid (V3.out.on hb)
            clear hb V3 s4 A4
            have c7 := U.out.F.1 7 _ rfl
            have d7 := U.out.F.2 7 _ rfl
            have c8 := U.out.F.1 8 _ rfl
            have d8 := U.out.F.2 8 _ rfl
            go_upto_region 20 with fail
            refine at_code (S := fun W => FR w W w.heap.size f g [.string x0, .string x1, .string ⟨#[97, 110, 121]⟩, .string x3, .string x4] [.int .u32 (a : Int), .int .i64 (n : Int), .int .u32 (b : Int), .int .i64 (m : Int), .int .i64 (-1), .int .u16 (l : Int), .int .u16 (h : Int), .int .u16 (u : Int), .int .u16 (v : Int)]) ((U.out.setF n1 n3 n9 7 (.int .u16 (u : Int)) (by simp)).setF n1 n3 n9 8 (.int .u16 (v : Int)) (by simp)) (fun W5 hW => ?_)
            have V4 := Lib.hid hW
            clear hW U c7 d7 c8 d8
            by_cases y4 : e4 = 0
            · subst y4
              have HTe : Hid (T = (⟨a, n, b, m, (-1), l, h, u, v⟩, 0)) := by show _ = _; rw [← HTv.out]; rfl
              obtain ⟨q0, q1, q2, q3, q4, q5, q6, q7, q8⟩ : _ ∧ _ ∧ _ ∧ _ ∧ _ ∧ _ ∧ _ ∧ _ ∧ _ := ⟨V4.out.R.1 0 _ rfl, V4.out.R.1 1 _ rfl, V4.out.R.1 2 _ rfl, V4.out.R.1 3 _ rfl, V4.out.R.1 4 _ rfl, V4.out.R.1 5 _ rfl, V4.out.R.1 6 _ rfl, V4.out.R.1 7 _ rfl, V4.out.R.1 8 _ rfl⟩
              obtain ⟨g0, g1, g2, g3, g4, g5, g6, g7, g8⟩ : _ ∧ _ ∧ _ ∧ _ ∧ _ ∧ _ ∧ _ ∧ _ ∧ _ := ⟨V4.out.R.2 0 _ rfl, V4.out.R.2 1 _ rfl, V4.out.R.2 2 _ rfl, V4.out.R.2 3 _ rfl, V4.out.R.2 4 _ rfl, V4.out.R.2 5 _ rfl, V4.out.R.2 6 _ rfl, V4.out.R.2 7 _ rfl, V4.out.R.2 8 _ rfl⟩
              obtain ⟨o0, o1, o2, o3, o4, o5, o6, o7, o8⟩ : _ ∧ _ ∧ _ ∧ _ ∧ _ ∧ _ ∧ _ ∧ _ ∧ _ := ⟨V4.out.F.1 0 _ rfl, V4.out.F.1 1 _ rfl, V4.out.F.1 2 _ rfl, V4.out.F.1 3 _ rfl, V4.out.F.1 4 _ rfl, V4.out.F.1 5 _ rfl, V4.out.F.1 6 _ rfl, V4.out.F.1 7 _ rfl, V4.out.F.1 8 _ rfl⟩
              go_wp2_with fail
              have hb9 := Blk.put9 V4.out.R (.int .u32 (a : Int)) (.int .i64 (n : Int)) (.int .u32 (b : Int)) (.int .i64 (m : Int)) (.int .i64 (-1)) (.int .u16 (l : Int)) (.int .u16 (h : Int)) (.int .u16 (u : Int)) (.int .u16 (v : Int))
              have bb9 := below_put9 V4.out.B (Nat.le_refl _) (.int .u32 (a : Int)) (.int .i64 (n : Int)) (.int .u32 (b : Int)) (.int .i64 (m : Int)) (.int .i64 (-1)) (.int .u16 (l : Int)) (.int .u16 (h : Int)) (.int .u16 (u : Int)) (.int .u16 (v : Int))
              refine at_body hb9 bb9 (fun W' HD' BB' => ?_)
              clear hb9 bb9
              obtain ⟨r0, r1, r2, r3, r4, r5, r6, r7, r8⟩ : _ ∧ _ ∧ _ ∧ _ ∧ _ ∧ _ ∧ _ ∧ _ ∧ _ := ⟨HD'.1 0 _ rfl, HD'.1 1 _ rfl, HD'.1 2 _ rfl, HD'.1 3 _ rfl, HD'.1 4 _ rfl, HD'.1 5 _ rfl, HD'.1 6 _ rfl, HD'.1 7 _ rfl, HD'.1 8 _ rfl⟩
              refine bodyPost_ret (v := .tuple #[.agg #[.int .u32 (a : Int), .int .i64 (n : Int), .int .u32 (b : Int), .int .i64 (m : Int), .int .i64 (-1), .int .u16 (l : Int), .int .u16 (h : Int), .int .u16 (u : Int), .int .u16 (v : Int)], .int .i64 0]) (by simp [results, Tryd.results42, go_sem, r0, r1, r2, r3, r4, r5, r6, r7, r8]) rfl ⟨?_, BB'⟩
              rw [HTe.out]; rfl
            · have y4' : (e4 != 0) = true := by simp; exact y4
              have HTe : Hid (T = (fl0, e4)) := by show _ = _; rw [← HTv.out]; unfold fparts; rw [if_pos rfl, if_pos rfl, if_pos rfl, if_pos rfl, if_neg y4]
              obtain ⟨q0, q1, q2, q3, q4, q5, q6, q7, q8⟩ : _ ∧ _ ∧ _ ∧ _ ∧ _ ∧ _ ∧ _ ∧ _ ∧ _ := ⟨V4.out.R.1 0 _ rfl, V4.out.R.1 1 _ rfl, V4.out.R.1 2 _ rfl, V4.out.R.1 3 _ rfl, V4.out.R.1 4 _ rfl, V4.out.R.1 5 _ rfl, V4.out.R.1 6 _ rfl, V4.out.R.1 7 _ rfl, V4.out.R.1 8 _ rfl⟩
              obtain ⟨g0, g1, g2, g3, g4, g5, g6, g7, g8⟩ : _ ∧ _ ∧ _ ∧ _ ∧ _ ∧ _ ∧ _ ∧ _ ∧ _ := ⟨V4.out.R.2 0 _ rfl, V4.out.R.2 1 _ rfl, V4.out.R.2 2 _ rfl, V4.out.R.2 3 _ rfl, V4.out.R.2 4 _ rfl, V4.out.R.2 5 _ rfl, V4.out.R.2 6 _ rfl, V4.out.R.2 7 _ rfl, V4.out.R.2 8 _ rfl⟩
              go_wp2_with fail
              have hb9 := Blk.put9 V4.out.R (.int .u32 0) (.int .i64 0) (.int .u32 0) (.int .i64 0) (.int .i64 0) (.int .u16 0) (.int .u16 0) (.int .u16 0) (.int .u16 0)
              have bb9 := below_put9 V4.out.B (Nat.le_refl _) (.int .u32 0) (.int .i64 0) (.int .u32 0) (.int .i64 0) (.int .i64 0) (.int .u16 0) (.int .u16 0) (.int .u16 0) (.int .u16 0)
              refine at_body hb9 bb9 (fun W' HD' BB' => ?_)
              clear hb9 bb9
              obtain ⟨r0, r1, r2, r3, r4, r5, r6, r7, r8⟩ : _ ∧ _ ∧ _ ∧ _ ∧ _ ∧ _ ∧ _ ∧ _ ∧ _ := ⟨HD'.1 0 _ rfl, HD'.1 1 _ rfl, HD'.1 2 _ rfl, HD'.1 3 _ rfl, HD'.1 4 _ rfl, HD'.1 5 _ rfl, HD'.1 6 _ rfl, HD'.1 7 _ rfl, HD'.1 8 _ rfl⟩
              refine bodyPost_ret (v := .tuple #[.agg #[.int .u32 0, .int .i64 0, .int .u32 0, .int .i64 0, .int .i64 0, .int .u16 0, .int .u16 0, .int .u16 0, .int .u16 0], .int .i64 e4]) (by simp [results, Tryd.results42, go_sem, r0, r1, r2, r3, r4, r5, r6, r7, r8]) rfl ⟨?_, BB'⟩
              rw [HTe.out]; rfl
          · have y3' : (e3 != 0) = true := by simp; exact y3
            have HTe : Hid (T = (fl0, e3)) := by show _ = _; rw [← HTv.out]; unfold fparts; rw [if_pos rfl, if_pos rfl, if_pos rfl, if_neg y3]
            obtain ⟨q0, q1, q2, q3, q4, q5, q6, q7, q8⟩ : _ ∧ _ ∧ _ ∧ _ ∧ _ ∧ _ ∧ _ ∧ _ ∧ _ := ⟨V3.out.R.1 0 _ rfl, V3.out.R.1 1 _ rfl, V3.out.R.1 2 _ rfl, V3.out.R.1 3 _ rfl, V3.out.R.1 4 _ rfl, V3.out.R.1 5 _ rfl, V3.out.R.1 6 _ rfl, V3.out.R.1 7 _ rfl, V3.out.R.1 8 _ rfl⟩
            obtain ⟨g0, g1, g2, g3, g4, g5, g6, g7, g8⟩ : _ ∧ _ ∧ _ ∧ _ ∧ _ ∧ _ ∧ _ ∧ _ ∧ _ := ⟨V3.out.R.2 0 _ rfl, V3.out.R.2 1 _ rfl, V3.out.R.2 2 _ rfl, V3.out.R.2 3 _ rfl, V3.out.R.2 4 _ rfl, V3.out.R.2 5 _ rfl, V3.out.R.2 6 _ rfl, V3.out.R.2 7 _ rfl, V3.out.R.2 8 _ rfl⟩
            go_wp2_with fail
            have hb9 := Blk.put9 V3.out.R (.int .u32 0) (.int .i64 0) (.int .u32 0) (.int .i64 0) (.int .i64 0) (.int .u16 0) (.int .u16 0) (.int .u16 0) (.int .u16 0)
            have bb9 := below_put9 V3.out.B (Nat.le_refl _) (.int .u32 0) (.int .i64 0) (.int .u32 0) (.int .i64 0) (.int .i64 0) (.int .u16 0) (.int .u16 0) (.int .u16 0) (.int .u16 0)
            refine at_body hb9 bb9 (fun W' HD' BB' => ?_)
            clear hb9 bb9
            obtain ⟨r0, r1, r2, r3, r4, r5, r6, r7, r8⟩ : _ ∧ _ ∧ _ ∧ _ ∧ _ ∧ _ ∧ _ ∧ _ ∧ _ := ⟨HD'.1 0 _ rfl, HD'.1 1 _ rfl, HD'.1 2 _ rfl, HD'.1 3 _ rfl, HD'.1 4 _ rfl, HD'.1 5 _ rfl, HD'.1 6 _ rfl, HD'.1 7 _ rfl, HD'.1 8 _ rfl⟩
            refine bodyPost_ret (v := .tuple #[.agg #[.int .u32 0, .int .i64 0, .int .u32 0, .int .i64 0, .int .i64 0, .int .u16 0, .int .u16 0, .int .u16 0, .int .u16 0], .int .i64 e3]) (by simp [results, Tryd.results42, go_sem, r0, r1, r2, r3, r4, r5, r6, r7, r8]) rfl ⟨?_, BB'⟩
            rw [HTe.out]; rfl
        · obtain rfl := H2.out.2 y
          have y' : (x2.toList == [97, 110, 121]) = false := by rw [beq_eq_false_iff_ne, ByteArray.toList_eq]; exact fun q => y (by apply ByteArray.ext; apply Array.ext'; exact q)
          go_wp2_with fail
          refine (A2.out _).mono ?_
          rintro e w4 ⟨rfl, rfl⟩
          have U := V2
          clear V2 s2 A2
          have c4 := U.out.F.1 4 _ rfl
          have d4 := U.out.F.2 4 _ rfl
          go_upto_region 14 with fail
          refine at_code (S := fun W => FR w W w.heap.size f g [.string x0, .string x1, .string x2, .string x3, .string x4] [.int .u32 (a : Int), .int .i64 (n : Int), .int .u32 (b : Int), .int .i64 (m : Int), .int .i64 (k2 : Int), .int .u16 0, .int .u16 0, .int .u16 0, .int .u16 0]) (U.out.setF n1 n3 n9 4 (.int .i64 (k2 : Int)) (by simp)) (fun W4 hW => ?_)
          have V3 := Lib.hid hW
          clear hW U c4 d4
          by_cases y2 : f2 = 0
          · subst y2
            have s3 := V3.out.S 3 _ rfl
            go_wp2_with fail
            refine (A3.out _).mono ?_
            rintro e w5 ⟨rfl, hb⟩
            have U := Lib.hid (V3.out.on hb)
            clear hb V3 s3 A3
            have c5 := U.out.F.1 5 _ rfl
            have d5 := U.out.F.2 5 _ rfl
            have c6 := U.out.F.1 6 _ rfl
            have d6 := U.out.F.2 6 _ rfl
            go_upto_region 17 with fail
            refine at_code (S := fun W => FR w W w.heap.size f g [.string x0, .string x1, .string x2, .string x3, .string x4] [.int .u32 (a : Int), .int .i64 (n : Int), .int .u32 (b : Int), .int .i64 (m : Int), .int .i64 (k2 : Int), .int .u16 (l : Int), .int .u16 (h : Int), .int .u16 0, .int .u16 0]) ((U.out.setF n1 n3 n9 5 (.int .u16 (l : Int)) (by simp)).setF n1 n3 n9 6 (.int .u16 (h : Int)) (by simp)) (fun W5 hW => ?_)
            have V4 := Lib.hid hW
            clear hW U c5 d5 c6 d6
            by_cases y3 : e3 = 0
            · subst y3
              have s4 := V4.out.S 4 _ rfl
              go_wp2_with fail
              refine (A4.out _).mono ?_
              rintro e w6 ⟨rfl, hb⟩
              have U := Lib.hid (V4.out.on hb)
              clear hb V4 s4 A4
              have c7 := U.out.F.1 7 _ rfl
              have d7 := U.out.F.2 7 _ rfl
              have c8 := U.out.F.1 8 _ rfl
              have d8 := U.out.F.2 8 _ rfl
              go_upto_region 20 with fail
              refine at_code (S := fun W => FR w W w.heap.size f g [.string x0, .string x1, .string x2, .string x3, .string x4] [.int .u32 (a : Int), .int .i64 (n : Int), .int .u32 (b : Int), .int .i64 (m : Int), .int .i64 (k2 : Int), .int .u16 (l : Int), .int .u16 (h : Int), .int .u16 (u : Int), .int .u16 (v : Int)]) ((U.out.setF n1 n3 n9 7 (.int .u16 (u : Int)) (by simp)).setF n1 n3 n9 8 (.int .u16 (v : Int)) (by simp)) (fun W6 hW => ?_)
              have V5 := Lib.hid hW
              clear hW U c7 d7 c8 d8
              by_cases y4 : e4 = 0
              · subst y4
                have HTe : Hid (T = (⟨a, n, b, m, k2, l, h, u, v⟩, 0)) := by show _ = _; rw [← HTv.out]; rfl
                obtain ⟨q0, q1, q2, q3, q4, q5, q6, q7, q8⟩ : _ ∧ _ ∧ _ ∧ _ ∧ _ ∧ _ ∧ _ ∧ _ ∧ _ := ⟨V5.out.R.1 0 _ rfl, V5.out.R.1 1 _ rfl, V5.out.R.1 2 _ rfl, V5.out.R.1 3 _ rfl, V5.out.R.1 4 _ rfl, V5.out.R.1 5 _ rfl, V5.out.R.1 6 _ rfl, V5.out.R.1 7 _ rfl, V5.out.R.1 8 _ rfl⟩
                obtain ⟨g0, g1, g2, g3, g4, g5, g6, g7, g8⟩ : _ ∧ _ ∧ _ ∧ _ ∧ _ ∧ _ ∧ _ ∧ _ ∧ _ := ⟨V5.out.R.2 0 _ rfl, V5.out.R.2 1 _ rfl, V5.out.R.2 2 _ rfl, V5.out.R.2 3 _ rfl, V5.out.R.2 4 _ rfl, V5.out.R.2 5 _ rfl, V5.out.R.2 6 _ rfl, V5.out.R.2 7 _ rfl, V5.out.R.2 8 _ rfl⟩
                obtain ⟨o0, o1, o2, o3, o4, o5, o6, o7, o8⟩ : _ ∧ _ ∧ _ ∧ _ ∧ _ ∧ _ ∧ _ ∧ _ ∧ _ := ⟨V5.out.F.1 0 _ rfl, V5.out.F.1 1 _ rfl, V5.out.F.1 2 _ rfl, V5.out.F.1 3 _ rfl, V5.out.F.1 4 _ rfl, V5.out.F.1 5 _ rfl, V5.out.F.1 6 _ rfl, V5.out.F.1 7 _ rfl, V5.out.F.1 8 _ rfl⟩
                go_wp2_with fail
                have hb9 := Blk.put9 V5.out.R (.int .u32 (a : Int)) (.int .i64 (n : Int)) (.int .u32 (b : Int)) (.int .i64 (m : Int)) (.int .i64 (k2 : Int)) (.int .u16 (l : Int)) (.int .u16 (h : Int)) (.int .u16 (u : Int)) (.int .u16 (v : Int))
                have bb9 := below_put9 V5.out.B (Nat.le_refl _) (.int .u32 (a : Int)) (.int .i64 (n : Int)) (.int .u32 (b : Int)) (.int .i64 (m : Int)) (.int .i64 (k2 : Int)) (.int .u16 (l : Int)) (.int .u16 (h : Int)) (.int .u16 (u : Int)) (.int .u16 (v : Int))
                refine at_body hb9 bb9 (fun W' HD' BB' => ?_)
                clear hb9 bb9
                obtain ⟨r0, r1, r2, r3, r4, r5, r6, r7, r8⟩ : _ ∧ _ ∧ _ ∧ _ ∧ _ ∧ _ ∧ _ ∧ _ ∧ _ := ⟨HD'.1 0 _ rfl, HD'.1 1 _ rfl, HD'.1 2 _ rfl, HD'.1 3 _ rfl, HD'.1 4 _ rfl, HD'.1 5 _ rfl, HD'.1 6 _ rfl, HD'.1 7 _ rfl, HD'.1 8 _ rfl⟩
                refine bodyPost_ret (v := .tuple #[.agg #[.int .u32 (a : Int), .int .i64 (n : Int), .int .u32 (b : Int), .int .i64 (m : Int), .int .i64 (k2 : Int), .int .u16 (l : Int), .int .u16 (h : Int), .int .u16 (u : Int), .int .u16 (v : Int)], .int .i64 0]) (by simp [results, Tryd.results42, go_sem, r0, r1, r2, r3, r4, r5, r6, r7, r8]) rfl ⟨?_, BB'⟩
                rw [HTe.out]; rfl
              · have y4' : (e4 != 0) = true := by simp; exact y4
                have HTe : Hid (T = (fl0, e4)) := by show _ = _; rw [← HTv.out]; unfold fparts; rw [if_pos rfl, if_pos rfl, if_pos rfl, if_pos rfl, if_neg y4]
                obtain ⟨q0, q1, q2, q3, q4, q5, q6, q7, q8⟩ : _ ∧ _ ∧ _ ∧ _ ∧ _ ∧ _ ∧ _ ∧ _ ∧ _ := ⟨V5.out.R.1 0 _ rfl, V5.out.R.1 1 _ rfl, V5.out.R.1 2 _ rfl, V5.out.R.1 3 _ rfl, V5.out.R.1 4 _ rfl, V5.out.R.1 5 _ rfl, V5.out.R.1 6 _ rfl, V5.out.R.1 7 _ rfl, V5.out.R.1 8 _ rfl⟩
                obtain ⟨g0, g1, g2, g3, g4, g5, g6, g7, g8⟩ : _ ∧ _ ∧ _ ∧ _ ∧ _ ∧ _ ∧ _ ∧ _ ∧ _ := ⟨V5.out.R.2 0 _ rfl, V5.out.R.2 1 _ rfl, V5.out.R.2 2 _ rfl, V5.out.R.2 3 _ rfl, V5.out.R.2 4 _ rfl, V5.out.R.2 5 _ rfl, V5.out.R.2 6 _ rfl, V5.out.R.2 7 _ rfl, V5.out.R.2 8 _ rfl⟩
                go_wp2_with fail
                have hb9 := Blk.put9 V5.out.R (.int .u32 0) (.int .i64 0) (.int .u32 0) (.int .i64 0) (.int .i64 0) (.int .u16 0) (.int .u16 0) (.int .u16 0) (.int .u16 0)
                have bb9 := below_put9 V5.out.B (Nat.le_refl _) (.int .u32 0) (.int .i64 0) (.int .u32 0) (.int .i64 0) (.int .i64 0) (.int .u16 0) (.int .u16 0) (.int .u16 0) (.int .u16 0)
                refine at_body hb9 bb9 (fun W' HD' BB' => ?_)
                clear hb9 bb9
                obtain ⟨r0, r1, r2, r3, r4, r5, r6, r7, r8⟩ : _ ∧ _ ∧ _ ∧ _ ∧ _ ∧ _ ∧ _ ∧ _ ∧ _ := ⟨HD'.1 0 _ rfl, HD'.1 1 _ rfl, HD'.1 2 _ rfl, HD'.1 3 _ rfl, HD'.1 4 _ rfl, HD'.1 5 _ rfl, HD'.1 6 _ rfl, HD'.1 7 _ rfl, HD'.1 8 _ rfl⟩
                refine bodyPost_ret (v := .tuple #[.agg #[.int .u32 0, .int .i64 0, .int .u32 0, .int .i64 0, .int .i64 0, .int .u16 0, .int .u16 0, .int .u16 0, .int .u16 0], .int .i64 e4]) (by simp [results, Tryd.results42, go_sem, r0, r1, r2, r3, r4, r5, r6, r7, r8]) rfl ⟨?_, BB'⟩
                rw [HTe.out]; rfl
            · have y3' : (e3 != 0) = true := by simp; exact y3
              have HTe : Hid (T = (fl0, e3)) := by show _ = _; rw [← HTv.out]; unfold fparts; rw [if_pos rfl, if_pos rfl, if_pos rfl, if_neg y3]
              obtain ⟨q0, q1, q2, q3, q4, q5, q6, q7, q8⟩ : _ ∧ _ ∧ _ ∧ _ ∧ _ ∧ _ ∧ _ ∧ _ ∧ _ := ⟨V4.out.R.1 0 _ rfl, V4.out.R.1 1 _ rfl, V4.out.R.1 2 _ rfl, V4.out.R.1 3 _ rfl, V4.out.R.1 4 _ rfl, V4.out.R.1 5 _ rfl, V4.out.R.1 6 _ rfl, V4.out.R.1 7 _ rfl, V4.out.R.1 8 _ rfl⟩
              obtain ⟨g0, g1, g2, g3, g4, g5, g6, g7, g8⟩ : _ ∧ _ ∧ _ ∧ _ ∧ _ ∧ _ ∧ _ ∧ _ ∧ _ := ⟨V4.out.R.2 0 _ rfl, V4.out.R.2 1 _ rfl, V4.out.R.2 2 _ rfl, V4.out.R.2 3 _ rfl, V4.out.R.2 4 _ rfl, V4.out.R.2 5 _ rfl, V4.out.R.2 6 _ rfl, V4.out.R.2 7 _ rfl, V4.out.R.2 8 _ rfl⟩
              go_wp2_with fail
              have hb9 := Blk.put9 V4.out.R (.int .u32 0) (.int .i64 0) (.int .u32 0) (.int .i64 0) (.int .i64 0) (.int .u16 0) (.int .u16 0) (.int .u16 0) (.int .u16 0)
              have bb9 := below_put9 V4.out.B (Nat.le_refl _) (.int .u32 0) (.int .i64 0) (.int .u32 0) (.int .i64 0) (.int .i64 0) (.int .u16 0) (.int .u16 0) (.int .u16 0) (.int .u16 0)
              refine at_body hb9 bb9 (fun W' HD' BB' => ?_)
              clear hb9 bb9
              obtain ⟨r0, r1, r2, r3, r4, r5, r6, r7, r8⟩ : _ ∧ _ ∧ _ ∧ _ ∧ _ ∧ _ ∧ _ ∧ _ ∧ _ := ⟨HD'.1 0 _ rfl, HD'.1 1 _ rfl, HD'.1 2 _ rfl, HD'.1 3 _ rfl, HD'.1 4 _ rfl, HD'.1 5 _ rfl, HD'.1 6 _ rfl, HD'.1 7 _ rfl, HD'.1 8 _ rfl⟩
              refine bodyPost_ret (v := .tuple #[.agg #[.int .u32 0, .int .i64 0, .int .u32 0, .int .i64 0, .int .i64 0, .int .u16 0, .int .u16 0, .int .u16 0, .int .u16 0], .int .i64 e3]) (by simp [results, Tryd.results42, go_sem, r0, r1, r2, r3, r4, r5, r6, r7, r8]) rfl ⟨?_, BB'⟩
              rw [HTe.out]; rfl
          · have y2' : (f2 != 0) = true := by simp; exact y2
            have HTe : Hid (T = (fl0, f2)) := by show _ = _; rw [← HTv.out]; unfold fparts; rw [if_pos rfl, if_pos rfl, if_neg y2]
            obtain ⟨q0, q1, q2, q3, q4, q5, q6, q7, q8⟩ : _ ∧ _ ∧ _ ∧ _ ∧ _ ∧ _ ∧ _ ∧ _ ∧ _ := ⟨V3.out.R.1 0 _ rfl, V3.out.R.1 1 _ rfl, V3.out.R.1 2 _ rfl, V3.out.R.1 3 _ rfl, V3.out.R.1 4 _ rfl, V3.out.R.1 5 _ rfl, V3.out.R.1 6 _ rfl, V3.out.R.1 7 _ rfl, V3.out.R.1 8 _ rfl⟩
            obtain ⟨g0, g1, g2, g3, g4, g5, g6, g7, g8⟩ : _ ∧ _ ∧ _ ∧ _ ∧ _ ∧ _ ∧ _ ∧ _ ∧ _ := ⟨V3.out.R.2 0 _ rfl, V3.out.R.2 1 _ rfl, V3.out.R.2 2 _ rfl, V3.out.R.2 3 _ rfl, V3.out.R.2 4 _ rfl, V3.out.R.2 5 _ rfl, V3.out.R.2 6 _ rfl, V3.out.R.2 7 _ rfl, V3.out.R.2 8 _ rfl⟩
            go_wp2_with fail
            have hb9 := Blk.put9 V3.out.R (.int .u32 0) (.int .i64 0) (.int .u32 0) (.int .i64 0) (.int .i64 0) (.int .u16 0) (.int .u16 0) (.int .u16 0) (.int .u16 0)
            have bb9 := below_put9 V3.out.B (Nat.le_refl _) (.int .u32 0) (.int .i64 0) (.int .u32 0) (.int .i64 0) (.int .i64 0) (.int .u16 0) (.int .u16 0) (.int .u16 0) (.int .u16 0)
            refine at_body hb9 bb9 (fun W' HD' BB' => ?_)
            clear hb9 bb9
            obtain ⟨r0, r1, r2, r3, r4, r5, r6, r7, r8⟩ : _ ∧ _ ∧ _ ∧ _ ∧ _ ∧ _ ∧ _ ∧ _ ∧ _ := ⟨HD'.1 0 _ rfl, HD'.1 1 _ rfl, HD'.1 2 _ rfl, HD'.1 3 _ rfl, HD'.1 4 _ rfl, HD'.1 5 _ rfl, HD'.1 6 _ rfl, HD'.1 7 _ rfl, HD'.1 8 _ rfl⟩
            refine bodyPost_ret (v := .tuple #[.agg #[.int .u32 0, .int .i64 0, .int .u32 0, .int .i64 0, .int .i64 0, .int .u16 0, .int .u16 0, .int .u16 0, .int .u16 0], .int .i64 f2]) (by simp [results, Tryd.results42, go_sem, r0, r1, r2, r3, r4, r5, r6, r7, r8]) rfl ⟨?_, BB'⟩
            rw [HTe.out]; rfl
      · have y1' : (e1 != 0) = true := by simp; exact y1
        have HTe : Hid (T = (fl0, e1)) := by show _ = _; rw [← HTv.out]; unfold fparts; rw [if_pos rfl, if_neg y1]
        obtain ⟨q0, q1, q2, q3, q4, q5, q6, q7, q8⟩ : _ ∧ _ ∧ _ ∧ _ ∧ _ ∧ _ ∧ _ ∧ _ ∧ _ := ⟨V2.out.R.1 0 _ rfl, V2.out.R.1 1 _ rfl, V2.out.R.1 2 _ rfl, V2.out.R.1 3 _ rfl, V2.out.R.1 4 _ rfl, V2.out.R.1 5 _ rfl, V2.out.R.1 6 _ rfl, V2.out.R.1 7 _ rfl, V2.out.R.1 8 _ rfl⟩
        obtain ⟨g0, g1, g2, g3, g4, g5, g6, g7, g8⟩ : _ ∧ _ ∧ _ ∧ _ ∧ _ ∧ _ ∧ _ ∧ _ ∧ _ := ⟨V2.out.R.2 0 _ rfl, V2.out.R.2 1 _ rfl, V2.out.R.2 2 _ rfl, V2.out.R.2 3 _ rfl, V2.out.R.2 4 _ rfl, V2.out.R.2 5 _ rfl, V2.out.R.2 6 _ rfl, V2.out.R.2 7 _ rfl, V2.out.R.2 8 _ rfl⟩
        go_wp2_with fail
        have hb9 := Blk.put9 V2.out.R (.int .u32 0) (.int .i64 0) (.int .u32 0) (.int .i64 0) (.int .i64 0) (.int .u16 0) (.int .u16 0) (.int .u16 0) (.int .u16 0)
        have bb9 := below_put9 V2.out.B (Nat.le_refl _) (.int .u32 0) (.int .i64 0) (.int .u32 0) (.int .i64 0) (.int .i64 0) (.int .u16 0) (.int .u16 0) (.int .u16 0) (.int .u16 0)
        refine at_body hb9 bb9 (fun W' HD' BB' => ?_)
        clear hb9 bb9
        obtain ⟨r0, r1, r2, r3, r4, r5, r6, r7, r8⟩ : _ ∧ _ ∧ _ ∧ _ ∧ _ ∧ _ ∧ _ ∧ _ ∧ _ := ⟨HD'.1 0 _ rfl, HD'.1 1 _ rfl, HD'.1 2 _ rfl, HD'.1 3 _ rfl, HD'.1 4 _ rfl, HD'.1 5 _ rfl, HD'.1 6 _ rfl, HD'.1 7 _ rfl, HD'.1 8 _ rfl⟩
        refine bodyPost_ret (v := .tuple #[.agg #[.int .u32 0, .int .i64 0, .int .u32 0, .int .i64 0, .int .i64 0, .int .u16 0, .int .u16 0, .int .u16 0, .int .u16 0], .int .i64 e1]) (by simp [results, Tryd.results42, go_sem, r0, r1, r2, r3, r4, r5, r6, r7, r8]) rfl ⟨?_, BB'⟩
        rw [HTe.out]; rfl
    · have y0' : (e0 != 0) = true := by simp; exact y0
      have HTe : Hid (T = (fl0, e0)) := by show _ = _; rw [← HTv.out]; unfold fparts; rw [if_neg y0]
      obtain ⟨q0, q1, q2, q3, q4, q5, q6, q7, q8⟩ : _ ∧ _ ∧ _ ∧ _ ∧ _ ∧ _ ∧ _ ∧ _ ∧ _ := ⟨V1.out.R.1 0 _ rfl, V1.out.R.1 1 _ rfl, V1.out.R.1 2 _ rfl, V1.out.R.1 3 _ rfl, V1.out.R.1 4 _ rfl, V1.out.R.1 5 _ rfl, V1.out.R.1 6 _ rfl, V1.out.R.1 7 _ rfl, V1.out.R.1 8 _ rfl⟩
      obtain ⟨g0, g1, g2, g3, g4, g5, g6, g7, g8⟩ : _ ∧ _ ∧ _ ∧ _ ∧ _ ∧ _ ∧ _ ∧ _ ∧ _ := ⟨V1.out.R.2 0 _ rfl, V1.out.R.2 1 _ rfl, V1.out.R.2 2 _ rfl, V1.out.R.2 3 _ rfl, V1.out.R.2 4 _ rfl, V1.out.R.2 5 _ rfl, V1.out.R.2 6 _ rfl, V1.out.R.2 7 _ rfl, V1.out.R.2 8 _ rfl⟩
      go_wp2_with fail
      have hb9 := Blk.put9 V1.out.R (.int .u32 0) (.int .i64 0) (.int .u32 0) (.int .i64 0) (.int .i64 0) (.int .u16 0) (.int .u16 0) (.int .u16 0) (.int .u16 0)
      have bb9 := below_put9 V1.out.B (Nat.le_refl _) (.int .u32 0) (.int .i64 0) (.int .u32 0) (.int .i64 0) (.int .i64 0) (.int .u16 0) (.int .u16 0) (.int .u16 0) (.int .u16 0)
      refine at_body hb9 bb9 (fun W' HD' BB' => ?_)
      clear hb9 bb9
      obtain ⟨r0, r1, r2, r3, r4, r5, r6, r7, r8⟩ : _ ∧ _ ∧ _ ∧ _ ∧ _ ∧ _ ∧ _ ∧ _ ∧ _ := ⟨HD'.1 0 _ rfl, HD'.1 1 _ rfl, HD'.1 2 _ rfl, HD'.1 3 _ rfl, HD'.1 4 _ rfl, HD'.1 5 _ rfl, HD'.1 6 _ rfl, HD'.1 7 _ rfl, HD'.1 8 _ rfl⟩
      refine bodyPost_ret (v := .tuple #[.agg #[.int .u32 0, .int .i64 0, .int .u32 0, .int .i64 0, .int .i64 0, .int .u16 0, .int .u16 0, .int .u16 0, .int .u16 0], .int .i64 e0]) (by simp [results, Tryd.results42, go_sem, r0, r1, r2, r3, r4, r5, r6, r7, r8]) rfl ⟨?_, BB'⟩
      rw [HTe.out]; rfl
  · have HTe : Hid (T = (fl0, 6)) := HTn.out c
    have c1 : ((L.length : Int) != 5) = true := by simp; omega
    obtain ⟨q0, q1, q2, q3, q4, q5, q6, q7, q8⟩ : _ ∧ _ ∧ _ ∧ _ ∧ _ ∧ _ ∧ _ ∧ _ ∧ _ := ⟨HR1.out.1 0 _ rfl, HR1.out.1 1 _ rfl, HR1.out.1 2 _ rfl, HR1.out.1 3 _ rfl, HR1.out.1 4 _ rfl, HR1.out.1 5 _ rfl, HR1.out.1 6 _ rfl, HR1.out.1 7 _ rfl, HR1.out.1 8 _ rfl⟩
    obtain ⟨g0, g1, g2, g3, g4, g5, g6, g7, g8⟩ : _ ∧ _ ∧ _ ∧ _ ∧ _ ∧ _ ∧ _ ∧ _ ∧ _ := ⟨HR1.out.2 0 _ rfl, HR1.out.2 1 _ rfl, HR1.out.2 2 _ rfl, HR1.out.2 3 _ rfl, HR1.out.2 4 _ rfl, HR1.out.2 5 _ rfl, HR1.out.2 6 _ rfl, HR1.out.2 7 _ rfl, HR1.out.2 8 _ rfl⟩
    go_wp2_with fail
    have hb9 := Blk.put9 HR1.out (.int .u32 0) (.int .i64 0) (.int .u32 0) (.int .i64 0) (.int .i64 0) (.int .u16 0) (.int .u16 0) (.int .u16 0) (.int .u16 0)
    have bb9 := below_put9 HB1.out (Nat.le_refl _) (.int .u32 0) (.int .i64 0) (.int .u32 0) (.int .i64 0) (.int .i64 0) (.int .u16 0) (.int .u16 0) (.int .u16 0) (.int .u16 0)
    refine at_body hb9 bb9 (fun W' HD' BB' => ?_)
    clear hb9 bb9
    obtain ⟨r0, r1, r2, r3, r4, r5, r6, r7, r8⟩ : _ ∧ _ ∧ _ ∧ _ ∧ _ ∧ _ ∧ _ ∧ _ ∧ _ := ⟨HD'.1 0 _ rfl, HD'.1 1 _ rfl, HD'.1 2 _ rfl, HD'.1 3 _ rfl, HD'.1 4 _ rfl, HD'.1 5 _ rfl, HD'.1 6 _ rfl, HD'.1 7 _ rfl, HD'.1 8 _ rfl⟩
    refine bodyPost_ret (v := .tuple #[.agg #[.int .u32 0, .int .i64 0, .int .u32 0, .int .i64 0, .int .i64 0, .int .u16 0, .int .u16 0, .int .u16 0, .int .u16 0], .int .i64 6]) (by simp [results, Tryd.results42, go_sem, r0, r1, r2, r3, r4, r5, r6, r7, r8]) rfl ⟨?_, BB'⟩
    rw [HTe.out]; rfl
end Go.Proofs.YtgbphocmnpjjpaaDoor
