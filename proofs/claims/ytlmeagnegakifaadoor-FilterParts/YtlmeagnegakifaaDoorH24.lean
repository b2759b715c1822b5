/- What the document's Parse answers: the header of a line, or what is wrong first. -/
import Derived.Test.YtlmeagnegakifaaDoorHQ
import Derived.Test.YtlmeagnegakifaaDoorH21
namespace Go.Proofs.YtlmeagnegakifaaDoor
open Go.RowKit
set_option linter.unusedVariables false

/-- What the loop reads: the words, the numbers so far, the greatest, the answer's block. -/
structure RL (w V : World) (g bn : Nat) (x2 x3 x4 : ByteArray) (a b c : Int) : Prop where
  s2 : V.cell? ⟨g, 2, none⟩ = some (.string x2)
  s3 : V.cell? ⟨g, 3, none⟩ = some (.string x3)
  s4 : V.cell? ⟨g, 4, none⟩ = some (.string x4)
  n : Tri V bn a b c
  m : Tri V (bn + 1) 255 65535 65535
  h : Hd V w.heap.size 0 0 0 0 0
  b : Below w.heap.size w V
theorem Hd.far {w : World} {b : Nat} {u1 u2 u3 u4 u5 : Int} (h : Hd w b u1 u2 u3 u4 u5) (p : Addr) (y : Value) (hp : p.block ≠ b) : Hd (w.setCell p y) b u1 u2 u3 u4 u5 := by
  obtain ⟨⟨h1, h2, h3, h4, h5⟩, f1, f2, f3, f4, f5⟩ := h
  refine ⟨⟨?_, ?_, ?_, ?_, ?_⟩, by simp [f1], by simp [f2], by simp [f3], by simp [f4], by simp [f5]⟩
  all_goals rw [World.cell?_setCell_far _ _ _ _ (by exact hp)]
  all_goals assumption
theorem Tri.drew {w : World} {b : Nat} {u v x : Int} (h : Tri w b u v x) : Tri w.drew b u v x := h
theorem str_drew {w : World} {g j : Nat} {x : ByteArray} (h : w.cell? ⟨g, j, none⟩ = some (.string x)) : w.drew.cell? ⟨g, j, none⟩ = some (.string x) := h
theorem RL.put {w V : World} {g bn : Nat} {x2 x3 x4 : ByteArray} {a b c a' b' c' : Int} (h : RL w V g bn x2 x3 x4 a b c) (hg : bn ≠ g) (hw : w.heap.size < bn) (o : Nat) (y : Value) (hn : Tri (V.setCell ⟨bn, o, none⟩ y) bn a' b' c') : RL w (V.setCell ⟨bn, o, none⟩ y).drew g bn x2 x3 x4 a' b' c' where
  s2 := str_drew (str_far h.s2 _ _ hg)
  s3 := str_drew (str_far h.s3 _ _ hg)
  s4 := str_drew (str_far h.s4 _ _ hg)
  n := hn.drew
  m := (Tri.far h.m _ _ (by show bn ≠ bn + 1; omega)).drew
  h := (Hd.far h.h _ _ (by show bn ≠ w.heap.size; omega)).drew
  b := (h.b.setCell (by show w.heap.size ≤ bn; omega) _).drew
set_option maxRecDepth 100000 in
set_option maxHeartbeats 8000000 in
theorem rhparse_any (s : ByteArray) (hs : s.size ≤ 300) (w : World) :
    Calls Tryd.prog 18 #[.string s] w (HRet (parseH s.data.toList) w) := by
  obtain ⟨T, hT⟩ : ∃ T, parseH s.data.toList = T := ⟨_, rfl⟩
  rw [hT]
  have HT := Lib.hid hT
  clear hT
  obtain ⟨W0, hW0⟩ : ∃ W0, w.alloc (Obj.cells #[.int .u32 0, .int .u32 0, .int .u8 0, .int .u16 0, .int .u16 0] 25) = W0 := ⟨_, rfl⟩
  have hBW : Below w.heap.size w W0 := by rw [← hW0]; exact below_al (Below.refl _ _) _
  have HR0 := Lib.hid (show Hd W0 w.heap.size 0 0 0 0 0 by rw [← hW0]; exact ⟨⟨by simp [go_sem], by simp [go_sem], by simp [go_sem], by simp [go_sem], by simp [go_sem]⟩, by simp [go_sem], by simp [go_sem], by simp [go_sem], by simp [go_sem], by simp [go_sem]⟩)
  have hsl : s.data.toList.length ≤ 300 := by rw [Array.length_toList]; exact hs
  have HLn := Lib.hid (fun x hx => Nat.le_trans (sp_part 32 s.data.toList x hx) hsl)
  have HSp := Lib.hid (rsplit_any 32 s hs W0)
  have hl1 := (sp_len 32 s.data.toList).1
  have hl2 := (sp_len 32 s.data.toList).2
  have HB0 := Lib.hid hBW
  clear hBW
  go_enter Tryd.func18, Tryd.ntmps18
  go_upto_region 1 with fail
  clear hW0
  go_wp2_with fail
  refine HSp.out.mono ?_
  rintro e w1 ⟨v, rfl, hb, ho⟩
  have HB1 := Lib.hid (below_on HB0.out hb)
  have HR1 := Lib.hid (HR0.out.on hb)
  have hw1 : W0.heap.size ≤ w1.heap.size := hb.size
  clear hb HSp HB0 HR0
  obtain ⟨L, hL⟩ : ∃ L, sp 32 s.data.toList = L := ⟨_, rfl⟩
  have HTL : Hid (∀ p0 p1 p2 p3 p4, L = [p0, p1, p2, p3, p4] → hparts (parseA p0) (parseA p1) (num3 (nz 255 p2) (nz 65535 p3) (nz 65535 p4)) = T) := by
    intro p0 p1 p2 p3 p4 e
    have h := HT.out
    unfold parseH at h
    rw [hL, e] at h
    exact h
  have HTn : Hid (L.length ≠ 5 → T = ((0, 0, 0, 0, 0), 6)) := by
    intro h; rw [← HT.out]; exact parseH_no _ (by rw [hL]; exact h)
  rw [hL] at ho hl1 hl2 HLn
  clear hL HT
  obtain ⟨g, cap, rfl, hgb, hcap, -⟩ := own_form ho hl1
  by_cases c : L.length = 5
  · obtain ⟨p0, p1, p2, p3, p4, rfl⟩ := five_of c
    have q0 := HLn.out p0 (by simp)
    have q1 := HLn.out p1 (by simp)
    have q2 := HLn.out p2 (by simp)
    have q3 := HLn.out p3 (by simp)
    have q4 := HLn.out p4 (by simp)
    have HTv : Hid (hparts (parseA p0) (parseA p1) (num3 (nz 255 p2) (nz 65535 p3) (nz 65535 p4)) = T) := HTL.out _ _ _ _ _ rfl
    have s0 : w1.cell? ⟨g, 0, none⟩ = some (.string (mkS p0)) := part_at ho rfl 0 (by simp)
    have s1 : w1.cell? ⟨g, 1, none⟩ = some (.string (mkS p1)) := part_at ho rfl 1 (by simp)
    have s2 : w1.cell? ⟨g, 2, none⟩ = some (.string (mkS p2)) := part_at ho rfl 2 (by simp)
    have s3 : w1.cell? ⟨g, 3, none⟩ = some (.string (mkS p3)) := part_at ho rfl 3 (by simp)
    have s4 : w1.cell? ⟨g, 4, none⟩ = some (.string (mkS p4)) := part_at ho rfl 4 (by simp)
    have hgw : g < w1.heap.size := cell_lt (o := 0) (by rw [s0]; rfl)
    have hcap5 : 5 ≤ cap := by simpa using hcap
    have A0 : Hid (∀ w, Calls Tryd.prog 19 #[.string (mkS p0)] w (ARet (parseA p0) w)) := by
      intro w; have h := rpaddr_any (mkS p0) (by rw [mkS_size]; exact q0) w; rw [mkS_list] at h; exact h
    have A1 : Hid (∀ w, Calls Tryd.prog 19 #[.string (mkS p1)] w (ARet (parseA p1) w)) := by
      intro w; have h := rpaddr_any (mkS p1) (by rw [mkS_size]; exact q1) w; rw [mkS_list] at h; exact h
    have N0 : Hid (∀ w, Calls Tryd.prog 21 #[.string (mkS p2), .int .i64 255] w fun e w' => e = .returned (.tuple #[.int .i64 (nz 255 p2).1, .int .i64 (nz 255 p2).2]) ∧ w' = w) := by
      intro w; have h := rnum_any (mkS p2) 255 (by omega) (by rw [mkS_size]; unfold maxLen; omega) w; rw [mkS_list] at h; exact h
    have N1 : Hid (∀ w, Calls Tryd.prog 21 #[.string (mkS p3), .int .i64 65535] w fun e w' => e = .returned (.tuple #[.int .i64 (nz 65535 p3).1, .int .i64 (nz 65535 p3).2]) ∧ w' = w) := by
      intro w; have h := rnum_any (mkS p3) 65535 (by omega) (by rw [mkS_size]; unfold maxLen; omega) w; rw [mkS_list] at h; exact h
    have N2 : Hid (∀ w, Calls Tryd.prog 21 #[.string (mkS p4), .int .i64 65535] w fun e w' => e = .returned (.tuple #[.int .i64 (nz 65535 p4).1, .int .i64 (nz 65535 p4).2]) ∧ w' = w) := by
      intro w; have h := rnum_any (mkS p4) 65535 (by omega) (by rw [mkS_size]; unfold maxLen; omega) w; rw [mkS_list] at h; exact h
    have b0 := (nz_le 255 p2).1
    have b1 := (nz_le 65535 p3).1
    have b2 := (nz_le 65535 p4).1
    unfold ARet at A0 A1
    generalize mkS p0 = x0 at *
    generalize mkS p1 = x1 at *
    generalize mkS p2 = x2 at *
    generalize mkS p3 = x3 at *
    generalize mkS p4 = x4 at *
    generalize parseA p0 = a0 at *
    generalize parseA p1 = a1 at *
    generalize nz 255 p2 = z0 at *
    generalize nz 65535 p3 = z1 at *
    generalize nz 65535 p4 = z2 at *
    obtain ⟨d, e0⟩ := a0
    obtain ⟨r, e1⟩ := a1
    obtain ⟨n0, f0⟩ := z0
    obtain ⟨n1, f1⟩ := z1
    obtain ⟨n2, f2⟩ := z2
    simp only at A0 A1 N0 N1 N2 b0 b1 b2
    clear ho HTL HTn HLn q0 q1 q2 q3 q4 hl1 hl2 c hcap hsl
    go_wp2_with fail
    refine (A0.out _).mono ?_
    rintro e w2 ⟨rfl, hb2⟩
    have HR2 := Lib.hid (HR1.out.on hb2)
    have HB2 := Lib.hid (below_on HB1.out hb2)
    have u1 := keepS s1 hb2
    have u2 := keepS s2 hb2
    have u3 := keepS s3 hb2
    have u4 := keepS s4 hb2
    have hg2 : g < w2.heap.size := Nat.lt_of_lt_of_le hgw hb2.size
    clear hb2 s0 s1 s2 s3 s4 HR1 HB1 A0
    by_cases y0 : e0 = 0
    · subst y0
      go_wp2_with fail
      refine (A1.out _).mono ?_
      rintro e w3 ⟨rfl, hb3⟩
      have HR3 := Lib.hid (HR2.out.on hb3)
      have HB3 := Lib.hid (below_on HB2.out hb3)
      have v2 := keepS u2 hb3
      have v3 := keepS u3 hb3
      have v4 := keepS u4 hb3
      have hg3 : g < w3.heap.size := Nat.lt_of_lt_of_le hg2 hb3.size
      clear hb3 u1 u2 u3 u4 HR2 HB2 A1
      by_cases y1 : e1 = 0
      · subst y1
        go_upto_region 12 with fail
        obtain ⟨V, hV⟩ : ∃ V, (w3.alloc (Obj.cells #[.int .i64 0, .int .i64 0, .int .i64 0] 3)).alloc (Obj.cells #[.int .i64 255, .int .i64 65535, .int .i64 65535] 3) = V := ⟨_, rfl⟩
        rw [hV]
        have hb4 : Below w3.heap.size w3 V := by rw [← hV]; exact below_al (below_al (Below.refl _ _) _) _
        have HL0 : Hid (RL w V g w3.heap.size x2 x3 x4 0 0 0) := by
          refine ⟨keepS v2 hb4, keepS v3 hb4, keepS v4 hb4, ?_, ?_, HR3.out.on hb4, below_on HB3.out hb4⟩
          · rw [← hV]; exact ⟨⟨by simp [go_sem], by simp [go_sem], by simp [go_sem]⟩, by simp [go_sem], by simp [go_sem], by simp [go_sem]⟩
          · rw [← hV]; exact ⟨⟨by simp [go_sem], by simp [go_sem], by simp [go_sem]⟩, by simp [go_sem], by simp [go_sem], by simp [go_sem]⟩
        have hws : w.heap.size < w3.heap.size := cell_lt (o := 0) (by rw [HR3.out.1.1]; rfl)
        obtain ⟨bn, hbn⟩ : ∃ bn, w3.heap.size = bn := ⟨_, rfl⟩
        simp only [hbn] at HL0 hws hg3 ⊢
        clear hV hb4 v2 v3 v4 HR3 HB3 hbn
        have hne : bn ≠ g := by omega
        have wr2 : IntKind.i64.wrap 2 = 2 := by decide
        have wr3 : IntKind.i64.wrap 3 = 3 := by decide
        have wr4 : IntKind.i64.wrap 4 = 4 := by decide
        go_wp2_with fail
        refine wp_loop_rounds 4 ?_
        rw [rounds_succ]
        obtain ⟨t2, t3, t4, ⟨⟨o0, o1, o2⟩, of0, of1, of2⟩, ⟨⟨m0, m1, m2⟩, -, -, -⟩, -, -⟩ := HL0.out
        go_upto_region 15 with fail
        refine wp_region_noPanic ?_
        refine wp_region_along (S := fun w' => w' = V.drew) ([(0, true), (1, true), (2, true), (3, true), (4, true), (5, true), (6, true), (7, true), (8, true), (9, false), (10, true), (11, true), (12, true), (13, true), (14, true)]) (by kernel_rfl) (by as_aux_lemma => kernel_rfl) (by kernel_rfl) (by kernel_rfl) (by as_aux_lemma => kernel_rfl) (by as_aux_lemma => kernel_rfl) (fun _ _ _ _ _ h => h) rfl (fun hH => ?_)
        simp only [stepsOf, pickOp]
        iterate 9 (refine along_pure ?_ (by rfl) (fun w hSw => ?_) ?_; rotate_left; (subst hSw; go_simp; try with_reducible rfl); try simp only [Act.put, List.setIfInBounds_toArray, List.set_cons_zero, List.set_cons_succ])
        refine along_bar (fun K hK => ?_)
        go_simp
        refine (N0.out _).mono ?_
        rintro e w' ⟨rfl, rfl⟩
        try go_wp2_with fail
        refine hK.out _ _ rfl (fun hH' => ?_)
        clear hK K hH
        have hH := hH'
        clear hH'
        try simp only [Act.put, List.setIfInBounds_toArray, List.set_cons_zero, List.set_cons_succ]
        iterate 5 (refine along_pure ?_ (by rfl) (fun w hSw => ?_) ?_; rotate_left; (subst hSw; go_simp; try with_reducible rfl); try simp only [Act.put, List.setIfInBounds_toArray, List.set_cons_zero, List.set_cons_succ])
        refine along_end (NoPanic.normal ?_)
        by_cases y2 : f0 = 0
        · subst y2
          go_wp2_with fail
          obtain ⟨V1, hV1⟩ : ∃ V1, (V.setCell ⟨bn, 0, none⟩ (.int .i64 (n0 : Int))).drew = V1 := ⟨_, rfl⟩
          rw [hV1]
          have HL1 : Hid (RL w V1 g bn x2 x3 x4 n0 0 0) := by show RL _ _ _ _ _ _ _ _ _ _; rw [← hV1]; exact HL0.out.put hne hws 0 _ (Tri.s0 HL0.out.n _)
          clear hV1 HL0 t2 t3 t4 o0 o1 o2 of0 of1 of2 m0 m1 m2 hH N0
          rw [rounds_succ]
          obtain ⟨t2, t3, t4, ⟨⟨o0, o1, o2⟩, of0, of1, of2⟩, ⟨⟨m0, m1, m2⟩, -, -, -⟩, -, -⟩ := HL1.out
          go_upto_region 15 with fail
          refine wp_region_noPanic ?_
          refine wp_region_along (S := fun w' => w' = V1.drew) ([(0, true), (1, true), (2, true), (3, true), (4, true), (5, true), (6, true), (7, true), (8, true), (9, false), (10, true), (11, true), (12, true), (13, true), (14, true)]) (by kernel_rfl) (by as_aux_lemma => kernel_rfl) (by kernel_rfl) (by kernel_rfl) (by as_aux_lemma => kernel_rfl) (by as_aux_lemma => kernel_rfl) (fun _ _ _ _ _ h => h) rfl (fun hH => ?_)
          simp only [stepsOf, pickOp]
          iterate 9 (refine along_pure ?_ (by rfl) (fun w hSw => ?_) ?_; rotate_left; (subst hSw; go_simp; try with_reducible rfl); try simp only [Act.put, List.setIfInBounds_toArray, List.set_cons_zero, List.set_cons_succ])
          refine along_bar (fun K hK => ?_)
          go_simp
          refine (N1.out _).mono ?_
          rintro e w' ⟨rfl, rfl⟩
          try go_wp2_with fail
          refine hK.out _ _ rfl (fun hH' => ?_)
          clear hK K hH
          have hH := hH'
          clear hH'
          try simp only [Act.put, List.setIfInBounds_toArray, List.set_cons_zero, List.set_cons_succ]
          iterate 5 (refine along_pure ?_ (by rfl) (fun w hSw => ?_) ?_; rotate_left; (subst hSw; go_simp; try with_reducible rfl); try simp only [Act.put, List.setIfInBounds_toArray, List.set_cons_zero, List.set_cons_succ])
          refine along_end (NoPanic.normal ?_)
          by_cases y3 : f1 = 0
          · subst y3
            go_wp2_with fail
            obtain ⟨V2, hV2⟩ : ∃ V2, (V1.setCell ⟨bn, 1, none⟩ (.int .i64 (n1 : Int))).drew = V2 := ⟨_, rfl⟩
            rw [hV2]
            have HL2 : Hid (RL w V2 g bn x2 x3 x4 n0 n1 0) := by show RL _ _ _ _ _ _ _ _ _ _; rw [← hV2]; exact HL1.out.put hne hws 1 _ (Tri.s1 HL1.out.n _)
            clear hV2 HL1 t2 t3 t4 o0 o1 o2 of0 of1 of2 m0 m1 m2 hH N1
            rw [rounds_succ]
            obtain ⟨t2, t3, t4, ⟨⟨o0, o1, o2⟩, of0, of1, of2⟩, ⟨⟨m0, m1, m2⟩, -, -, -⟩, -, -⟩ := HL2.out
            go_upto_region 15 with fail
            refine wp_region_noPanic ?_
            refine wp_region_along (S := fun w' => w' = V2.drew) ([(0, true), (1, true), (2, true), (3, true), (4, true), (5, true), (6, true), (7, true), (8, true), (9, false), (10, true), (11, true), (12, true), (13, true), (14, true)]) (by kernel_rfl) (by as_aux_lemma => kernel_rfl) (by kernel_rfl) (by kernel_rfl) (by as_aux_lemma => kernel_rfl) (by as_aux_lemma => kernel_rfl) (fun _ _ _ _ _ h => h) rfl (fun hH => ?_)
            simp only [stepsOf, pickOp]
            iterate 9 (refine along_pure ?_ (by rfl) (fun w hSw => ?_) ?_; rotate_left; (subst hSw; go_simp; try with_reducible rfl); try simp only [Act.put, List.setIfInBounds_toArray, List.set_cons_zero, List.set_cons_succ])
            refine along_bar (fun K hK => ?_)
            go_simp
            refine (N2.out _).mono ?_
            rintro e w' ⟨rfl, rfl⟩
            try go_wp2_with fail
            refine hK.out _ _ rfl (fun hH' => ?_)
            clear hK K hH
            have hH := hH'
            clear hH'
            try simp only [Act.put, List.setIfInBounds_toArray, List.set_cons_zero, List.set_cons_succ]
            iterate 5 (refine along_pure ?_ (by rfl) (fun w hSw => ?_) ?_; rotate_left; (subst hSw; go_simp; try with_reducible rfl); try simp only [Act.put, List.setIfInBounds_toArray, List.set_cons_zero, List.set_cons_succ])
            refine along_end (NoPanic.normal ?_)
            by_cases y4 : f2 = 0
            · subst y4
              go_wp2_with fail
              obtain ⟨V3, hV3⟩ : ∃ V3, (V2.setCell ⟨bn, 2, none⟩ (.int .i64 (n2 : Int))).drew = V3 := ⟨_, rfl⟩
              rw [hV3]
              have HL3 : Hid (RL w V3 g bn x2 x3 x4 n0 n1 n2) := by show RL _ _ _ _ _ _ _ _ _ _; rw [← hV3]; exact HL2.out.put hne hws 2 _ (Tri.s2 HL2.out.n _)
              clear hV3 HL2 t2 t3 t4 o0 o1 o2 of0 of1 of2 m0 m1 m2 hH N2
              rw [rounds_succ]
              obtain ⟨-, -, -, ⟨⟨o0, o1, o2⟩, of0, of1, of2⟩, -, ⟨⟨r1, r2, r3, r4, r5⟩, g1, g2, g3, g4, g5⟩, BX⟩ := HL3.out
              have HTe : Hid (T = ((d, r, n0, n1, n2), 0)) := by show _ = _; rw [← HTv.out]; rfl
              have BX' := Lib.hid BX
              clear BX
              have HDX := Lib.hid (HL3.out.h)
              have k0 : (n0 : Int) ≤ 255 := by omega
              have k1 : (n1 : Int) ≤ 65535 := by omega
              have k2 : (n2 : Int) ≤ 65535 := by omega
              have c0 : IntKind.u8.wrap (n0 : Int) = n0 := by rw [IntKind.wrap_u8]; omega
              have c1 : IntKind.u16.wrap (n1 : Int) = n1 := by rw [IntKind.wrap_u16]; omega
              have c2 : IntKind.u16.wrap (n2 : Int) = n2 := by rw [IntKind.wrap_u16]; omega
              go_upto_region 19 with fail
              refine wp_region_noPanic ?_
              refine wp_region_along (S := fun w' => w'.cell? ⟨bn, 0, none⟩ = some (.int .i64 (n0 : Int)) ∧ w'.cell? ⟨bn, 1, none⟩ = some (.int .i64 (n1 : Int)) ∧ w'.cell? ⟨bn, 2, none⟩ = some (.int .i64 (n2 : Int))) ([(0, true), (1, true), (2, true), (3, true), (4, true), (5, true), (6, true), (7, true), (8, true), (9, true), (10, true), (11, true), (12, true), (13, true), (14, true), (15, false)] ++ ([(16, true)])) (by kernel_rfl) (by as_aux_lemma => kernel_rfl) (by kernel_rfl) (by kernel_rfl) (alongPre_append _ _ _ (by as_aux_lemma => kernel_rfl) (by as_aux_lemma => kernel_rfl)) (by as_aux_lemma => kernel_rfl) (fun _ _ _ _ _ h => h) ⟨o0, o1, o2⟩ (fun hH => ?_)
              simp only [List.cons_append, List.nil_append, stepsOf, pickOp]
              iterate 15 (refine along_pure ?_ (by rfl) (fun w hSw => ?_) ?_; rotate_left; ((obtain ⟨l0, l1, l2⟩ := hSw); go_simp; try with_reducible rfl); try simp only [Act.put, List.setIfInBounds_toArray, List.set_cons_zero, List.set_cons_succ])
              refine along_bar (fun K hK => ?_)
              go_simp
              refine hK.out _ _ (by simp [go_sem, o0, o1, o2]) (fun hH' => ?_)
              clear hK K hH
              have hH := hH'
              clear hH'
              try simp only [Act.put, List.setIfInBounds_toArray, List.set_cons_zero, List.set_cons_succ]
              iterate 1 (refine along_pure ?_ (by rfl) (fun w hSw => ?_) ?_; rotate_left; ((obtain ⟨l0, l1, l2⟩ := hSw); go_simp; try with_reducible rfl); try simp only [Act.put, List.setIfInBounds_toArray, List.set_cons_zero, List.set_cons_succ])
              refine along_end (NoPanic.normal ?_)
              go_wp2_with fail
              refine at_hd (Q := fun W => bodyPost _ _ _ _ _ W) (Hd.put_d (HDX.out) d r n0 n1 n2) (below_put5_d (BX'.out) (Nat.le_refl _) _ _ _ _ _) (fun W' HD' BB' => ?_)
              obtain ⟨⟨r1, r2, r3, r4, r5⟩, -, -, -, -, -⟩ := HD'
              refine bodyPost_ret (v := .tuple #[hv d r n0 n1 n2, .int .i64 0]) (by simp [results, Tryd.results18, go_sem, r1, r2, r3, r4, r5]) rfl ⟨?_, BB'⟩
              rw [HTe.out]
            · have y4' : (f2 != 0) = true := by simp; exact y4
              have HTe : Hid (T = ((0, 0, 0, 0, 0), f2)) := by show _ = _; rw [← HTv.out]; unfold hparts num3; rw [if_pos rfl, if_pos rfl, if_neg y4]; simp only [if_pos]; rw [if_neg y4]
              obtain ⟨-, -, -, -, -, ⟨⟨r1, r2, r3, r4, r5⟩, g1, g2, g3, g4, g5⟩, BX⟩ := HL2.out
              have BX' := Lib.hid BX
              clear BX
              go_wp2_with fail
              refine at_hd (Q := fun W => bodyPost _ _ _ _ _ W) (Hd.put_d (HL2.out.h) 0 0 0 0 0) (below_put5_d (BX'.out) (Nat.le_refl _) _ _ _ _ _) (fun W' HD' BB' => ?_)
              obtain ⟨⟨r1, r2, r3, r4, r5⟩, -, -, -, -, -⟩ := HD'
              refine bodyPost_ret (v := .tuple #[hv 0 0 0 0 0, .int .i64 f2]) (by simp [results, Tryd.results18, go_sem, r1, r2, r3, r4, r5]) rfl ⟨?_, BB'⟩
              rw [HTe.out]; rfl
          · have y3' : (f1 != 0) = true := by simp; exact y3
            have HTe : Hid (T = ((0, 0, 0, 0, 0), f1)) := by show _ = _; rw [← HTv.out]; unfold hparts num3; rw [if_pos rfl, if_neg y3]; simp only [if_pos]; rw [if_neg y3]
            obtain ⟨-, -, -, -, -, ⟨⟨r1, r2, r3, r4, r5⟩, g1, g2, g3, g4, g5⟩, BX⟩ := HL1.out
            have BX' := Lib.hid BX
            clear BX
            go_wp2_with fail
            refine at_hd (Q := fun W => bodyPost _ _ _ _ _ W) (Hd.put_d (HL1.out.h) 0 0 0 0 0) (below_put5_d (BX'.out) (Nat.le_refl _) _ _ _ _ _) (fun W' HD' BB' => ?_)
            obtain ⟨⟨r1, r2, r3, r4, r5⟩, -, -, -, -, -⟩ := HD'
            refine bodyPost_ret (v := .tuple #[hv 0 0 0 0 0, .int .i64 f1]) (by simp [results, Tryd.results18, go_sem, r1, r2, r3, r4, r5]) rfl ⟨?_, BB'⟩
            rw [HTe.out]; rfl
        · have y2' : (f0 != 0) = true := by simp; exact y2
          have HTe : Hid (T = ((0, 0, 0, 0, 0), f0)) := by show _ = _; rw [← HTv.out]; unfold hparts num3; rw [if_neg y2]; simp only [if_pos]; rw [if_neg y2]
          obtain ⟨-, -, -, -, -, ⟨⟨r1, r2, r3, r4, r5⟩, g1, g2, g3, g4, g5⟩, BX⟩ := HL0.out
          have BX' := Lib.hid BX
          clear BX
          go_wp2_with fail
          refine at_hd (Q := fun W => bodyPost _ _ _ _ _ W) (Hd.put_d (HL0.out.h) 0 0 0 0 0) (below_put5_d (BX'.out) (Nat.le_refl _) _ _ _ _ _) (fun W' HD' BB' => ?_)
          obtain ⟨⟨r1, r2, r3, r4, r5⟩, -, -, -, -, -⟩ := HD'
          refine bodyPost_ret (v := .tuple #[hv 0 0 0 0 0, .int .i64 f0]) (by simp [results, Tryd.results18, go_sem, r1, r2, r3, r4, r5]) rfl ⟨?_, BB'⟩
          rw [HTe.out]; rfl
      · have y1' : (e1 != 0) = true := by simp; exact y1
        have HTe : Hid (T = ((0, 0, 0, 0, 0), e1)) := by show _ = _; rw [← HTv.out]; unfold hparts; rw [if_pos rfl, if_neg y1]
        obtain ⟨⟨r1, r2, r3, r4, r5⟩, g1, g2, g3, g4, g5⟩ := HR3.out
        have BX' := Lib.hid HB3.out
        go_wp2_with fail
        refine at_hd (Q := fun W => bodyPost _ _ _ _ _ W) (Hd.put (HR3.out) 0 0 0 0 0) (below_put5 (HB3.out) (Nat.le_refl _) _ _ _ _ _) (fun W' HD' BB' => ?_)
        obtain ⟨⟨r1, r2, r3, r4, r5⟩, -, -, -, -, -⟩ := HD'
        refine bodyPost_ret (v := .tuple #[hv 0 0 0 0 0, .int .i64 e1]) (by simp [results, Tryd.results18, go_sem, r1, r2, r3, r4, r5]) rfl ⟨?_, BB'⟩
        rw [HTe.out]; rfl
    · have y0' : (e0 != 0) = true := by simp; exact y0
      have HTe : Hid (T = ((0, 0, 0, 0, 0), e0)) := by show _ = _; rw [← HTv.out]; unfold hparts; rw [if_neg y0]
      obtain ⟨⟨r1, r2, r3, r4, r5⟩, g1, g2, g3, g4, g5⟩ := HR2.out
      have BX' := Lib.hid HB2.out
      go_wp2_with fail
      refine at_hd (Q := fun W => bodyPost _ _ _ _ _ W) (Hd.put (HR2.out) 0 0 0 0 0) (below_put5 (HB2.out) (Nat.le_refl _) _ _ _ _ _) (fun W' HD' BB' => ?_)
      obtain ⟨⟨r1, r2, r3, r4, r5⟩, -, -, -, -, -⟩ := HD'
      refine bodyPost_ret (v := .tuple #[hv 0 0 0 0 0, .int .i64 e0]) (by simp [results, Tryd.results18, go_sem, r1, r2, r3, r4, r5]) rfl ⟨?_, BB'⟩
      rw [HTe.out]; rfl
  · have HTe : Hid (T = ((0, 0, 0, 0, 0), 6)) := HTn.out c
    have c1 : ((L.length : Int) != 5) = true := by simp; omega
    obtain ⟨⟨r1, r2, r3, r4, r5⟩, g1, g2, g3, g4, g5⟩ := HR1.out
    have BX' := Lib.hid HB1.out
    go_wp2_with fail
    refine at_hd (Q := fun W => bodyPost _ _ _ _ _ W) (Hd.put (HR1.out) 0 0 0 0 0) (below_put5 (HB1.out) (Nat.le_refl _) _ _ _ _ _) (fun W' HD' BB' => ?_)
    obtain ⟨⟨r1, r2, r3, r4, r5⟩, -, -, -, -, -⟩ := HD'
    refine bodyPost_ret (v := .tuple #[hv 0 0 0 0 0, .int .i64 6]) (by simp [results, Tryd.results18, go_sem, r1, r2, r3, r4, r5]) rfl ⟨?_, BB'⟩
    rw [HTe.out]; rfl
end Go.Proofs.YtlmeagnegakifaaDoor
