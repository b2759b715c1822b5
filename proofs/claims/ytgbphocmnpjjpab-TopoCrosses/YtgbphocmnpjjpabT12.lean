/- TopoCrosses' call answers true. -/
import Derived.Test.YtgbphocmnpjjpabT9
import Derived.Test.YtgbphocmnpjjpabT11
namespace Go.Proofs.Ytgbphocmnpjjpab
open Go.RowKit
set_option linter.unusedVariables false

set_option maxRecDepth 100000 in
set_option maxHeartbeats 4000000 in
theorem crosses_core (pa : Option Addr) (np pc : Nat) (la : Option Addr) (nl lc : Nat) (aa : Option Addr) (na ac : Nat) (d p R Q x y cx : Int) (io : Bool) (g : Hr) (LT ok c1 c2 b : Bool) (P : World → Prop) (HP : Hid (∀ W w, P W → Below W.heap.size W w → P w))
    (LI : Hid (∀ w, Calls Try.prog 7 #[tv pa np pc la nl lc aa na ac] w fun e w' => e = .returned (.bool LT) ∧ Below w.heap.size w w'))
    (AW : Hid (∀ w, Calls Try.prog 8 #[] w fun e w' => e = .returned (.bool true) ∧ Below w.heap.size w w'))
    (RC : Hid (LT = true → (∀ w, P w → Calls Try.prog 10 #[tv pa np pc la nl lc aa na ac] w fun e w' => e = .returned (.int .i64 R) ∧ Below w.heap.size w w')))
    (RP : Hid (LT = true → (∀ w, P w → Calls Try.prog 12 #[tv pa np pc la nl lc aa na ac, .int .i64 d, .int .i64 p] w fun e w' => e = .returned (.int .i64 Q) ∧ Below w.heap.size w w')))
    (PE : Hid (LT = true → (∀ w, P w → Calls Try.prog 13 #[tv pa np pc la nl lc aa na ac, .int .i64 d, .int .i64 p] w fun e w' => e = .returned (.tuple #[.int .i64 x, .int .i64 y, .bool ok]) ∧ Below w.heap.size w w')))
    (RE : Hid (LT = true → (∀ w, P w → Calls Try.prog 14 #[tv pa np pc la nl lc aa na ac, .int .i64 d, .int .i64 p] w fun e w' => e = .returned (.tuple #[.int .i64 x, .int .i64 y, .bool ok]) ∧ Below w.heap.size w w')))
    (rest : Hid (LT = true → R = 0 → Q = 0 → (∀ w, P w → Calls Try.prog 15 #[tv pa np pc la nl lc aa na ac, .int .i64 d, .int .i64 p, g.val] w fun e w' => e = .returned (.tuple #[.int .i64 cx, .bool c1, .bool c2]) ∧ Below w.heap.size w w') ∧ (∀ w, P w → Calls Try.prog 16 #[tv pa np pc la nl lc aa na ac, .int .i64 d, .int .i64 p, g.val] w fun e w' => e = .returned (.tuple #[.int .i64 cx, .bool c1, .bool c2]) ∧ Below w.heap.size w w') ∧
      (∀ w, P w → Calls Try.prog 17 #[tv pa np pc la nl lc aa na ac, .int .i64 d, .int .i64 p, .bool io, g.val] w fun e w' => e = .returned (.bool b) ∧ Below w.heap.size w w') ∧ (∀ w, P w → Calls Try.prog 18 #[tv pa np pc la nl lc aa na ac, .int .i64 d, .int .i64 p, .bool io, g.val] w fun e w' => e = .returned (.bool b) ∧ Below w.heap.size w w')))
    (w : World) (hw : P w) : Calls Try.prog 4 #[tv pa np pc la nl lc aa na ac, .int .i64 d, .int .i64 p, .bool io, g.val] w fun e w' => e = .returned (.bool true) ∧ Below w.heap.size w w' := by
  obtain ⟨W0, hW0⟩ : ∃ W0, (w.alloc (Obj.cells (tc pa np pc la nl lc aa na ac).toArray 26)).alloc (Obj.cells (hc g.d g.s g.q g.x g.y).toArray 38) = W0 := ⟨_, rfl⟩
  have B0 := Lib.hid (show Below w.heap.size w W0 by rw [← hW0]; exact cbelow_al (cbelow_al (Below.refl _ _) _) _)
  have T0 := Lib.hid (show Blk W0 w.heap.size (tc pa np pc la nl lc aa na ac) by rw [← hW0]; exact (Blk.new _ _ _).on (cbelow_al (Below.refl _ _) _))
  have K0 := Lib.hid (show Blk W0 (w.heap.size + 1) (hc g.d g.s g.q g.x g.y) by rw [← hW0]; have k := Blk.new (w.alloc (Obj.cells (tc pa np pc la nl lc aa na ac).toArray 26)) 38 (hc g.d g.s g.q g.x g.y); rw [World.size_alloc] at k; exact k)
  have hP0 := Lib.hid (HP.out _ _ hw B0.out)
  clear hw
  unfold tc hc at *
  unfold tv Hr.val hv at *
  go_enter Try.func4, Try.ntmps4
  go_upto_region 1 with fail
  clear hW0
  obtain ⟨t_0, t_1, t_2⟩ : _ ∧ _ ∧ _ := ⟨T0.out.1 0 _ rfl, T0.out.1 1 _ rfl, T0.out.1 2 _ rfl⟩
  obtain ⟨k_0, k_1, k_2, k_3, k_4⟩ : _ ∧ _ ∧ _ ∧ _ ∧ _ := ⟨K0.out.1 0 _ rfl, K0.out.1 1 _ rfl, K0.out.1 2 _ rfl, K0.out.1 3 _ rfl, K0.out.1 4 _ rfl⟩
  go_wp2_with fail
  refine (LI.out _).mono ?_
  rintro e w1 ⟨rfl, hb⟩
  have T1 := Lib.hid (T0.out.on hb)
  have K1 := Lib.hid (K0.out.on hb)
  have B1 := Lib.hid (cbelow_on B0.out hb)
  have hP1 := Lib.hid (HP.out _ _ hP0.out hb)
  clear hb t_0 t_1 t_2 k_0 k_1 k_2 k_3 k_4 T0 K0 B0 hP0
  obtain ⟨t_0, t_1, t_2⟩ : _ ∧ _ ∧ _ := ⟨T1.out.1 0 _ rfl, T1.out.1 1 _ rfl, T1.out.1 2 _ rfl⟩
  obtain ⟨k_0, k_1, k_2, k_3, k_4⟩ : _ ∧ _ ∧ _ ∧ _ ∧ _ := ⟨K1.out.1 0 _ rfl, K1.out.1 1 _ rfl, K1.out.1 2 _ rfl, K1.out.1 3 _ rfl, K1.out.1 4 _ rfl⟩
  cases LT with
  | false =>
    go_wp2_with fail
    refine (AW.out _).mono ?_
    rintro e w2 ⟨rfl, hb⟩
    have T2 := Lib.hid (T1.out.on hb)
    have K2 := Lib.hid (K1.out.on hb)
    have B2 := Lib.hid (cbelow_on B1.out hb)
    have hP2 := Lib.hid (HP.out _ _ hP1.out hb)
    clear hb t_0 t_1 t_2 k_0 k_1 k_2 k_3 k_4 T1 K1 B1 hP1
    go_wp2
    go_ret
    exact ⟨rfl, B2.out⟩
  | true =>
    replace RC := Lib.hid (RC.out rfl)
    replace RP := Lib.hid (RP.out rfl)
    replace PE := Lib.hid (PE.out rfl)
    replace RE := Lib.hid (RE.out rfl)
    replace rest := Lib.hid (rest.out rfl)
    go_wp2_with fail
    refine (RC.out _ hP1.out).mono ?_
    rintro e w2 ⟨rfl, hb⟩
    have T2 := Lib.hid (T1.out.on hb)
    have K2 := Lib.hid (K1.out.on hb)
    have B2 := Lib.hid (cbelow_on B1.out hb)
    have hP2 := Lib.hid (HP.out _ _ hP1.out hb)
    clear hb t_0 t_1 t_2 k_0 k_1 k_2 k_3 k_4 T1 K1 B1 hP1
    obtain ⟨t_0, t_1, t_2⟩ : _ ∧ _ ∧ _ := ⟨T2.out.1 0 _ rfl, T2.out.1 1 _ rfl, T2.out.1 2 _ rfl⟩
    obtain ⟨k_0, k_1, k_2, k_3, k_4⟩ : _ ∧ _ ∧ _ ∧ _ ∧ _ := ⟨K2.out.1 0 _ rfl, K2.out.1 1 _ rfl, K2.out.1 2 _ rfl, K2.out.1 3 _ rfl, K2.out.1 4 _ rfl⟩
    by_cases e1 : R = 0
    · subst e1
      go_wp2_with fail
      refine (RP.out _ hP2.out).mono ?_
      rintro e w3 ⟨rfl, hb⟩
      have T3 := Lib.hid (T2.out.on hb)
      have K3 := Lib.hid (K2.out.on hb)
      have B3 := Lib.hid (cbelow_on B2.out hb)
      have hP3 := Lib.hid (HP.out _ _ hP2.out hb)
      clear hb t_0 t_1 t_2 k_0 k_1 k_2 k_3 k_4 T2 K2 B2 hP2
      obtain ⟨t_0, t_1, t_2⟩ : _ ∧ _ ∧ _ := ⟨T3.out.1 0 _ rfl, T3.out.1 1 _ rfl, T3.out.1 2 _ rfl⟩
      obtain ⟨k_0, k_1, k_2, k_3, k_4⟩ : _ ∧ _ ∧ _ ∧ _ ∧ _ := ⟨K3.out.1 0 _ rfl, K3.out.1 1 _ rfl, K3.out.1 2 _ rfl, K3.out.1 3 _ rfl, K3.out.1 4 _ rfl⟩
      by_cases e2 : Q = 0
      · subst e2
        obtain ⟨CR, RR, PM, RM⟩ := rest.out (by trivial) (by trivial)
        replace CR := Lib.hid CR
        replace RR := Lib.hid RR
        replace PM := Lib.hid PM
        replace RM := Lib.hid RM
        clear rest RC RP LI
        go_wp2_with fail
        refine (PE.out _ hP3.out).mono ?_
        rintro e w4 ⟨rfl, hb⟩
        have T4 := Lib.hid (T3.out.on hb)
        have K4 := Lib.hid (K3.out.on hb)
        have B4 := Lib.hid (cbelow_on B3.out hb)
        have hP4 := Lib.hid (HP.out _ _ hP3.out hb)
        clear hb t_0 t_1 t_2 k_0 k_1 k_2 k_3 k_4 T3 K3 B3 hP3
        obtain ⟨t_0, t_1, t_2⟩ : _ ∧ _ ∧ _ := ⟨T4.out.1 0 _ rfl, T4.out.1 1 _ rfl, T4.out.1 2 _ rfl⟩
        obtain ⟨k_0, k_1, k_2, k_3, k_4⟩ : _ ∧ _ ∧ _ ∧ _ ∧ _ := ⟨K4.out.1 0 _ rfl, K4.out.1 1 _ rfl, K4.out.1 2 _ rfl, K4.out.1 3 _ rfl, K4.out.1 4 _ rfl⟩
        go_wp2_with fail
        refine (RE.out _ hP4.out).mono ?_
        rintro e w5 ⟨rfl, hb⟩
        have T5 := Lib.hid (T4.out.on hb)
        have K5 := Lib.hid (K4.out.on hb)
        have B5 := Lib.hid (cbelow_on B4.out hb)
        have hP5 := Lib.hid (HP.out _ _ hP4.out hb)
        clear hb t_0 t_1 t_2 k_0 k_1 k_2 k_3 k_4 T4 K4 B4 hP4
        obtain ⟨t_0, t_1, t_2⟩ : _ ∧ _ ∧ _ := ⟨T5.out.1 0 _ rfl, T5.out.1 1 _ rfl, T5.out.1 2 _ rfl⟩
        obtain ⟨k_0, k_1, k_2, k_3, k_4⟩ : _ ∧ _ ∧ _ ∧ _ ∧ _ := ⟨K5.out.1 0 _ rfl, K5.out.1 1 _ rfl, K5.out.1 2 _ rfl, K5.out.1 3 _ rfl, K5.out.1 4 _ rfl⟩
        go_wp2_with fail
        refine (CR.out _ hP5.out).mono ?_
        rintro e w6 ⟨rfl, hb⟩
        have T6 := Lib.hid (T5.out.on hb)
        have K6 := Lib.hid (K5.out.on hb)
        have B6 := Lib.hid (cbelow_on B5.out hb)
        have hP6 := Lib.hid (HP.out _ _ hP5.out hb)
        clear hb t_0 t_1 t_2 k_0 k_1 k_2 k_3 k_4 T5 K5 B5 hP5
        obtain ⟨t_0, t_1, t_2⟩ : _ ∧ _ ∧ _ := ⟨T6.out.1 0 _ rfl, T6.out.1 1 _ rfl, T6.out.1 2 _ rfl⟩
        obtain ⟨k_0, k_1, k_2, k_3, k_4⟩ : _ ∧ _ ∧ _ ∧ _ ∧ _ := ⟨K6.out.1 0 _ rfl, K6.out.1 1 _ rfl, K6.out.1 2 _ rfl, K6.out.1 3 _ rfl, K6.out.1 4 _ rfl⟩
        go_wp2_with fail
        refine (RR.out _ hP6.out).mono ?_
        rintro e w7 ⟨rfl, hb⟩
        have T7 := Lib.hid (T6.out.on hb)
        have K7 := Lib.hid (K6.out.on hb)
        have B7 := Lib.hid (cbelow_on B6.out hb)
        have hP7 := Lib.hid (HP.out _ _ hP6.out hb)
        clear hb t_0 t_1 t_2 k_0 k_1 k_2 k_3 k_4 T6 K6 B6 hP6
        go_upto_region 7 with fail
        obtain ⟨W7, rfl⟩ : ∃ W7 : World, W7 = w7 := ⟨_, rfl⟩
        obtain ⟨t_0, t_1, t_2⟩ : _ ∧ _ ∧ _ := ⟨T7.out.1 0 _ rfl, T7.out.1 1 _ rfl, T7.out.1 2 _ rfl⟩
        obtain ⟨k_0, k_1, k_2, k_3, k_4⟩ : _ ∧ _ ∧ _ ∧ _ ∧ _ := ⟨K7.out.1 0 _ rfl, K7.out.1 1 _ rfl, K7.out.1 2 _ rfl, K7.out.1 3 _ rfl, K7.out.1 4 _ rfl⟩
        refine wp_region_noPanic ?_
        refine wp_region_along (S := fun w' => Below W7.heap.size W7 w' ∧ ∀ b o, (W7.cell? ⟨b, o, none⟩).isSome = true → w'.cell? ⟨b, o, none⟩ = W7.cell? ⟨b, o, none⟩) ([(0, false), (1, true), (2, true), (3, true), (4, true), (5, true), (6, true), (7, true), (8, true), (9, true), (10, true), (11, true), (12, true), (13, true), (14, true), (15, true)] ++ ([(16, true), (17, true), (18, true), (19, true), (20, true), (21, true), (23, true), (24, true), (25, true), (26, true), (27, true), (22, false), (28, false), (29, true), (30, true), (31, true)] ++ ([(32, true), (33, true), (34, true), (35, true), (36, true), (37, true), (38, true), (39, true), (40, true), (41, true), (42, true), (43, true), (44, true), (45, true), (46, true)]))) (by kernel_rfl) (by as_aux_lemma => kernel_rfl) (by kernel_rfl) (by kernel_rfl) (alongPre_append _ _ _ (by as_aux_lemma => kernel_rfl) (alongPre_append _ _ _ (by as_aux_lemma => kernel_rfl) (by as_aux_lemma => kernel_rfl))) (by as_aux_lemma => kernel_rfl) (fun _ _ _ _ _ h => h) (ckeep (Below.refl _ _).drew) (fun hH => ?_)
        simp only [List.cons_append, List.nil_append, stepsOf, pickOp]
        refine along_bar (fun K hK => ?_)
        go_simp
        refine (AW.out _).mono ?_
        rintro e w' ⟨rfl, hbx⟩
        try go_wp2_with fail
        refine hK.out _ _ (ckeep (cbelow_on hH.1 hbx)) (fun hH' => ?_)
        clear hK K hH
        have hH := hH'
        clear hH'
        clear hbx
        try simp only [Act.put, List.setIfInBounds_toArray, List.set_cons_zero, List.set_cons_succ]
        iterate 26 (first | (refine along_skip (by rfl) ?_; try simp only [Act.put, List.setIfInBounds_toArray, List.set_cons_zero, List.set_cons_succ]) | (refine along_pure ?_ (by rfl) (fun w hSw => ?_) ?_; rotate_left; ((try dsimp only at hSw); go_simp; try with_reducible rfl); try simp only [Act.put, List.setIfInBounds_toArray, List.set_cons_zero, List.set_cons_succ]))
        refine along_bar (fun K hK => ?_)
        go_simp
        refine (PM.out _ (HP.out _ _ hP7.out hH.1)).mono ?_
        rintro e w' ⟨rfl, hbx⟩
        try go_wp2_with fail
        refine hK.out _ _ (ckeep (cbelow_on hH.1 hbx)) (fun hH' => ?_)
        clear hK K hH
        have hH := hH'
        clear hH'
        clear hbx
        try simp only [Act.put, List.setIfInBounds_toArray, List.set_cons_zero, List.set_cons_succ]
        refine along_bar (fun K hK => ?_)
        go_simp
        refine (RM.out _ (HP.out _ _ hP7.out hH.1)).mono ?_
        rintro e w' ⟨rfl, hbx⟩
        try go_wp2_with fail
        refine hK.out _ _ (ckeep (cbelow_on hH.1 hbx)) (fun hH' => ?_)
        clear hK K hH
        have hH := hH'
        clear hH'
        clear hbx
        try simp only [Act.put, List.setIfInBounds_toArray, List.set_cons_zero, List.set_cons_succ]
        iterate 18 (first | (refine along_skip (by rfl) ?_; try simp only [Act.put, List.setIfInBounds_toArray, List.set_cons_zero, List.set_cons_succ]) | (refine along_pure ?_ (by rfl) (fun w hSw => ?_) ?_; rotate_left; ((try dsimp only at hSw); go_simp; try with_reducible rfl); try simp only [Act.put, List.setIfInBounds_toArray, List.set_cons_zero, List.set_cons_succ]))
        refine along_end (NoPanic.normal ?_)
        have T8 := Lib.hid (T7.out.on hH.1)
        have K8 := Lib.hid (K7.out.on hH.1)
        have B8 := Lib.hid (cbelow_on B7.out hH.1)
        have hP8 := Lib.hid (HP.out _ _ hP7.out hH.1)
        clear t_0 t_1 t_2 k_0 k_1 k_2 k_3 k_4 T7 K7 B7 hP7
        clear hH
        obtain ⟨W8, rfl⟩ : ∃ W8 : World, W8 = w' := ⟨_, rfl⟩
        go_wp2
        go_ret
        exact ⟨rfl, B8.out⟩
      · have e2' : (Q != 0) = true := by simp; exact e2
        go_wp2_with fail
        refine (AW.out _).mono ?_
        rintro e w4 ⟨rfl, hb⟩
        have T4 := Lib.hid (T3.out.on hb)
        have K4 := Lib.hid (K3.out.on hb)
        have B4 := Lib.hid (cbelow_on B3.out hb)
        have hP4 := Lib.hid (HP.out _ _ hP3.out hb)
        clear hb t_0 t_1 t_2 k_0 k_1 k_2 k_3 k_4 T3 K3 B3 hP3
        go_wp2
        go_ret
        exact ⟨rfl, B4.out⟩
    · have e1' : (R != 0) = true := by simp; exact e1
      go_wp2_with fail
      refine (AW.out _).mono ?_
      rintro e w3 ⟨rfl, hb⟩
      have T3 := Lib.hid (T2.out.on hb)
      have K3 := Lib.hid (K2.out.on hb)
      have B3 := Lib.hid (cbelow_on B2.out hb)
      have hP3 := Lib.hid (HP.out _ _ hP2.out hb)
      clear hb t_0 t_1 t_2 k_0 k_1 k_2 k_3 k_4 T2 K2 B2 hP2
      go_wp2
      go_ret
      exact ⟨rfl, B3.out⟩
theorem entE_right {ps : List Int} : ∀ {es : List Ac}, entE ps es = 0 → ∀ c ∈ es, rightB c.a c.n = true ∧ rightB c.b c.m = true
  | [], _, c, hc => by simp at hc
  | e :: r, h, c, hc => by
    rw [entE] at h
    by_cases c1 : portE ps e.x e.y = 0
    · rw [if_neg (by omega)] at h
      by_cases c2 : e.chk = 0
      · rw [if_neg (by omega)] at h
        rcases List.mem_cons.1 hc with rfl | hc
        · have k := chk_right c2
          exact ⟨k.1, k.2.1⟩
        · exact entE_right h c hc
      · rw [if_pos c2] at h; exact absurd h c2
    · rw [if_pos c1] at h; exact absurd h c1
theorem chk_ent {ps : List Int} {ls : List Lk} {es : List Ac} (h : TP.chk ⟨ps, ls, es⟩ = 0) : entE ps es = 0 := by
  unfold TP.chk at h
  simp only at h
  by_cases c1 : ps.length < 1 ∨ 16 < ps.length ∨ 32 < es.length
  · rw [if_pos c1] at h; exact absurd h (by omega)
  · rw [if_neg c1] at h
    by_cases c2 : cntE ps = 0
    · rw [if_neg (by omega)] at h
      by_cases c3 : lnkE ps [] (ends ls) = 0
      · rw [if_neg (by omega)] at h; exact h
      · rw [if_pos c3] at h; exact absurd h c3
    · rw [if_pos c2] at h; exact absurd h c2
set_option maxHeartbeats 400000 in
theorem crosses_any (v : Value) (ps : List Int) (ls : List Lk) (es : List Ac) (pa : Option Addr) (pc : Nat) (la : Option Addr) (lc : Nat) (aa : Option Addr) (ac : Nat) (d p : Int) (io : Bool) (g : Hr) (hg : g.Ok) (w : World) (h : Tp w v ps ls es pa pc la lc aa ac) :
    Calls Try.prog 4 #[v, .int .i64 d, .int .i64 p, .bool io, g.val] w fun e w' => e = .returned (.bool true) ∧ Below w.heap.size w w' := by
  obtain ⟨rfl, hp, hl, he, ol, oe⟩ := h
  refine crosses_core pa ps.length pc la ls.length lc aa es.length ac d p (TP.chk ⟨ps, ls, es⟩) (portE ps d p) (peerF d p ls).1 (peerF d p ls).2.1 (crossF (peerF d p ls).1 (permF d p false g es) (peerF d p ls).2.2 (permF (peerF d p ls).1 (peerF d p ls).2.1 true g es)).1 io g (decide (ps.length ≤ 40) && decide (ls.length ≤ 100) && decide (es.length ≤ 60)) (peerF d p ls).2.2 (crossF (peerF d p ls).1 (permF d p false g es) (peerF d p ls).2.2 (permF (peerF d p ls).1 (peerF d p ls).2.1 true g es)).2.1 (crossF (peerF d p ls).1 (permF d p false g es) (peerF d p ls).2.2 (permF (peerF d p ls).1 (peerF d p ls).2.1 true g es)).2.2 (permF d p io g es)
    (fun w => Rw w pa (ints ps) ∧ Rw w la (ls.flatMap Lk.cells) ∧ Rw w aa (es.flatMap Ac.cells)) (fun _ _ h hb => ⟨h.1.on hb, h.2.1.on hb, h.2.2.on hb⟩) (fun w => light_any pa ps.length pc la ls.length lc aa es.length ac w) (fun w => tawake_any w) (fun q w h => ?_) (fun q w h => rport_any ps pa pc la ls.length lc aa es.length ac d p w h.1) (fun q w h => ?_) (fun q w h => ?_) (fun q r _ => ?_) w ⟨hp, hl, he⟩
  all_goals
    simp at q
    obtain ⟨⟨q1, q2⟩, q3⟩ := q
  · exact rcheck_any ps ls es pa pc la lc aa ac w oe h.1 h.2.1 h.2.2 (by omega) (by omega) (by omega)
  · exact peer_any ls pa ps.length pc la lc aa es.length ac d p w h.2.1 (by omega)
  · exact rpeer_any ls pa ps.length pc la lc aa es.length ac d p w h.2.1 (by omega)
  · have hor : ∀ c ∈ es, c.Ok ∧ rightB c.a c.n = true ∧ rightB c.b c.m = true := fun c hc => ⟨oe c hc, entE_right (chk_ent r) c hc⟩
    exact ⟨fun w h => cross_core pa ps.length pc la ls.length lc aa es.length ac d p (peerF d p ls).1 (peerF d p ls).2.1 g (permF d p false g es) (peerF d p ls).2.2 (permF (peerF d p ls).1 (peerF d p ls).2.1 true g es) (fun w => Rw w pa (ints ps) ∧ Rw w la (ls.flatMap Lk.cells) ∧ Rw w aa (es.flatMap Ac.cells)) (fun _ _ h hb => ⟨h.1.on hb, h.2.1.on hb, h.2.2.on hb⟩)
        (fun w h => permit_any es pa ps.length pc la ls.length lc aa ac d p false g hg w h.2.2 (by omega)) (fun w h => peer_any ls pa ps.length pc la lc aa es.length ac d p w h.2.1 (by omega)) (fun w h => permit_any es pa ps.length pc la ls.length lc aa ac _ _ true g hg w h.2.2 (by omega)) w h,
      fun w h => rcross_core pa ps.length pc la ls.length lc aa es.length ac d p (peerF d p ls).1 (peerF d p ls).2.1 g (permF d p false g es) (peerF d p ls).2.2 (permF (peerF d p ls).1 (peerF d p ls).2.1 true g es) (fun w => Rw w pa (ints ps) ∧ Rw w la (ls.flatMap Lk.cells) ∧ Rw w aa (es.flatMap Ac.cells)) (fun _ _ h hb => ⟨h.1.on hb, h.2.1.on hb, h.2.2.on hb⟩)
        (fun w h => rpermit_any es pa ps.length pc la ls.length lc aa ac d p false g hg w h.2.2 (by omega) hor) (fun w h => rpeer_any ls pa ps.length pc la lc aa es.length ac d p w h.2.1 (by omega)) (fun w h => rpermit_any es pa ps.length pc la ls.length lc aa ac _ _ true g hg w h.2.2 (by omega) hor) w h,
      fun w h => permit_any es pa ps.length pc la ls.length lc aa ac d p io g hg w h.2.2 (by omega), fun w h => rpermit_any es pa ps.length pc la ls.length lc aa ac d p io g hg w h.2.2 (by omega) hor⟩
end Go.Proofs.Ytgbphocmnpjjpab
