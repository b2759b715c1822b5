/- TableBests: the walk. -/
import Derived.Test.YtgcbngephokegaaT24
import Derived.Test.YtgcbngephokegaaAlong2
namespace Go.Proofs.Ytgcbngephokegaa
open Go.RowKit Go.Maps Go.MapKept Go.ChangeMaps Go.WideElems Go.Joins
set_option linter.unusedVariables false
set_option linter.unusedSimpArgs false

theorem hold_cells {Y Z : Nat → Prop} {w6 w7 : World} (h : Hold (fun k => Z k ∨ Y k) w6.drew w7) : ∀ b o, Y b → (w6.cell? ⟨b, o, none⟩).isSome = true → w7.cell? ⟨b, o, none⟩ = w6.cell? ⟨b, o, none⟩ := fun b o hy hs => by
  obtain ⟨v, hv⟩ := Option.isSome_iff_exists.1 hs
  rw [h.cell (Or.inr hy) (show w6.drew.cell? ⟨b, o, none⟩ = some v from hv), hv]
set_option maxRecDepth 100000 in
theorem bests_many (L : List ChR) (la : Option Addr) (lc A : Nat) (hn : 40 < L.length) (W : World) : Calls Try.prog 7 #[.slice la L.length lc, .int .u32 (A : Nat)] W fun e w' => e = .returned (.bool true) ∧ Below W.heap.size W w' := by
  have h := Lib.hid (tawake_any W)
  go_enter Try.func7, Try.ntmps7
  go_wp2_with fail
  refine h.out.mono ?_
  rintro e w' ⟨rfl, hb⟩
  have B := Lib.hid hb
  clear hb h
  go_wp2
  go_ret
  exact ⟨rfl, B.out⟩
set_option maxRecDepth 100000 in
set_option maxHeartbeats 4000000 in
theorem bests_few (L : List ChR) (la : Option Addr) (lc A : Nat) (hA : A < 4294967296) (hok : ∀ x ∈ L, x.Ok) (hn : L.length ≤ 40) (W : World) (hr : Rw W la (L.flatMap ChR.cells)) :
    Calls Try.prog 7 #[.slice la L.length lc, .int .u32 (A : Nat)] W fun e w' => e = .returned (.bool true) ∧ Below W.heap.size W w' := by
  have CM := Lib.hid (made_any L la lc hok (by omega) W hr)
  have hml := madeL_len L L.length
  rw [List.take_of_length_le (Nat.le_refl _)] at hml
  have hml : (madeL L).length ≤ 100000 := by omega
  obtain ⟨M, hM⟩ : ∃ M, madeL L = M := ⟨_, rfl⟩
  rw [hM] at CM hml
  obtain ⟨n, hN⟩ : ∃ n, L.length = n := ⟨_, rfl⟩
  rw [hN] at CM hn ⊢
  clear hM hr hok hN
  go_enter Try.func7, Try.ntmps7
  go_wp2_with fail
  refine CM.out.mono ?_
  rintro e w1 ⟨p, lv, Y, rfl, h1⟩
  have S1 := Lib.hid h1
  clear h1 CM
  go_wp2_with fail
  refine (rules_any S1.out.t S1.out.a.s hml).mono ?_
  rintro e w2 ⟨v2, rfl, hv, hb⟩
  have S2 := Lib.hid (S1.out.on hb)
  have V2 := Lib.hid hv
  clear hv hb S1
  go_wp2_with fail
  refine (rsame_any w2 _ _ v2 lv M V2.out S2.out.l hml).mono ?_
  rintro e w3 ⟨rfl, hb⟩
  have S3 := Lib.hid (S2.out.on hb)
  clear hb S2 V2
  go_wp2_with fail
  refine (tbest_any S3.out.t S3.out.a.s A hA hml).mono ?_
  rintro e w4 ⟨rfl, hb⟩
  have S4 := Lib.hid (S3.out.on hb)
  clear hb S3
  obtain ⟨nb, hnb⟩ : ∃ n, w4.heap.size = n := ⟨_, rfl⟩
  cases hmt : meetR M A 32 with
  | nil =>
    have HMT := Lib.hid hmt
    clear hmt
    dsimp only [headR]
    go_upto_region 7 with fail
    refine at_code (S := fun w => TM (fun k => Y k ∨ k = nb) W p w lv M) (by rw [← hnb]; exact S4.out.box _) (fun w5 h5 => ?_)
    have S5 := Lib.hid h5
    clear h5 S4 hnb
    go_wp2_with fail
    refine (tawake_any w5).mono ?_
    rintro e w6 ⟨rfl, hb⟩
    have S6 := Lib.hid (S5.out.on hb)
    clear hb S5
    go_wp2_with fail
    refine (tmeet_any S6.out.t S6.out.a.s A 32 hA hml).mono ?_
    rintro e w7 ⟨v7, rfl, hv, hb⟩
    rw [HMT.out] at hv
    have ev : v7 = .slice none 0 0 := hv.2.2 rfl
    subst ev
    have S7 := Lib.hid (S6.out.on hb)
    clear hb S6 hv
    go_wp2
    go_ret
    exact ⟨rfl, S7.out.below⟩
  | cons x xs =>
    have HMT := Lib.hid hmt
    have HX := Lib.hid (meet_mem hmt)
    clear hmt
    dsimp only [headR]
    go_upto_region 7 with fail
    refine at_code (S := fun w => TM (fun k => Y k ∨ k = nb) W p w lv M ∧ Blk w nb x.cells) ⟨by rw [← hnb]; exact S4.out.box _, by rw [← hnb]; exact Blk.new _ _ _⟩ (fun w5 h5 => ?_)
    have S5 := Lib.hid h5.1
    have X5 := Lib.hid h5.2
    clear h5 S4 hnb
    go_wp2_with fail
    refine (tmeet_any S5.out.t S5.out.a.s A 32 hA hml).mono ?_
    rintro e w6 ⟨vm, rfl, hv, hb⟩
    rw [HMT.out] at hv
    have S6 := Lib.hid (S5.out.grow hb)
    have V6 := Lib.hid hv
    have I6 : Hid (InY (fun k => (Y k ∨ k = nb) ∨ (w5.heap.size ≤ k ∧ k < w6.heap.size)) W.heap.size vm) := Lib.hid (fun i e => ⟨Or.inr (row_own hv i e), Nat.le_trans S5.out.h.size (row_own hv i e).1⟩)
    have X6 := Lib.hid (X5.out.on hb)
    obtain ⟨Y6, hY6⟩ : ∃ Y6, (fun k => (Y k ∨ k = nb) ∨ (w5.heap.size ≤ k ∧ k < w6.heap.size)) = Y6 := ⟨_, rfl⟩
    have HnbY : Hid (Y6 nb) := Lib.hid (by rw [← hY6]; exact Or.inl (Or.inr rfl))
    rw [hY6] at S6 I6
    obtain ⟨b6, hb6⟩ : ∃ b, w5.heap.size = b := ⟨_, rfl⟩
    rw [hb6] at V6
    clear hv hb S5 X5 hY6 hb6
    obtain ⟨k, hk⟩ : ∃ k, (x :: xs).length = k := ⟨_, rfl⟩
    have HK := Lib.hid hk
    have d0 : ((k : Int) == 0) = false := by rw [← hk]; simp; omega
    have d1 : 0 < k := by rw [← hk]; simp
    have d2 : ¬ k = 0 := by omega
    obtain ⟨g, cap, e6, hc⟩ := rule_at V6.out (by simp)
    rw [hk] at e6
    subst e6
    obtain ⟨c_0, c_1, c_2, c_3, c_4, c_5⟩ := hc 0 x rfl
    obtain ⟨⟨x_0, x_1, x_2, x_3, x_4, x_5⟩, -⟩ := blk_ru X6.out
    simp only [Nat.zero_mul, Nat.zero_add] at c_0 c_1 c_2 c_3 c_4 c_5
    have hYg : Y6 g := (I6.out g rfl).1
    have hYn := HnbY.out
    have SD := Lib.hid (S6.out.on (Below.drew (Below.refl _ _)))
    have CD := Lib.hid (tdrop_some SD.out.t x HX.out hml)
    clear hc hk
    go_upto_region 10 with fail
    refine wp_region_noPanic ?_
    refine wp_region_along (S := fun w' => w'.cell? ⟨g, 0, none⟩ = some (.int .i64 x.id) ∧ w'.cell? ⟨g, 1, none⟩ = some (.int .i64 x.dev) ∧ w'.cell? ⟨g, 2, none⟩ = some (.int .u32 (x.a : Nat)) ∧ w'.cell? ⟨g, 3, none⟩ = some (.int .i64 x.n) ∧ w'.cell? ⟨g, 4, none⟩ = some (.int .i64 x.prio) ∧ w'.cell? ⟨g, 5, none⟩ = some (.int .i64 x.out) ∧ w'.cell? ⟨nb, 0, none⟩ = some (.int .i64 x.id) ∧ w'.cell? ⟨nb, 1, none⟩ = some (.int .i64 x.dev) ∧ w'.cell? ⟨nb, 2, none⟩ = some (.int .u32 (x.a : Nat)) ∧ w'.cell? ⟨nb, 3, none⟩ = some (.int .i64 x.n) ∧ w'.cell? ⟨nb, 4, none⟩ = some (.int .i64 x.prio) ∧ w'.cell? ⟨nb, 5, none⟩ = some (.int .i64 x.out)) ([(0, true), (1, true), (2, true), (3, true), (4, true), (5, true), (6, true), (7, true), (8, true), (9, true), (10, true), (11, true), (12, true), (13, true), (14, false), (15, true)] ++ ([(16, true)])) (by kernel_rfl) (by as_aux_lemma => kernel_rfl) (by kernel_rfl) (by kernel_rfl) (alongPre_append _ _ _ (by as_aux_lemma => kernel_rfl) (by as_aux_lemma => kernel_rfl)) (by as_aux_lemma => kernel_rfl) (fun _ _ _ _ _ h => h) ⟨c_0, c_1, c_2, c_3, c_4, c_5, x_0, x_1, x_2, x_3, x_4, x_5⟩ (fun hH => ?_)
    simp only [List.cons_append, List.nil_append, stepsOf, pickOp]
    iterate 14 (first | (refine along_skip (by rfl) ?_; try simp only [Act.put, List.setIfInBounds_toArray, List.set_cons_zero, List.set_cons_succ]) | (refine along_pure ?_ (by rfl) (fun w hSw => ?_) ?_; rotate_left; ((try dsimp only at hSw); go_simp; try with_reducible rfl); try simp only [Act.put, List.setIfInBounds_toArray, List.set_cons_zero, List.set_cons_succ]))
    refine along_bar (fun K hK => ?_)
    go_simp
    refine CD.out.mono ?_
    rintro e w7 ⟨rfl, ht, hh⟩
    try go_wp2_with fail
    refine hK.out _ _ ⟨hh.cell (Or.inr hYg) c_0, hh.cell (Or.inr hYg) c_1, hh.cell (Or.inr hYg) c_2, hh.cell (Or.inr hYg) c_3, hh.cell (Or.inr hYg) c_4, hh.cell (Or.inr hYg) c_5, hh.cell (Or.inr hYn) x_0, hh.cell (Or.inr hYn) x_1, hh.cell (Or.inr hYn) x_2, hh.cell (Or.inr hYn) x_3, hh.cell (Or.inr hYn) x_4, hh.cell (Or.inr hYn) x_5⟩ (fun hH' => ?_)
    clear hK K hH
    have hH := hH'
    clear hH'
    have T7 := Lib.hid ht
    have H7 := Lib.hid hh
    clear ht hh
    try simp only [Act.put, List.setIfInBounds_toArray, List.set_cons_zero, List.set_cons_succ]
    iterate 2 (first | (refine along_skip (by rfl) ?_; try simp only [Act.put, List.setIfInBounds_toArray, List.set_cons_zero, List.set_cons_succ]) | (refine along_pure ?_ (by rfl) (fun w hSw => ?_) ?_; rotate_left; ((try dsimp only at hSw); go_simp; try with_reducible rfl); try simp only [Act.put, List.setIfInBounds_toArray, List.set_cons_zero, List.set_cons_succ]))
    refine along_end (NoPanic.normal ?_)
    have BD := Lib.hid (show Below w6.heap.size w6 w6.drew from Below.drew (Below.refl _ _))
    have S7 : Hid (Hold (fun k => k < W.heap.size) W w7) := Lib.hid (SD.out.h.trans (H7.out.less (fun k q => Or.inl q)))
    have L7 := Lib.hid (show Rules w7 W.heap.size lv M from SD.out.rows H7.out)
    have I7 := Lib.hid SD.out.y
    have X7 := Lib.hid (H7.out.blk (Or.inr HnbY.out) (X6.out.on BD.out))
    have V7 := Lib.hid (show Rules w7 b6 (.slice (some ⟨g, 0, none⟩) k cap) (x :: xs) from row_hold (Row.on V6.out BD.out) I6.out (H7.out.less (fun k q => Or.inr q)))
    have HXO := Lib.hid (SD.out.r x HX.out).2
    have HPA := Lib.hid (put_again SD.out.a HX.out (SD.out.r x HX.out).1)
    have HAM := Lib.hid SD.out.a
    have HDM := Lib.hid (meet_drop SD.out.a.n A 32 HMT.out)
    have HDS := Lib.hid (SD.out.a.drop x.id)
    have hml2 := Lib.hid (Nat.le_trans (dropI_len M x.id) hml)
    have HMS : Hid (Strict (x :: xs)) := Lib.hid (by rw [← HMT.out]; exact meetR_strict SD.out.a.s A 32)
    clear hH x_0 x_1 x_2 x_3 x_4 x_5 c_0 c_1 c_2 c_3 c_4 c_5 SD CD BD S6 X6 V6 H7
    go_wp2_with fail
    refine (tbest_any T7.out HDS.out.s A hA hml2.out).mono ?_
    rw [HDM.out]
    rintro e w8 ⟨rfl, hb⟩
    have T8 := Lib.hid (T7.out.on hb)
    have H8 := Lib.hid (show Hold (fun k => k < W.heap.size) W w8 from S7.out.trans (Hold.of hb))
    have L8 := Lib.hid (show Rules w8 W.heap.size lv M from Row.on L7.out hb)
    have X8 := Lib.hid (X7.out.on hb)
    have V8 := Lib.hid (show Rules w8 b6 (.slice (some ⟨g, 0, none⟩) k cap) (x :: xs) from Row.on V7.out hb)
    have I9 := I7
    clear hb T7 S7 L7 X7 V7 I7 I6 HMT HDM HX d0 d1 d2
    obtain ⟨nb2, hnb2⟩ : ∃ n, w8.heap.size = n := ⟨_, rfl⟩
    cases xs with
    | nil =>
      have hk1 : k = 1 := HK.out.symm
      subst hk1
      dsimp only [headR]
      go_upto_region 13 with fail
      refine at_code (S := fun w => Below w8.heap.size w8 w) (bel_al (Below.refl _ _) _) (fun w9 h9 => ?_)
      have T9 := Lib.hid (T8.out.on h9)
      have H9 := Lib.hid (show Hold (fun k => k < W.heap.size) W w9 from H8.out.trans (Hold.of h9))
      have L9 := Lib.hid (show Rules w9 W.heap.size lv M from Row.on L8.out h9)
      have X9 := Lib.hid (X8.out.on h9)
      have V9 := Lib.hid (show Rules w9 b6 (.slice (some ⟨g, 0, none⟩) 1 cap) [x] from Row.on V8.out h9)
      clear h9 T8 H8 L8 X8 V8 hnb2
      refine wp_region_noPanic ?_
      refine wp_region_along (S := fun w' => Below w9.heap.size w9 w' ∧ ∀ b o, (w9.cell? ⟨b, o, none⟩).isSome = true → w'.cell? ⟨b, o, none⟩ = w9.cell? ⟨b, o, none⟩) ([(0, true), (1, true), (2, true), (3, true), (4, true), (5, true), (6, true), (7, true), (8, true), (9, true), (10, true), (11, true), (12, true), (13, true), (14, true), (15, true)] ++ ([(16, false), (17, true), (18, true), (19, true), (20, true)])) (by kernel_rfl) (by as_aux_lemma => kernel_rfl) (by kernel_rfl) (by kernel_rfl) (alongPre_append _ _ _ (by as_aux_lemma => kernel_rfl) (by as_aux_lemma => kernel_rfl)) (by as_aux_lemma => kernel_rfl) (fun _ _ _ _ _ h => h) (ckeep (Below.refl _ _).drew) (fun hH => ?_)
      simp only [List.cons_append, List.nil_append, stepsOf, pickOp]
      iterate 16 (first | (refine along_skip (by rfl) ?_; try simp only [Act.put, List.setIfInBounds_toArray, List.set_cons_zero, List.set_cons_succ]) | (refine along_pure ?_ (by rfl) (fun w hSw => ?_) ?_; rotate_left; ((try dsimp only at hSw); go_simp; try with_reducible rfl); try simp only [Act.put, List.setIfInBounds_toArray, List.set_cons_zero, List.set_cons_succ]))
      refine along_pass (by rfl) hH ?_
      try simp only [Act.put, List.setIfInBounds_toArray, List.set_cons_zero, List.set_cons_succ]
      iterate 4 (first | (refine along_skip (by rfl) ?_; try simp only [Act.put, List.setIfInBounds_toArray, List.set_cons_zero, List.set_cons_succ]) | (refine along_pure ?_ (by rfl) (fun w hSw => ?_) ?_; rotate_left; ((try dsimp only at hSw); go_simp; try with_reducible rfl); try simp only [Act.put, List.setIfInBounds_toArray, List.set_cons_zero, List.set_cons_succ]))
      refine along_end (NoPanic.normal ?_)
      have BX := Lib.hid hH.1
      clear hH
      have TX := Lib.hid (T9.out.on BX.out)
      have HX2 := Lib.hid (show Hold (fun k => k < W.heap.size) W _ from H9.out.trans (Hold.of BX.out))
      have LX := Lib.hid (show Rules _ W.heap.size lv M from Row.on L9.out BX.out)
      have XX := Lib.hid (X9.out.on BX.out)
      clear T9 H9 L9 X9 V9 BX
      go_wp2_with fail
      refine (tawake_any _).mono ?_
      rintro e w10 ⟨rfl, hb⟩
      have T10 := Lib.hid (TX.out.on hb)
      have H10 := Lib.hid (show Hold (fun k => k < W.heap.size) W w10 from HX2.out.trans (Hold.of hb))
      have L10 := Lib.hid (show Rules w10 W.heap.size lv M from Row.on LX.out hb)
      have X10 := Lib.hid (XX.out.on hb)
      clear hb TX HX2 LX XX
      obtain ⟨⟨x_0, x_1, x_2, x_3, x_4, x_5⟩, -⟩ := blk_ru X10.out
      go_wp2_with fail
      refine (tadd_any T10.out x HXO.out hml2.out).mono ?_
      rintro e w11 ⟨rfl, ht, hh⟩
      rw [HPA.out.1]
      have T11 := Lib.hid (ht.perm HPA.out.2 HAM.out.n)
      have H11 := Lib.hid (show Hold (fun k => k < W.heap.size) W w11 from H10.out.trans (hh.less (fun k q => Or.inl q)))
      have L11 := Lib.hid (show Rules w11 W.heap.size lv M from row_hold L10.out I9.out (hh.less (fun k q => Or.inr q)))
      clear ht hh T10 H10 L10 X10 x_0 x_1 x_2 x_3 x_4 x_5
      go_wp2_with fail
      refine (rules_any T11.out HAM.out.s hml).mono ?_
      rintro e w12 ⟨v12, rfl, hv, hb⟩
      have H12 := Lib.hid (show Hold (fun k => k < W.heap.size) W w12 from H11.out.trans (Hold.of hb))
      have L12 := Lib.hid (show Rules w12 W.heap.size lv M from Row.on L11.out hb)
      have V12 := Lib.hid hv
      clear hv hb T11 H11 L11
      go_wp2_with fail
      refine (rsame_any w12 _ _ v12 lv M V12.out L12.out hml).mono ?_
      rintro e w13 ⟨rfl, hb⟩
      have H13 := Lib.hid (show Hold (fun k => k < W.heap.size) W w13 from H12.out.trans (Hold.of hb))
      clear hb H12 L12 V12
      go_wp2
      go_ret
      exact ⟨rfl, Hold.below H13.out (Nat.le_refl _) (fun k hk => hk)⟩
    | cons y ys =>
      obtain ⟨j, hj⟩ : ∃ j, ys.length = j := ⟨_, rfl⟩
      have hk2 : k = j + 2 := by rw [← hj]; exact HK.out.symm
      have d1 : decide ((k : Int) > 1) = true := decide_eq_true (by omega)
      have d2 : decide (1 < (k : Int)) = true := decide_eq_true (by omega)
      have d3 : 1 < k := by omega
      have d6 : (1 : Int) < (k : Int) := by omega
      have hcl : compR x y < 0 := (List.pairwise_cons.1 HMS.out).1 y List.mem_cons_self
      obtain ⟨z, hz⟩ : ∃ z, compR x y = z := ⟨_, rfl⟩
      have CC : Hid (∀ w, Calls Try.prog 40 #[rv x, rv y] w fun e w' => e = .returned (.int .i64 z) ∧ Below w.heap.size w w') := Lib.hid (fun w => by rw [← hz]; exact compare_any x y w)
      have d4 : decide (z ≥ 0) = false := decide_eq_false (by omega)
      have d5 : decide (0 ≤ z) = false := decide_eq_false (by omega)
      dsimp only [headR]
      go_upto_region 13 with fail
      refine at_code (S := fun w => Below w8.heap.size w8 w ∧ Blk w nb2 y.cells) ⟨bel_al (Below.refl _ _) _, by rw [← hnb2]; exact Blk.new w8 _ y.cells⟩ (fun w9 h9 => ?_)
      have Z9 := Lib.hid h9.2
      have h9 := h9.1
      have T9 := Lib.hid (T8.out.on h9)
      have H9 := Lib.hid (show Hold (fun k => k < W.heap.size) W w9 from H8.out.trans (Hold.of h9))
      have L9 := Lib.hid (show Rules w9 W.heap.size lv M from Row.on L8.out h9)
      have X9 := Lib.hid (X8.out.on h9)
      have V9 := Lib.hid (show Rules w9 b6 (.slice (some ⟨g, 0, none⟩) k cap) (x :: y :: ys) from Row.on V8.out h9)
      clear h9 T8 H8 L8 X8 V8 hnb2 hz hj hk2 hcl
      obtain ⟨g2, cap2, e9, hc⟩ := rule_at V9.out (by simp)
      simp at e9
      obtain ⟨rfl, -, -⟩ := e9
      obtain ⟨c_0, c_1, c_2, c_3, c_4, c_5⟩ := hc 1 y rfl
      simp only [Nat.one_mul, Nat.reduceAdd] at c_0 c_1 c_2 c_3 c_4 c_5
      obtain ⟨⟨x_0, x_1, x_2, x_3, x_4, x_5⟩, -⟩ := blk_ru X9.out
      obtain ⟨⟨y_0, y_1, y_2, y_3, y_4, y_5⟩, -⟩ := blk_ru Z9.out
      clear hc
      refine wp_region_noPanic ?_
      refine wp_region_along (S := fun w' => Below w9.heap.size w9 w' ∧ ∀ b o, (w9.cell? ⟨b, o, none⟩).isSome = true → w'.cell? ⟨b, o, none⟩ = w9.cell? ⟨b, o, none⟩) ([(0, true), (1, true), (2, true), (3, true), (4, true), (5, true), (6, true), (7, true), (8, true), (9, true), (10, true), (11, true), (12, true), (13, true), (14, true), (15, true)] ++ ([(16, false), (17, true), (18, true), (19, true), (20, true)])) (by kernel_rfl) (by as_aux_lemma => kernel_rfl) (by kernel_rfl) (by kernel_rfl) (alongPre_append _ _ _ (by as_aux_lemma => kernel_rfl) (by as_aux_lemma => kernel_rfl)) (by as_aux_lemma => kernel_rfl) (fun _ _ _ _ _ h => h) (ckeep (Below.refl _ _).drew) (fun hH => ?_)
      simp only [List.cons_append, List.nil_append, stepsOf, pickOp]
      iterate 16 (first | (refine along_skip (by rfl) ?_; try simp only [Act.put, List.setIfInBounds_toArray, List.set_cons_zero, List.set_cons_succ]) | (refine along_pure ?_ (by rfl) (fun w hSw => ?_) ?_; rotate_left; ((try dsimp only at hSw); go_simp; try with_reducible rfl); try simp only [Act.put, List.setIfInBounds_toArray, List.set_cons_zero, List.set_cons_succ]))
      refine along_bar (fun K hK => ?_)
      go_simp
      refine (CC.out _).mono ?_
      rintro e w' ⟨rfl, hbx⟩
      try go_wp2_with fail
      refine hK.out _ _ (ckeep (bel_on' hH.1 hbx)) (fun hH' => ?_)
      clear hK K hH
      have hH := hH'
      clear hH'
      clear hbx
      try simp only [Act.put, List.setIfInBounds_toArray, List.set_cons_zero, List.set_cons_succ]
      iterate 4 (first | (refine along_skip (by rfl) ?_; try simp only [Act.put, List.setIfInBounds_toArray, List.set_cons_zero, List.set_cons_succ]) | (refine along_pure ?_ (by rfl) (fun w hSw => ?_) ?_; rotate_left; ((try dsimp only at hSw); go_simp; try with_reducible rfl); try simp only [Act.put, List.setIfInBounds_toArray, List.set_cons_zero, List.set_cons_succ]))
      refine along_end (NoPanic.normal ?_)
      clear c_0 c_1 c_2 c_3 c_4 c_5 y_0 y_1 y_2 y_3 y_4 y_5 x_0 x_1 x_2 x_3 x_4 x_5 Z9 CC d1 d2 d3 d4 d5 d6
      have BX := Lib.hid hH.1
      clear hH
      have TX := Lib.hid (T9.out.on BX.out)
      have HX2 := Lib.hid (show Hold (fun k => k < W.heap.size) W _ from H9.out.trans (Hold.of BX.out))
      have LX := Lib.hid (show Rules _ W.heap.size lv M from Row.on L9.out BX.out)
      have XX := Lib.hid (X9.out.on BX.out)
      clear T9 H9 L9 X9 V9 BX
      go_wp2_with fail
      refine (tawake_any _).mono ?_
      rintro e w10 ⟨rfl, hb⟩
      have T10 := Lib.hid (TX.out.on hb)
      have H10 := Lib.hid (show Hold (fun k => k < W.heap.size) W w10 from HX2.out.trans (Hold.of hb))
      have L10 := Lib.hid (show Rules w10 W.heap.size lv M from Row.on LX.out hb)
      have X10 := Lib.hid (XX.out.on hb)
      clear hb TX HX2 LX XX
      obtain ⟨⟨x_0, x_1, x_2, x_3, x_4, x_5⟩, -⟩ := blk_ru X10.out
      go_wp2_with fail
      refine (tadd_any T10.out x HXO.out hml2.out).mono ?_
      rintro e w11 ⟨rfl, ht, hh⟩
      rw [HPA.out.1]
      have T11 := Lib.hid (ht.perm HPA.out.2 HAM.out.n)
      have H11 := Lib.hid (show Hold (fun k => k < W.heap.size) W w11 from H10.out.trans (hh.less (fun k q => Or.inl q)))
      have L11 := Lib.hid (show Rules w11 W.heap.size lv M from row_hold L10.out I9.out (hh.less (fun k q => Or.inr q)))
      clear ht hh T10 H10 L10 X10 x_0 x_1 x_2 x_3 x_4 x_5
      go_wp2_with fail
      refine (rules_any T11.out HAM.out.s hml).mono ?_
      rintro e w12 ⟨v12, rfl, hv, hb⟩
      have H12 := Lib.hid (show Hold (fun k => k < W.heap.size) W w12 from H11.out.trans (Hold.of hb))
      have L12 := Lib.hid (show Rules w12 W.heap.size lv M from Row.on L11.out hb)
      have V12 := Lib.hid hv
      clear hv hb T11 H11 L11
      go_wp2_with fail
      refine (rsame_any w12 _ _ v12 lv M V12.out L12.out hml).mono ?_
      rintro e w13 ⟨rfl, hb⟩
      have H13 := Lib.hid (show Hold (fun k => k < W.heap.size) W w13 from H12.out.trans (Hold.of hb))
      clear hb H12 L12 V12
      go_wp2
      go_ret
      exact ⟨rfl, Hold.below H13.out (Nat.le_refl _) (fun k hk => hk)⟩
theorem bests_any (L : List ChR) (la : Option Addr) (lc A : Nat) (hA : A < 4294967296) (W : World) (hr : Rw W la (L.flatMap ChR.cells)) (hok : ∀ x ∈ L, x.Ok) :
    Calls Try.prog 7 #[.slice la L.length lc, .int .u32 (A : Nat)] W fun e w' => e = .returned (.bool true) ∧ Below W.heap.size W w' := by
  by_cases c : 40 < L.length
  · exact bests_many L la lc A c W
  · exact bests_few L la lc A hA hok (by omega) W hr
end Go.Proofs.Ytgcbngephokegaa
