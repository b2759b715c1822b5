/- The walk of CidrPrefixes. -/
import Derived.Test.YtijfohoaeacncaaDoorC3
import Derived.Test.YtijfohoaeacncaaDoorC6
import Derived.Test.YtijfohoaeacncaaDoorAlong2
namespace Go.Proofs.YtijfohoaeacncaaDoor
open Go.RowKit
set_option linter.unusedVariables false

/-- Two cells of a block. -/
def Pair (w : World) (b : Nat) (u v : Value) : Prop := w.cell? ⟨b, 0, none⟩ = some u ∧ w.cell? ⟨b, 1, none⟩ = some v
theorem Pair.on {w w' : World} {b : Nat} {u v : Value} (h : Pair w b u v) (hb : Below w.heap.size w w') : Pair w' b u v := by
  obtain ⟨-, k⟩ := ckeep hb
  exact ⟨(k _ _ (by rw [h.1]; rfl)).trans h.1, (k _ _ (by rw [h.2]; rfl)).trans h.2⟩
set_option maxRecDepth 100000 in
set_option maxHeartbeats 8000000 in
theorem prefixes_core (pa pn qa qn x n oa on_ lp c : Int) (r s hp t1 t2 u1 u2 : Bool)
    (CR : Hid (∀ w, Calls Tryd.prog 26 #[pv pa pn] w fun e w' => e = .returned (.bool r) ∧ Below w.heap.size w w'))
    (RP : Hid (∀ w, Calls Tryd.prog 27 #[pv pa pn] w fun e w' => e = .returned (.bool r) ∧ Below w.heap.size w w'))
    (RQ : Hid (∀ w, Calls Tryd.prog 27 #[pv qa qn] w fun e w' => e = .returned (.bool s) ∧ Below w.heap.size w w'))
    (OF : Hid (∀ w, Calls Tryd.prog 28 #[.int .u32 x, .int .i64 n] w fun e w' => e = .returned (pv oa on_) ∧ w.alloc (.cells #[.int .u32 oa, .int .i64 on_] 55) = w'))
    (RO : Hid (∀ w, Calls Tryd.prog 27 #[pv oa on_] w fun e w' => e = .returned (.bool true) ∧ Below w.heap.size w w'))
    (HO : Hid (∀ w, Calls Tryd.prog 29 #[pv oa on_, .int .u32 x] w fun e w' => e = .returned (.bool true) ∧ Below w.heap.size w w'))
    (hon : Hid ((n < 0 → on_ = 0) ∧ (0 ≤ n ∧ n ≤ 32 → on_ = n) ∧ (32 < n → on_ = 32)))
    (rest : Hid (r = true → s = true →
      (Hid (∀ w, Calls Tryd.prog 29 #[pv qa qn, .int .u32 pa] w fun e w' => e = .returned (.bool u1) ∧ Below w.heap.size w w') ∧ (qn ≤ pn → u1 = t1) ∧ (¬ qn ≤ pn → t1 = false)) ∧
      (Hid (∀ w, Calls Tryd.prog 29 #[pv pa pn, .int .u32 qa] w fun e w' => e = .returned (.bool u2) ∧ Below w.heap.size w w') ∧ (pn ≤ qn → u2 = t2) ∧ (¬ pn ≤ qn → t2 = false)) ∧
      Hid (∀ w, Calls Tryd.prog 31 #[pv pa pn, .int .u32 x] w fun e w' => e = .returned (.bool hp) ∧ Below w.heap.size w w') ∧ Hid (∀ w, Calls Tryd.prog 29 #[pv pa pn, .int .u32 x] w fun e w' => e = .returned (.bool hp) ∧ Below w.heap.size w w') ∧
      Hid (∀ w, Calls Tryd.prog 32 #[pv pa pn] w fun e w' => e = .returned (.int .u32 lp) ∧ Below w.heap.size w w') ∧ Hid (∀ w, Calls Tryd.prog 33 #[pv pa pn] w fun e w' => e = .returned (.int .u32 lp) ∧ Below w.heap.size w w') ∧
      Hid (∀ w, Calls Tryd.prog 34 #[pv pa pn, pv qa qn] w fun e w' => e = .returned (.bool t1) ∧ Below w.heap.size w w') ∧ Hid (∀ w, Calls Tryd.prog 35 #[pv pa pn, pv qa qn] w fun e w' => e = .returned (.bool (t1 || t2)) ∧ Below w.heap.size w w') ∧ Hid (∀ w, Calls Tryd.prog 36 #[pv pa pn, pv qa qn] w fun e w' => e = .returned (.int .i64 c) ∧ Below w.heap.size w w') ∧
      (pa < qa → c = -1) ∧ (pa = qa → pn < qn → c = -1) ∧ (pa = qa → pn = qn → c = 0) ∧ (pa = qa → qn < pn → c = 1) ∧ (qa < pa → c = 1)))
    (w : World) (ht : Hid (DbTab w)) :
    Calls Tryd.prog 8 #[pv pa pn, pv qa qn, .int .u32 x, .int .i64 n] w fun e w' => e = .returned (.bool true) ∧ Below w.heap.size w w' := by
  obtain ⟨W0, hW0⟩ : ∃ W0, (w.alloc (Obj.cells #[.int .u32 pa, .int .i64 pn] 55)).alloc (Obj.cells #[.int .u32 qa, .int .i64 qn] 55) = W0 := ⟨_, rfl⟩
  have z0 : W0.cell? ⟨w.heap.size, 0, none⟩ = some (.int .u32 pa) := by rw [← hW0]; simp [go_sem]
  have z1 : W0.cell? ⟨w.heap.size, 1, none⟩ = some (.int .i64 pn) := by rw [← hW0]; simp [go_sem]
  have z2 : W0.cell? ⟨w.heap.size + 1, 0, none⟩ = some (.int .u32 qa) := by rw [← hW0]; simp [go_sem]
  have z3 : W0.cell? ⟨w.heap.size + 1, 1, none⟩ = some (.int .i64 qn) := by rw [← hW0]; simp [go_sem]
  have HB0 := Lib.hid (show Below w.heap.size w W0 by rw [← hW0]; exact cbelow_al (cbelow_al (Below.refl _ _) _) _)
  go_enter Tryd.func8, Tryd.ntmps8
  go_upto_region 1 with fail
  clear hW0
  refine wp_region_noPanic ?_
  refine wp_region_along (S := fun w' => Below W0.heap.size W0 w' ∧ ∀ b o, (W0.cell? ⟨b, o, none⟩).isSome = true → w'.cell? ⟨b, o, none⟩ = W0.cell? ⟨b, o, none⟩) ([(0, true), (2, true), (1, false), (3, false), (4, true)]) (by kernel_rfl) (by as_aux_lemma => kernel_rfl) (by kernel_rfl) (by kernel_rfl) (by as_aux_lemma => kernel_rfl) (by as_aux_lemma => kernel_rfl) (fun _ _ _ _ _ h => h) (ckeep (Below.refl _ _).drew) (fun hH => ?_)
  simp only [stepsOf, pickOp]
  iterate 2 (first | (refine along_skip (by rfl) ?_; try simp only [Act.put, List.setIfInBounds_toArray, List.set_cons_zero, List.set_cons_succ]) | (refine along_pure ?_ (by rfl) (fun w hSw => ?_) ?_; rotate_left; ((try dsimp only at hSw); go_simp; try with_reducible rfl); try simp only [Act.put, List.setIfInBounds_toArray, List.set_cons_zero, List.set_cons_succ]))
  refine along_bar (fun K hK => ?_)
  go_simp
  refine (CR.out _).mono ?_
  rintro e w' ⟨rfl, hbx⟩
  try go_wp2_with fail
  refine hK.out _ _ (ckeep (cbelow_on hH.1 hbx)) (fun hH' => ?_)
  clear hK K hH
  have hH := hH'
  clear hH'
  clear hbx
  try simp only [Act.put, List.setIfInBounds_toArray, List.set_cons_zero, List.set_cons_succ]
  refine along_bar (fun K hK => ?_)
  go_simp
  refine (RP.out _).mono ?_
  rintro e w' ⟨rfl, hbx⟩
  try go_wp2_with fail
  refine hK.out _ _ (ckeep (cbelow_on hH.1 hbx)) (fun hH' => ?_)
  clear hK K hH
  have hH := hH'
  clear hH'
  clear hbx
  try simp only [Act.put, List.setIfInBounds_toArray, List.set_cons_zero, List.set_cons_succ]
  iterate 1 (first | (refine along_skip (by rfl) ?_; try simp only [Act.put, List.setIfInBounds_toArray, List.set_cons_zero, List.set_cons_succ]) | (refine along_pure ?_ (by rfl) (fun w hSw => ?_) ?_; rotate_left; ((try dsimp only at hSw); go_simp; try with_reducible rfl); try simp only [Act.put, List.setIfInBounds_toArray, List.set_cons_zero, List.set_cons_succ]))
  refine along_end (NoPanic.normal ?_)
  have HB1 := Lib.hid (cbelow_on HB0.out hH.1)
  have FP1 := Lib.hid ((show Pair W0 _ _ _ from ⟨z0, z1⟩).on hH.1)
  have FQ1 := Lib.hid ((show Pair W0 _ _ _ from ⟨z2, z3⟩).on hH.1)
  clear hH z0 z1 z2 z3 HB0
  obtain ⟨W1, rfl⟩ : ∃ W1 : World, W1 = w' := ⟨_, rfl⟩
  go_upto_region 3 with fail
  go_cut [9] (fun u wx => ∃ g : Nat, u = .pointer (some ⟨g, 0, none⟩) ∧ Below W1.heap.size W1 wx ∧ Pair wx g (.int .u32 oa) (.int .i64 on_))
  case first =>
    go_wp2_with fail
    refine (OF.out _).mono ?_
    rintro e w' ⟨rfl, rfl⟩
    go_wp2_with fail
    go_meet
    exact ⟨_, rfl, by repeat (first | exact Below.refl _ _ | refine cbelow_al ?_ _ | (refine Below.setCell ?_ (by simp; omega) _)), by simp [go_sem], by simp [go_sem]⟩
  case rest =>
    obtain ⟨g, rfl, hbx, fo⟩ := hcut
    have FP2 := Lib.hid (FP1.out.on hbx)
    have FQ2 := Lib.hid (FQ1.out.on hbx)
    have FO2 := Lib.hid fo
    have HB2 := Lib.hid (cbelow_on HB1.out hbx)
    clear FP1 FQ1 fo HB1 hbx OF CR
    obtain ⟨W2, rfl⟩ : ∃ W2 : World, W2 = wc := ⟨_, rfl⟩
    obtain ⟨f0, f1⟩ := FO2.out
    go_upto_region 4 with fail
    go_cut [61] (fun u wx => u = .bool false ∧ Below W2.heap.size W2 wx)
    case first =>
      go_wp2_with fail
      refine (RO.out _).mono ?_
      rintro e w3 ⟨rfl, hb3⟩
      obtain ⟨g0, g1⟩ := FO2.out.on hb3
      have HB3 := Lib.hid hb3
      clear hb3
      go_wp2_with fail
      refine (HO.out _).mono ?_
      rintro e w4 ⟨rfl, hb4⟩
      obtain ⟨i0, i1⟩ := (FO2.out.on HB3.out).on hb4
      have HB4 := Lib.hid (cbelow_on HB3.out hb4)
      clear hb4 f0 f1 g0 g1 HB3
      rcases (show n < 0 ∨ 0 ≤ n ∧ n ≤ 32 ∨ 32 < n by omega) with c | c | c
      · obtain rfl := hon.out.1 c
        go_wp2
        all_goals go_meet
        all_goals exact ⟨rfl, HB4.out⟩
      · obtain rfl := hon.out.2.1 c
        obtain ⟨c1, c2⟩ := c
        go_wp2
        all_goals go_meet
        all_goals exact ⟨rfl, HB4.out⟩
      · obtain rfl := hon.out.2.2 c
        go_wp2
        all_goals go_meet
        all_goals exact ⟨rfl, HB4.out⟩
    case rest =>
      obtain ⟨rfl, hbx⟩ := hcut
      have FP3 := Lib.hid (FP2.out.on hbx)
      have FQ3 := Lib.hid (FQ2.out.on hbx)
      have HB3 := Lib.hid (cbelow_on HB2.out hbx)
      clear FP2 FQ2 FO2 HB2 hbx RO HO f0 f1 hon
      obtain ⟨W3, rfl⟩ : ∃ W3 : World, W3 = wc := ⟨_, rfl⟩
      obtain ⟨z0, z1⟩ := FP3.out
      obtain ⟨z2, z3⟩ := FQ3.out
      go_upto_region 6 with fail
      go_wp2_with fail
      refine (RP.out _).mono ?_
      rintro e w4 ⟨rfl, hb4⟩
      have FP4 := Lib.hid (FP3.out.on hb4)
      have FQ4 := Lib.hid (FQ3.out.on hb4)
      have HB4 := Lib.hid (cbelow_on HB3.out hb4)
      clear hb4 FP3 FQ3 HB3 z0 z1 z2 z3
      obtain ⟨z0, z1⟩ := FP4.out
      obtain ⟨z2, z3⟩ := FQ4.out
      cases r
      · go_wp2_with fail
        refine (cawake_any _ (ht.out.on HB4.out)).mono ?_
        rintro e w5 ⟨rfl, hb5⟩
        have HB5 := Lib.hid (cbelow_on HB4.out hb5)
        clear hb5
        go_wp2
        go_ret
        exact ⟨rfl, HB5.out⟩
      · go_wp2_with fail
        refine (RQ.out _).mono ?_
        rintro e w5 ⟨rfl, hb5⟩
        have FP5 := Lib.hid (FP4.out.on hb5)
        have FQ5 := Lib.hid (FQ4.out.on hb5)
        have HB5 := Lib.hid (cbelow_on HB4.out hb5)
        clear hb5 FP4 FQ4 HB4 z0 z1 z2 z3
        obtain ⟨z0, z1⟩ := FP5.out
        obtain ⟨z2, z3⟩ := FQ5.out
        cases s
        · go_wp2_with fail
          refine (cawake_any _ (ht.out.on HB5.out)).mono ?_
          rintro e w6 ⟨rfl, hb6⟩
          have HB6 := Lib.hid (cbelow_on HB5.out hb6)
          clear hb6
          go_wp2
          go_ret
          exact ⟨rfl, HB6.out⟩
        · obtain ⟨⟨RA, ua, ra⟩, ⟨RB, ub, rb⟩, HP, RHP, LP, RLP, WI, ME, CO, c1, c2, c3, c4, c5⟩ := rest.out (by first | rfl | trivial) (by first | rfl | trivial)
          have RA' := Lib.hid ra
          have RB' := Lib.hid rb
          have UA := Lib.hid ua
          have UB := Lib.hid ub
          have CC := Lib.hid (show _ ∧ _ ∧ _ ∧ _ ∧ _ from ⟨c1, c2, c3, c4, c5⟩)
          clear ra rb ua ub c1 c2 c3 c4 c5 rest RP RQ
          go_upto_region 8 with fail
          go_cut [10] (fun u wx => u = .bool t1 ∧ Below w5.heap.size w5 wx)
          case first =>
            by_cases k : qn ≤ pn
            · obtain rfl := UA.out k
              go_wp2_with fail
              refine (RA.out _).mono ?_
              rintro e w6 ⟨rfl, hb6⟩
              have HB6 := Lib.hid hb6
              clear hb6
              go_wp2
              go_meet
              exact ⟨rfl, HB6.out⟩
            · obtain rfl := RA'.out (by omega)
              go_wp2
              go_meet
              exact ⟨rfl, Below.refl _ _⟩
          case rest =>
            obtain ⟨rfl, hbx⟩ := hcut
            have FP6 := Lib.hid (FP5.out.on hbx)
            have FQ6 := Lib.hid (FQ5.out.on hbx)
            have HB6 := Lib.hid (cbelow_on HB5.out hbx)
            clear FP5 FQ5 HB5 hbx z0 z1 z2 z3 RA RA' UA
            obtain ⟨W6, rfl⟩ : ∃ W6 : World, W6 = wc := ⟨_, rfl⟩
            obtain ⟨z0, z1⟩ := FP6.out
            obtain ⟨z2, z3⟩ := FQ6.out
            go_upto_region 9 with fail
            go_cut [11] (fun u wx => u = .bool t2 ∧ Below W6.heap.size W6 wx)
            case first =>
              by_cases k : pn ≤ qn
              · obtain rfl := UB.out k
                go_wp2_with fail
                refine (RB.out _).mono ?_
                rintro e w6 ⟨rfl, hb6⟩
                have HB6 := Lib.hid hb6
                clear hb6
                go_wp2
                go_meet
                exact ⟨rfl, HB6.out⟩
              · obtain rfl := RB'.out (by omega)
                go_wp2
                go_meet
                exact ⟨rfl, Below.refl _ _⟩
            case rest =>
              obtain ⟨rfl, hbx⟩ := hcut
              have FP7 := Lib.hid (FP6.out.on hbx)
              have FQ7 := Lib.hid (FQ6.out.on hbx)
              have HB7 := Lib.hid (cbelow_on HB6.out hbx)
              clear FP6 FQ6 HB6 hbx z0 z1 z2 z3 RB RB' UB
              obtain ⟨W7, rfl⟩ : ∃ W7 : World, W7 = wc := ⟨_, rfl⟩
              obtain ⟨z0, z1⟩ := FP7.out
              obtain ⟨z2, z3⟩ := FQ7.out
              have TA := Lib.hid (cawake_any W7.drew (ht.out.on HB7.out).drew)
              have hcs : (pa < qa ∧ c = -1) ∨ (pa = qa ∧ pn < qn ∧ c = -1) ∨ (pa = qa ∧ pn = qn ∧ c = 0) ∨ (pa = qa ∧ qn < pn ∧ c = 1) ∨ (qa < pa ∧ c = 1) := by
                obtain ⟨c1, c2, c3, c4, c5⟩ := CC.out
                rcases Int.lt_trichotomy pa qa with k | k | k
                · exact Or.inl ⟨k, c1 k⟩
                · rcases Int.lt_trichotomy pn qn with k2 | k2 | k2
                  · exact Or.inr (Or.inl ⟨k, k2, c2 k k2⟩)
                  · exact Or.inr (Or.inr (Or.inl ⟨k, k2, c3 k k2⟩))
                  · exact Or.inr (Or.inr (Or.inr (Or.inl ⟨k, k2, c4 k k2⟩)))
                · exact Or.inr (Or.inr (Or.inr (Or.inr ⟨k, c5 k⟩)))
              clear CC
              have HCS := Lib.hid hcs
              clear hcs
              obtain ⟨tb, htb⟩ : ∃ tb : Bool, decide (pa < qa ∨ (pa = qa ∧ pn < qn)) = tb := ⟨_, rfl⟩
              have HTB := Lib.hid htb
              clear htb
              go_upto_region 11 with fail
              go_cut [111] (fun u wx => u = .bool tb ∧ W7 = wx)
              case first =>
                by_cases k : pa < qa
                · have e : tb = true := by rw [← HTB.out]; exact decide_eq_true (Or.inl k)
                  subst e
                  go_wp2
                  go_meet
                  exact ⟨rfl, rfl⟩
                · by_cases k2 : pa = qa
                  · subst k2
                    by_cases k3 : pn < qn
                    · have e : tb = true := by rw [← HTB.out]; exact decide_eq_true (Or.inr ⟨rfl, k3⟩)
                      subst e
                      go_wp2
                      go_meet
                      exact ⟨rfl, rfl⟩
                    · have e : tb = false := by rw [← HTB.out]; exact decide_eq_false (by omega)
                      subst e
                      go_wp2
                      go_meet
                      exact ⟨rfl, rfl⟩
                  · have e : tb = false := by rw [← HTB.out]; exact decide_eq_false (by omega)
                    subst e
                    have k3 : (pa == qa) = false := by simp; exact k2
                    go_wp2
                    go_meet
                    exact ⟨rfl, rfl⟩
              case rest =>
                obtain ⟨rfl, rfl⟩ := hcut
                go_upto_if 111 with fail
                go_cut [12] (fun u wx => u = .int .i64 c ∧ W7 = wx)
                case first =>
                  rcases HCS.out with ⟨k, rfl⟩ | ⟨rfl, k, rfl⟩ | ⟨rfl, rfl, rfl⟩ | ⟨rfl, k, rfl⟩ | ⟨k, rfl⟩
                  · have e : tb = true := by rw [← HTB.out]; exact decide_eq_true (Or.inl k)
                    subst e
                    go_wp2
                    go_meet
                    exact ⟨rfl, rfl⟩
                  · have e : tb = true := by rw [← HTB.out]; exact decide_eq_true (Or.inr ⟨rfl, k⟩)
                    subst e
                    go_wp2
                    go_meet
                    exact ⟨rfl, rfl⟩
                  · have e : tb = false := by rw [← HTB.out]; exact decide_eq_false (by omega)
                    subst e
                    go_wp2
                    go_meet
                    exact ⟨rfl, rfl⟩
                  · have e : tb = false := by rw [← HTB.out]; exact decide_eq_false (by omega)
                    subst e
                    have k2 : (pn == qn) = false := by simp; omega
                    go_wp2
                    go_meet
                    exact ⟨rfl, rfl⟩
                  · have e : tb = false := by rw [← HTB.out]; exact decide_eq_false (by omega)
                    subst e
                    have k2 : (pa == qa) = false := by simp; omega
                    go_wp2
                    go_meet
                    exact ⟨rfl, rfl⟩
                case rest =>
                 obtain ⟨rfl, rfl⟩ := hcut
                 have _ok := True.intro
                 clear HCS HTB
                 cases t1
                 all_goals
                  go_upto_region 15 with fail
                  refine wp_region_noPanic ?_
                  refine wp_region_along (S := fun w' => Below W7.heap.size W7 w' ∧ ∀ b o, (W7.cell? ⟨b, o, none⟩).isSome = true → w'.cell? ⟨b, o, none⟩ = W7.cell? ⟨b, o, none⟩) ([(0, false), (1, true), (2, true), (3, true), (5, true), (6, true), (4, false), (7, false), (8, true), (9, true), (10, true), (11, true), (13, true), (12, false), (14, false), (15, true)] ++ ([(16, true), (17, true), (18, true), (19, true), (21, true), (20, false), (22, true), (23, true), (24, true), (25, true), (26, true), (28, true), (27, false), (29, true), (30, true), (31, true)] ++ ([(32, true), (33, true), (34, true), (35, true), (36, true), (38, true), (37, false), (39, true), (40, true), (41, true)]))) (by kernel_rfl) (by as_aux_lemma => kernel_rfl) (by kernel_rfl) (by kernel_rfl) (alongPre_append _ _ _ (by as_aux_lemma => kernel_rfl) (alongPre_append _ _ _ (by as_aux_lemma => kernel_rfl) (by as_aux_lemma => kernel_rfl))) (by as_aux_lemma => kernel_rfl) (fun _ _ _ _ _ h => h) (ckeep (Below.refl _ _).drew) (fun hH => ?_)
                  simp only [List.cons_append, List.nil_append, stepsOf, pickOp]
                  refine along_bar (fun K hK => ?_)
                  go_simp
                  refine TA.out.mono ?_
                  rintro e w' ⟨rfl, hbx⟩
                  try go_wp2_with fail
                  refine hK.out _ _ (ckeep (cbelow_on hH.1 hbx)) (fun hH' => ?_)
                  clear hK K hH
                  have hH := hH'
                  clear hH'
                  clear hbx
                  try simp only [Act.put, List.setIfInBounds_toArray, List.set_cons_zero, List.set_cons_succ]
                  iterate 5 (first | (refine along_skip (by rfl) ?_; try simp only [Act.put, List.setIfInBounds_toArray, List.set_cons_zero, List.set_cons_succ]) | (refine along_pure ?_ (by rfl) (fun w hSw => ?_) ?_; rotate_left; ((try dsimp only at hSw); go_simp; try with_reducible rfl); try simp only [Act.put, List.setIfInBounds_toArray, List.set_cons_zero, List.set_cons_succ]))
                  refine along_bar (fun K hK => ?_)
                  go_simp
                  refine (HP.out _).mono ?_
                  rintro e w' ⟨rfl, hbx⟩
                  try go_wp2_with fail
                  refine hK.out _ _ (ckeep (cbelow_on hH.1 hbx)) (fun hH' => ?_)
                  clear hK K hH
                  have hH := hH'
                  clear hH'
                  clear hbx
                  try simp only [Act.put, List.setIfInBounds_toArray, List.set_cons_zero, List.set_cons_succ]
                  refine along_bar (fun K hK => ?_)
                  go_simp
                  refine (RHP.out _).mono ?_
                  rintro e w' ⟨rfl, hbx⟩
                  try go_wp2_with fail
                  refine hK.out _ _ (ckeep (cbelow_on hH.1 hbx)) (fun hH' => ?_)
                  clear hK K hH
                  have hH := hH'
                  clear hH'
                  clear hbx
                  try simp only [Act.put, List.setIfInBounds_toArray, List.set_cons_zero, List.set_cons_succ]
                  iterate 5 (first | (refine along_skip (by rfl) ?_; try simp only [Act.put, List.setIfInBounds_toArray, List.set_cons_zero, List.set_cons_succ]) | (refine along_pure ?_ (by rfl) (fun w hSw => ?_) ?_; rotate_left; ((try dsimp only at hSw); go_simp; try with_reducible rfl); try simp only [Act.put, List.setIfInBounds_toArray, List.set_cons_zero, List.set_cons_succ]))
                  refine along_bar (fun K hK => ?_)
                  go_simp
                  refine (LP.out _).mono ?_
                  rintro e w' ⟨rfl, hbx⟩
                  try go_wp2_with fail
                  refine hK.out _ _ (ckeep (cbelow_on hH.1 hbx)) (fun hH' => ?_)
                  clear hK K hH
                  have hH := hH'
                  clear hH'
                  clear hbx
                  try simp only [Act.put, List.setIfInBounds_toArray, List.set_cons_zero, List.set_cons_succ]
                  refine along_bar (fun K hK => ?_)
                  go_simp
                  refine (RLP.out _).mono ?_
                  rintro e w' ⟨rfl, hbx⟩
                  try go_wp2_with fail
                  refine hK.out _ _ (ckeep (cbelow_on hH.1 hbx)) (fun hH' => ?_)
                  clear hK K hH
                  have hH := hH'
                  clear hH'
                  clear hbx
                  try simp only [Act.put, List.setIfInBounds_toArray, List.set_cons_zero, List.set_cons_succ]
                  iterate 6 (first | (refine along_skip (by rfl) ?_; try simp only [Act.put, List.setIfInBounds_toArray, List.set_cons_zero, List.set_cons_succ]) | (refine along_pure ?_ (by rfl) (fun w hSw => ?_) ?_; rotate_left; ((try dsimp only at hSw); go_simp; try with_reducible rfl); try simp only [Act.put, List.setIfInBounds_toArray, List.set_cons_zero, List.set_cons_succ]))
                  refine along_bar (fun K hK => ?_)
                  go_simp
                  refine (WI.out _).mono ?_
                  rintro e w' ⟨rfl, hbx⟩
                  try go_wp2_with fail
                  refine hK.out _ _ (ckeep (cbelow_on hH.1 hbx)) (fun hH' => ?_)
                  clear hK K hH
                  have hH := hH'
                  clear hH'
                  clear hbx
                  try simp only [Act.put, List.setIfInBounds_toArray, List.set_cons_zero, List.set_cons_succ]
                  iterate 6 (first | (refine along_skip (by rfl) ?_; try simp only [Act.put, List.setIfInBounds_toArray, List.set_cons_zero, List.set_cons_succ]) | (refine along_pure ?_ (by rfl) (fun w hSw => ?_) ?_; rotate_left; ((try dsimp only at hSw); go_simp; try with_reducible rfl); try simp only [Act.put, List.setIfInBounds_toArray, List.set_cons_zero, List.set_cons_succ]))
                  refine along_bar (fun K hK => ?_)
                  go_simp
                  refine (ME.out _).mono ?_
                  rintro e w' ⟨rfl, hbx⟩
                  try go_wp2_with fail
                  refine hK.out _ _ (ckeep (cbelow_on hH.1 hbx)) (fun hH' => ?_)
                  clear hK K hH
                  have hH := hH'
                  clear hH'
                  clear hbx
                  try simp only [Act.put, List.setIfInBounds_toArray, List.set_cons_zero, List.set_cons_succ]
                  iterate 9 (first | (refine along_skip (by rfl) ?_; try simp only [Act.put, List.setIfInBounds_toArray, List.set_cons_zero, List.set_cons_succ]) | (refine along_pure ?_ (by rfl) (fun w hSw => ?_) ?_; rotate_left; ((try dsimp only at hSw); go_simp; try with_reducible rfl); try simp only [Act.put, List.setIfInBounds_toArray, List.set_cons_zero, List.set_cons_succ]))
                  refine along_bar (fun K hK => ?_)
                  go_simp
                  refine (CO.out _).mono ?_
                  rintro e w' ⟨rfl, hbx⟩
                  try go_wp2_with fail
                  refine hK.out _ _ (ckeep (cbelow_on hH.1 hbx)) (fun hH' => ?_)
                  clear hK K hH
                  have hH := hH'
                  clear hH'
                  clear hbx
                  try simp only [Act.put, List.setIfInBounds_toArray, List.set_cons_zero, List.set_cons_succ]
                  iterate 3 (first | (refine along_skip (by rfl) ?_; try simp only [Act.put, List.setIfInBounds_toArray, List.set_cons_zero, List.set_cons_succ]) | (refine along_pure ?_ (by rfl) (fun w hSw => ?_) ?_; rotate_left; ((try dsimp only at hSw); go_simp; try with_reducible rfl); try simp only [Act.put, List.setIfInBounds_toArray, List.set_cons_zero, List.set_cons_succ]))
                  refine along_end (NoPanic.normal ?_)
                  have HB8 := Lib.hid (cbelow_on HB7.out hH.1)
                  clear hH
                  go_wp2
                  go_ret
                  exact ⟨cret_bool (by simp), HB8.out⟩
end Go.Proofs.YtijfohoaeacncaaDoor
