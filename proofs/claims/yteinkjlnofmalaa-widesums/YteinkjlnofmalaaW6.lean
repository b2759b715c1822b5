/- The walk of WideSums: whatever two counts and whatever number are handed in, it answers true, and turns nothing that was there. -/
import Derived.Test.YteinkjlnofmalaaW5
import Derived.Test.YteinkjlnofmalaaAlong
namespace Go.Proofs.Yteinkjlnofmalaa
open Go.RowKit
set_option linter.unusedVariables false
theorem eql_zero (a : Nat) (w : World) : (binOp .eql 24 (.agg #[.int .u64 (hi a), .int .u64 (lo a)]) (.agg #[.int .u64 0, .int .u64 0])).run Try.prog w = .ok (.bool (decide (a = 0))) w := by
  have h := isz a
  by_cases c1 : hi a = 0
  · by_cases c2 : lo a = 0
    · rw [decide_eq_true (h.1 ⟨c1, c2⟩), c1, c2]
      go_simp
    · rw [decide_eq_false (mt h.2 (by omega)), c1]
      have c3 : (lo a == 0) = false := by simp; exact c2
      clear h c1
      go_simp
  · rw [decide_eq_false (mt h.2 (by omega))]
    have c3 : (hi a == 0) = false := by simp; exact c1
    clear h
    go_simp
theorem rup_one (n : Int) (w : World) :
    Calls Try.prog 16 #[cv 0 1, .int .i64 n] w fun e w' => e = .returned (cn (upI 1 n)) ∧ Below w.heap.size w w' := by
  have h := rup_any 1 n (by decide) w
  rw [cn, hi_one, lo_one] at h
  exact h
set_option maxRecDepth 100000 in
set_option maxHeartbeats 4000000 in
theorem sums_any (a b : Nat) (n : Int) (ha : a < MM) (hb : b < MM) (w : World) :
    Calls Try.prog 3 #[cn a, cn b, .int .i64 n] w fun e w' => e = .returned (.bool true) ∧ Below w.heap.size w w' := by
  obtain ⟨W0, hW0⟩ : ∃ W0, ((w.alloc (Obj.cells #[.int .u64 (hi a), .int .u64 (lo a)] 24)).alloc (Obj.cells #[.int .u64 (hi b), .int .u64 (lo b)] 24)) = W0 := ⟨_, rfl⟩
  have z0 : W0.heap.size = w.heap.size + 1 + 1 := by rw [← hW0]; simp
  have z1 : W0.cell? ⟨w.heap.size, 0, none⟩ = some (.int .u64 (hi a)) := by rw [← hW0]; simp [go_sem]
  have z2 : W0.cell? ⟨w.heap.size, 1, none⟩ = some (.int .u64 (lo a)) := by rw [← hW0]; simp [go_sem]
  have z3 : W0.cell? ⟨w.heap.size + 1, 0, none⟩ = some (.int .u64 (hi b)) := by rw [← hW0]; simp [go_sem]
  have z4 : W0.cell? ⟨w.heap.size + 1, 1, none⟩ = some (.int .u64 (lo b)) := by rw [← hW0]; simp [go_sem]
  have hB0 : Below w.heap.size w W0 := by rw [← hW0]; exact below_al (below_al (Below.refl _ _) _) _
  obtain ⟨d, hd⟩ : ∃ d, ad a b = d := ⟨_, rfl⟩
  obtain ⟨s, hs⟩ : ∃ s, sb a b = s := ⟨_, rfl⟩
  obtain ⟨u, hu⟩ : ∃ u, upI a n = u := ⟨_, rfl⟩
  obtain ⟨p, hp⟩ : ∃ p, upI 1 n = p := ⟨_, rfl⟩
  obtain ⟨q, hq⟩ : ∃ q, cmpN a b = q := ⟨_, rfl⟩
  have HC1 : Hid (∀ w, Calls Try.prog 11 #[cn a, cn b] w fun e w' => e = .returned (cn d) ∧ Below w.heap.size w w') := fun w => by rw [← hd]; exact add_ad a b ha hb w
  have HC2 : Hid (∀ w, Calls Try.prog 12 #[cn a, cn b] w fun e w' => e = .returned (cn d) ∧ Below w.heap.size w w') := fun w => by rw [← hd]; exact radd_ad a b ha hb w
  have HC3 : Hid (∀ w, Calls Try.prog 13 #[cn a, cn b] w fun e w' => e = .returned (cn s) ∧ Below w.heap.size w w') := fun w => by rw [← hs]; exact sub_any a b ha hb w
  have HC4 : Hid (∀ w, Calls Try.prog 14 #[cn a, cn b] w fun e w' => e = .returned (cn s) ∧ Below w.heap.size w w') := fun w => by rw [← hs]; exact rsub_any a b ha hb w
  have HC5 : Hid (∀ w, Calls Try.prog 15 #[cn a, .int .i64 n] w fun e w' => e = .returned (cn u) ∧ Below w.heap.size w w') := fun w => by rw [← hu]; exact up_any a n ha w
  have HC6 : Hid (∀ w, Calls Try.prog 16 #[cn a, .int .i64 n] w fun e w' => e = .returned (cn u) ∧ Below w.heap.size w w') := fun w => by rw [← hu]; exact rup_any a n ha w
  have HC7 : Hid (∀ w, Calls Try.prog 17 #[.int .i64 n] w fun e w' => e = .returned (cn p) ∧ Below w.heap.size w w') := fun w => by rw [← hp]; exact pow_any n w
  have HC8 : Hid (∀ w, Calls Try.prog 16 #[cv 0 1, .int .i64 n] w fun e w' => e = .returned (cn p) ∧ Below w.heap.size w w') := fun w => by rw [← hp]; exact rup_one n w
  have HC9 : Hid (∀ w, Calls Try.prog 18 #[cn a, cn b] w fun e w' => e = .returned (.int .i64 q) ∧ Below w.heap.size w w') := fun w => by rw [← hq]; exact cmp_any a b w
  have HQ := Lib.hid hq
  clear hd hs hu hp hq
  go_enter Try.func3, Try.ntmps3
  go_upto_region 1 with fail
  have Z0 := Lib.hid z0
  clear z0 hW0
  go_cut [7, 8] (fun x y wx => ∃ g7 g8 : Nat, x = .pointer (some ⟨g7, 0, none⟩) ∧ y = .pointer (some ⟨g8, 0, none⟩) ∧ Below W0.heap.size W0 wx ∧ Two wx g7 (hi a) (lo a) ∧ Two wx g8 (hi b) (lo b))
  case first =>
   as_aux_lemma =>
    go_region_held3 (fun w' => Below W0.heap.size W0 w' ∧ ∀ b o, (W0.cell? ⟨b, o, none⟩).isSome = true → w'.cell? ⟨b, o, none⟩ = W0.cell? ⟨b, o, none⟩)
      ((refine below_kb ?_; repeat (first | exact Below.refl _ _ | assumption | refine Below.drew ?_ | refine below_al ?_ _ | (refine Below.setCell ?_ (by simp; omega) _))))
      (first | (go_at_call 8; refine (to_exact _ _ _).mono ?_; rintro e w' ⟨rfl, rfl⟩))
    all_goals (rename_i hH; have HB := Lib.hid hH.1; clear hH; go_wp2_with fail; go_meet; exact ⟨_, _, rfl, rfl, HB.out, ⟨by simp [go_sem], by simp [go_sem], by simp [go_sem], by simp [go_sem]⟩, ⟨by simp [go_sem], by simp [go_sem], by simp [go_sem], by simp [go_sem]⟩⟩)
  case rest =>
    obtain ⟨g7, g8, rfl, rfl, hbx0, ht7, ht8⟩ := hcut
    have HT7 := Lib.hid ht7
    have HT8 := Lib.hid ht8
    clear ht7 ht8
    obtain ⟨hc0, -⟩ := bsome hbx0
    have y1 : wc.cell? ⟨w.heap.size, 0, none⟩ = some (.int .u64 (hi a)) := (hc0 _ _ (by rw [z1]; rfl)).trans z1
    have y2 : wc.cell? ⟨w.heap.size, 1, none⟩ = some (.int .u64 (lo a)) := (hc0 _ _ (by rw [z2]; rfl)).trans z2
    have y3 : wc.cell? ⟨w.heap.size + 1, 0, none⟩ = some (.int .u64 (hi b)) := (hc0 _ _ (by rw [z3]; rfl)).trans z3
    have y4 : wc.cell? ⟨w.heap.size + 1, 1, none⟩ = some (.int .u64 (lo b)) := (hc0 _ _ (by rw [z4]; rfl)).trans z4
    clear hc0 z1 z2 z3 z4
    obtain ⟨wa, rfl⟩ : ∃ wa : World, wa = wc := ⟨_, rfl⟩
    go_upto_if 16 with (go_at_call 9; refine (less_any a b _).mono ?_; rintro e w1 ⟨rfl, hb1⟩)
    obtain ⟨hc1, -⟩ := bsome hb1
    go_cut [9] (fun v wx => v = .int .i64 q ∧ Below wa.heap.size wa wx)
    case first =>
     as_aux_lemma =>
      by_cases c1 : a < b
      · have e1 : cmpN a b = -1 := by unfold cmpN; rw [if_pos c1]
        rw [decide_eq_true c1]
        have E1 := Lib.hid e1
        clear e1
        go_wp2_with fail
        go_meet
        exact ⟨by rw [← HQ.out, E1.out], hb1⟩
      · rw [decide_eq_false c1]
        go_wp2_with fail
        refine (less_any b a _).mono ?_
        rintro e w2 ⟨rfl, hb2⟩
        by_cases c2 : b < a
        · have e1 : cmpN a b = 1 := by unfold cmpN; rw [if_neg c1, if_pos c2]
          rw [decide_eq_true c2]
          have E1 := Lib.hid e1
          clear e1
          go_wp2_with fail
          go_meet
          exact ⟨by rw [← HQ.out, E1.out], below_on hb1 hb2⟩
        · have e1 : cmpN a b = 0 := by unfold cmpN; rw [if_neg c1, if_neg c2]
          rw [decide_eq_false c2]
          have E1 := Lib.hid e1
          clear e1
          go_wp2_with fail
          go_meet
          exact ⟨by rw [← HQ.out, E1.out], below_on hb1 hb2⟩
    case rest =>
     as_aux_lemma =>
      obtain ⟨rfl, hbd⟩ := hcut
      obtain ⟨hcd, -⟩ := bsome hbd
      have x1 := (hcd _ _ (by rw [y1]; rfl)).trans y1
      have x2 := (hcd _ _ (by rw [y2]; rfl)).trans y2
      have x3 := (hcd _ _ (by rw [y3]; rfl)).trans y3
      have x4 := (hcd _ _ (by rw [y4]; rfl)).trans y4
      obtain ⟨v1, v2, -, -⟩ := HT7.out
      obtain ⟨v3, v4, -, -⟩ := HT8.out
      have x5 := (hcd _ _ (by rw [v1]; rfl)).trans v1
      have x6 := (hcd _ _ (by rw [v2]; rfl)).trans v2
      have x7 := (hcd _ _ (by rw [v3]; rfl)).trans v3
      have x8 := (hcd _ _ (by rw [v4]; rfl)).trans v4
      clear hcd y1 y2 y3 y4 v1 v2 v3 v4 hc1
      have q1 := eql_zero a
      go_wp2_with fail
      dsimp only [List.append]
      refine wp_region_noPanic ?_
      refine wp_region_along (S := fun w' => Below wc.heap.size wc w' ∧ ∀ b o, (wc.cell? ⟨b, o, none⟩).isSome = true → w'.cell? ⟨b, o, none⟩ = wc.cell? ⟨b, o, none⟩) ([(0, false), (1, true), (2, true), (3, true), (5, true), (6, true), (4, false), (7, false), (8, false), (9, true), (10, true), (11, true), (12, true), (13, true), (15, true), (16, true)] ++ ([(14, false), (17, false), (18, false), (19, true), (20, true), (21, true), (22, true), (23, true), (25, true), (26, true), (24, false), (27, false), (28, false), (29, true), (30, true), (31, true)] ++ ([(32, true), (34, true), (35, true), (33, false), (36, false), (37, false), (38, true), (39, true), (40, true), (41, true), (42, true), (44, true), (43, false), (45, true), (46, true), (47, true)] ++ ([(48, true), (50, true), (51, true), (52, true), (49, false), (53, true), (54, true), (55, true), (56, true), (57, true), (59, true), (60, true), (61, true), (58, false), (62, true), (63, true)] ++ ([(64, true)]))))) (by kernel_rfl) (by as_aux_lemma => kernel_rfl) (by kernel_rfl) (by kernel_rfl) (alongPre_append _ _ _ (by as_aux_lemma => kernel_rfl) (alongPre_append _ _ _ (by as_aux_lemma => kernel_rfl) (alongPre_append _ _ _ (by as_aux_lemma => kernel_rfl) (alongPre_append _ _ _ (by as_aux_lemma => kernel_rfl) (by as_aux_lemma => kernel_rfl))))) (by as_aux_lemma => kernel_rfl) (fun _ _ _ _ _ h => h) (below_kb (Below.refl _ _).drew) (fun hH => ?_)
      simp only [List.cons_append, List.nil_append, stepsOf, pickOp]
      refine along_bar (fun K hK => ?_)
      go_simp
      refine (awake_any _).mono ?_
      rintro e w' ⟨rfl, hbx⟩
      try go_wp2_with fail
      refine hK.out _ _ (below_kb (below_on hH.1 hbx)) (fun hH' => ?_)
      clear hK K hH hbx
      have hH := hH'
      clear hH'
      try simp only [Act.put, List.setIfInBounds_toArray, List.set_cons_zero, List.set_cons_succ]
      refine along_pure ?_ (by rfl) (fun w hSw => ?_) ?_
      rotate_left
      · (try dsimp only at hSw); go_simp; try with_reducible rfl
      try simp only [Act.put, List.setIfInBounds_toArray, List.set_cons_zero, List.set_cons_succ]
      refine along_pure ?_ (by rfl) (fun w hSw => ?_) ?_
      rotate_left
      · (try dsimp only at hSw); go_simp; try with_reducible rfl
      try simp only [Act.put, List.setIfInBounds_toArray, List.set_cons_zero, List.set_cons_succ]
      refine along_pure ?_ (by rfl) (fun w hSw => ?_) ?_
      rotate_left
      · (try dsimp only at hSw); go_simp; try with_reducible rfl
      try simp only [Act.put, List.setIfInBounds_toArray, List.set_cons_zero, List.set_cons_succ]
      refine along_pure ?_ (by rfl) (fun w hSw => ?_) ?_
      rotate_left
      · (try dsimp only at hSw); go_simp; try with_reducible rfl
      try simp only [Act.put, List.setIfInBounds_toArray, List.set_cons_zero, List.set_cons_succ]
      refine along_pure ?_ (by rfl) (fun w hSw => ?_) ?_
      rotate_left
      · (try dsimp only at hSw); go_simp; try with_reducible rfl
      try simp only [Act.put, List.setIfInBounds_toArray, List.set_cons_zero, List.set_cons_succ]
      refine along_bar (fun K hK => ?_)
      go_simp
      refine (HC1.out _).mono ?_
      rintro e w' ⟨rfl, hbx⟩
      try go_wp2_with fail
      refine hK.out _ _ (below_kb (below_on hH.1 hbx)) (fun hH' => ?_)
      clear hK K hH hbx
      have hH := hH'
      clear hH'
      try simp only [Act.put, List.setIfInBounds_toArray, List.set_cons_zero, List.set_cons_succ]
      refine along_bar (fun K hK => ?_)
      go_simp
      refine (HC2.out _).mono ?_
      rintro e w' ⟨rfl, hbx⟩
      try go_wp2_with fail
      refine hK.out _ _ (below_kb (below_on hH.1 hbx)) (fun hH' => ?_)
      clear hK K hH hbx
      have hH := hH'
      clear hH'
      try simp only [Act.put, List.setIfInBounds_toArray, List.set_cons_zero, List.set_cons_succ]
      refine along_bar (fun K hK => ?_)
      go_simp
      refine (to_any _ _ _).mono ?_
      rintro e w' ⟨rfl, hbx⟩
      try go_wp2_with fail
      refine hK.out _ _ (below_kb (below_on hH.1 hbx)) (fun hH' => ?_)
      clear hK K hH hbx
      have hH := hH'
      clear hH'
      try simp only [Act.put, List.setIfInBounds_toArray, List.set_cons_zero, List.set_cons_succ]
      refine along_pure ?_ (by rfl) (fun w hSw => ?_) ?_
      rotate_left
      · (try dsimp only at hSw); go_simp; try with_reducible rfl
      try simp only [Act.put, List.setIfInBounds_toArray, List.set_cons_zero, List.set_cons_succ]
      refine along_pure ?_ (by rfl) (fun w hSw => ?_) ?_
      rotate_left
      · (try dsimp only at hSw); go_simp; try with_reducible rfl
      try simp only [Act.put, List.setIfInBounds_toArray, List.set_cons_zero, List.set_cons_succ]
      refine along_pure ?_ (by rfl) (fun w hSw => ?_) ?_
      rotate_left
      · (try dsimp only at hSw); go_simp; try with_reducible rfl
      try simp only [Act.put, List.setIfInBounds_toArray, List.set_cons_zero, List.set_cons_succ]
      refine along_pure ?_ (by rfl) (fun w hSw => ?_) ?_
      rotate_left
      · (try dsimp only at hSw); go_simp; try with_reducible rfl
      try simp only [Act.put, List.setIfInBounds_toArray, List.set_cons_zero, List.set_cons_succ]
      refine along_pure ?_ (by rfl) (fun w hSw => ?_) ?_
      rotate_left
      · (try dsimp only at hSw); go_simp; try with_reducible rfl
      try simp only [Act.put, List.setIfInBounds_toArray, List.set_cons_zero, List.set_cons_succ]
      refine along_pure ?_ (by rfl) (fun w hSw => ?_) ?_
      rotate_left
      · (try dsimp only at hSw); go_simp; try with_reducible rfl
      try simp only [Act.put, List.setIfInBounds_toArray, List.set_cons_zero, List.set_cons_succ]
      refine along_pure ?_ (by rfl) (fun w hSw => ?_) ?_
      rotate_left
      · (try dsimp only at hSw); go_simp; try with_reducible rfl
      try simp only [Act.put, List.setIfInBounds_toArray, List.set_cons_zero, List.set_cons_succ]
      refine along_bar (fun K hK => ?_)
      go_simp
      refine (HC3.out _).mono ?_
      rintro e w' ⟨rfl, hbx⟩
      try go_wp2_with fail
      refine hK.out _ _ (below_kb (below_on hH.1 hbx)) (fun hH' => ?_)
      clear hK K hH hbx
      have hH := hH'
      clear hH'
      try simp only [Act.put, List.setIfInBounds_toArray, List.set_cons_zero, List.set_cons_succ]
      refine along_bar (fun K hK => ?_)
      go_simp
      refine (HC4.out _).mono ?_
      rintro e w' ⟨rfl, hbx⟩
      try go_wp2_with fail
      refine hK.out _ _ (below_kb (below_on hH.1 hbx)) (fun hH' => ?_)
      clear hK K hH hbx
      have hH := hH'
      clear hH'
      try simp only [Act.put, List.setIfInBounds_toArray, List.set_cons_zero, List.set_cons_succ]
      refine along_bar (fun K hK => ?_)
      go_simp
      refine (to_any _ _ _).mono ?_
      rintro e w' ⟨rfl, hbx⟩
      try go_wp2_with fail
      refine hK.out _ _ (below_kb (below_on hH.1 hbx)) (fun hH' => ?_)
      clear hK K hH hbx
      have hH := hH'
      clear hH'
      try simp only [Act.put, List.setIfInBounds_toArray, List.set_cons_zero, List.set_cons_succ]
      refine along_pure ?_ (by rfl) (fun w hSw => ?_) ?_
      rotate_left
      · (try dsimp only at hSw); go_simp; try with_reducible rfl
      try simp only [Act.put, List.setIfInBounds_toArray, List.set_cons_zero, List.set_cons_succ]
      refine along_pure ?_ (by rfl) (fun w hSw => ?_) ?_
      rotate_left
      · (try dsimp only at hSw); go_simp; try with_reducible rfl
      try simp only [Act.put, List.setIfInBounds_toArray, List.set_cons_zero, List.set_cons_succ]
      refine along_pure ?_ (by rfl) (fun w hSw => ?_) ?_
      rotate_left
      · (try dsimp only at hSw); go_simp; try with_reducible rfl
      try simp only [Act.put, List.setIfInBounds_toArray, List.set_cons_zero, List.set_cons_succ]
      refine along_pure ?_ (by rfl) (fun w hSw => ?_) ?_
      rotate_left
      · (try dsimp only at hSw); go_simp; try with_reducible rfl
      try simp only [Act.put, List.setIfInBounds_toArray, List.set_cons_zero, List.set_cons_succ]
      refine along_pure ?_ (by rfl) (fun w hSw => ?_) ?_
      rotate_left
      · (try dsimp only at hSw); go_simp; try with_reducible rfl
      try simp only [Act.put, List.setIfInBounds_toArray, List.set_cons_zero, List.set_cons_succ]
      refine along_pure ?_ (by rfl) (fun w hSw => ?_) ?_
      rotate_left
      · (try dsimp only at hSw); go_simp; try with_reducible rfl
      try simp only [Act.put, List.setIfInBounds_toArray, List.set_cons_zero, List.set_cons_succ]
      refine along_pure ?_ (by rfl) (fun w hSw => ?_) ?_
      rotate_left
      · (try dsimp only at hSw); go_simp; try with_reducible rfl
      try simp only [Act.put, List.setIfInBounds_toArray, List.set_cons_zero, List.set_cons_succ]
      refine along_bar (fun K hK => ?_)
      go_simp
      refine (HC5.out _).mono ?_
      rintro e w' ⟨rfl, hbx⟩
      try go_wp2_with fail
      refine hK.out _ _ (below_kb (below_on hH.1 hbx)) (fun hH' => ?_)
      clear hK K hH hbx
      have hH := hH'
      clear hH'
      try simp only [Act.put, List.setIfInBounds_toArray, List.set_cons_zero, List.set_cons_succ]
      refine along_bar (fun K hK => ?_)
      go_simp
      refine (HC6.out _).mono ?_
      rintro e w' ⟨rfl, hbx⟩
      try go_wp2_with fail
      refine hK.out _ _ (below_kb (below_on hH.1 hbx)) (fun hH' => ?_)
      clear hK K hH hbx
      have hH := hH'
      clear hH'
      try simp only [Act.put, List.setIfInBounds_toArray, List.set_cons_zero, List.set_cons_succ]
      refine along_bar (fun K hK => ?_)
      go_simp
      refine (to_any _ _ _).mono ?_
      rintro e w' ⟨rfl, hbx⟩
      try go_wp2_with fail
      refine hK.out _ _ (below_kb (below_on hH.1 hbx)) (fun hH' => ?_)
      clear hK K hH hbx
      have hH := hH'
      clear hH'
      try simp only [Act.put, List.setIfInBounds_toArray, List.set_cons_zero, List.set_cons_succ]
      refine along_pure ?_ (by rfl) (fun w hSw => ?_) ?_
      rotate_left
      · (try dsimp only at hSw); go_simp; try with_reducible rfl
      try simp only [Act.put, List.setIfInBounds_toArray, List.set_cons_zero, List.set_cons_succ]
      refine along_pure ?_ (by rfl) (fun w hSw => ?_) ?_
      rotate_left
      · (try dsimp only at hSw); go_simp; try with_reducible rfl
      try simp only [Act.put, List.setIfInBounds_toArray, List.set_cons_zero, List.set_cons_succ]
      refine along_pure ?_ (by rfl) (fun w hSw => ?_) ?_
      rotate_left
      · (try dsimp only at hSw); go_simp; try with_reducible rfl
      try simp only [Act.put, List.setIfInBounds_toArray, List.set_cons_zero, List.set_cons_succ]
      refine along_pure ?_ (by rfl) (fun w hSw => ?_) ?_
      rotate_left
      · (try dsimp only at hSw); go_simp; try with_reducible rfl
      try simp only [Act.put, List.setIfInBounds_toArray, List.set_cons_zero, List.set_cons_succ]
      refine along_pure ?_ (by rfl) (fun w hSw => ?_) ?_
      rotate_left
      · (try dsimp only at hSw); go_simp; try with_reducible rfl
      try simp only [Act.put, List.setIfInBounds_toArray, List.set_cons_zero, List.set_cons_succ]
      refine along_pure ?_ (by rfl) (fun w hSw => ?_) ?_
      rotate_left
      · (try dsimp only at hSw); go_simp; try with_reducible rfl
      try simp only [Act.put, List.setIfInBounds_toArray, List.set_cons_zero, List.set_cons_succ]
      refine along_bar (fun K hK => ?_)
      go_simp
      refine (HC7.out _).mono ?_
      rintro e w' ⟨rfl, hbx⟩
      try go_wp2_with fail
      refine hK.out _ _ (below_kb (below_on hH.1 hbx)) (fun hH' => ?_)
      clear hK K hH hbx
      have hH := hH'
      clear hH'
      try simp only [Act.put, List.setIfInBounds_toArray, List.set_cons_zero, List.set_cons_succ]
      refine along_bar (fun K hK => ?_)
      go_simp
      refine (HC8.out _).mono ?_
      rintro e w' ⟨rfl, hbx⟩
      try go_wp2_with fail
      refine hK.out _ _ (below_kb (below_on hH.1 hbx)) (fun hH' => ?_)
      clear hK K hH hbx
      have hH := hH'
      clear hH'
      try simp only [Act.put, List.setIfInBounds_toArray, List.set_cons_zero, List.set_cons_succ]
      refine along_bar (fun K hK => ?_)
      go_simp
      refine (to_any _ _ _).mono ?_
      rintro e w' ⟨rfl, hbx⟩
      try go_wp2_with fail
      refine hK.out _ _ (below_kb (below_on hH.1 hbx)) (fun hH' => ?_)
      clear hK K hH hbx
      have hH := hH'
      clear hH'
      try simp only [Act.put, List.setIfInBounds_toArray, List.set_cons_zero, List.set_cons_succ]
      refine along_pure ?_ (by rfl) (fun w hSw => ?_) ?_
      rotate_left
      · (try dsimp only at hSw); go_simp; try with_reducible rfl
      try simp only [Act.put, List.setIfInBounds_toArray, List.set_cons_zero, List.set_cons_succ]
      refine along_pure ?_ (by rfl) (fun w hSw => ?_) ?_
      rotate_left
      · (try dsimp only at hSw); go_simp; try with_reducible rfl
      try simp only [Act.put, List.setIfInBounds_toArray, List.set_cons_zero, List.set_cons_succ]
      refine along_pure ?_ (by rfl) (fun w hSw => ?_) ?_
      rotate_left
      · (try dsimp only at hSw); go_simp; try with_reducible rfl
      try simp only [Act.put, List.setIfInBounds_toArray, List.set_cons_zero, List.set_cons_succ]
      refine along_pure ?_ (by rfl) (fun w hSw => ?_) ?_
      rotate_left
      · (try dsimp only at hSw); go_simp; try with_reducible rfl
      try simp only [Act.put, List.setIfInBounds_toArray, List.set_cons_zero, List.set_cons_succ]
      refine along_pure ?_ (by rfl) (fun w hSw => ?_) ?_
      rotate_left
      · (try dsimp only at hSw); go_simp; try with_reducible rfl
      try simp only [Act.put, List.setIfInBounds_toArray, List.set_cons_zero, List.set_cons_succ]
      refine along_pure ?_ (by rfl) (fun w hSw => ?_) ?_
      rotate_left
      · (try dsimp only at hSw); go_simp; try with_reducible rfl
      try simp only [Act.put, List.setIfInBounds_toArray, List.set_cons_zero, List.set_cons_succ]
      refine along_bar (fun K hK => ?_)
      go_simp
      refine (HC9.out _).mono ?_
      rintro e w' ⟨rfl, hbx⟩
      try go_wp2_with fail
      refine hK.out _ _ (below_kb (below_on hH.1 hbx)) (fun hH' => ?_)
      clear hK K hH hbx
      have hH := hH'
      clear hH'
      try simp only [Act.put, List.setIfInBounds_toArray, List.set_cons_zero, List.set_cons_succ]
      refine along_pure ?_ (by rfl) (fun w hSw => ?_) ?_
      rotate_left
      · (try dsimp only at hSw); go_simp; try with_reducible rfl
      try simp only [Act.put, List.setIfInBounds_toArray, List.set_cons_zero, List.set_cons_succ]
      refine along_pure ?_ (by rfl) (fun w hSw => ?_) ?_
      rotate_left
      · (try dsimp only at hSw); go_simp; try with_reducible rfl
      try simp only [Act.put, List.setIfInBounds_toArray, List.set_cons_zero, List.set_cons_succ]
      refine along_pure ?_ (by rfl) (fun w hSw => ?_) ?_
      rotate_left
      · (try dsimp only at hSw); go_simp; try with_reducible rfl
      try simp only [Act.put, List.setIfInBounds_toArray, List.set_cons_zero, List.set_cons_succ]
      refine along_pure ?_ (by rfl) (fun w hSw => ?_) ?_
      rotate_left
      · (try dsimp only at hSw); go_simp; try with_reducible rfl
      try simp only [Act.put, List.setIfInBounds_toArray, List.set_cons_zero, List.set_cons_succ]
      refine along_pure ?_ (by rfl) (fun w hSw => ?_) ?_
      rotate_left
      · (try dsimp only at hSw); go_simp; try with_reducible rfl
      try simp only [Act.put, List.setIfInBounds_toArray, List.set_cons_zero, List.set_cons_succ]
      refine along_pure ?_ (by rfl) (fun w hSw => ?_) ?_
      rotate_left
      · (try dsimp only at hSw); go_simp; try with_reducible rfl
      try simp only [Act.put, List.setIfInBounds_toArray, List.set_cons_zero, List.set_cons_succ]
      refine along_pure ?_ (by rfl) (fun w hSw => ?_) ?_
      rotate_left
      · (try dsimp only at hSw); go_simp; try with_reducible rfl
      try simp only [Act.put, List.setIfInBounds_toArray, List.set_cons_zero, List.set_cons_succ]
      refine along_bar (fun K hK => ?_)
      go_simp
      refine (zero_any a _).mono ?_
      rintro e w' ⟨rfl, hbx⟩
      try go_wp2_with fail
      refine hK.out _ _ (below_kb (below_on hH.1 hbx)) (fun hH' => ?_)
      clear hK K hH hbx
      have hH := hH'
      clear hH'
      try simp only [Act.put, List.setIfInBounds_toArray, List.set_cons_zero, List.set_cons_succ]
      refine along_pure ?_ (by rfl) (fun w hSw => ?_) ?_
      rotate_left
      · (try dsimp only at hSw); go_simp; try with_reducible rfl
      try simp only [Act.put, List.setIfInBounds_toArray, List.set_cons_zero, List.set_cons_succ]
      refine along_pure ?_ (by rfl) (fun w hSw => ?_) ?_
      rotate_left
      · (try dsimp only at hSw); go_simp; try with_reducible rfl
      try simp only [Act.put, List.setIfInBounds_toArray, List.set_cons_zero, List.set_cons_succ]
      refine along_pure ?_ (by rfl) (fun w hSw => ?_) ?_
      rotate_left
      · (try dsimp only at hSw); go_simp; try with_reducible rfl
      try simp only [Act.put, List.setIfInBounds_toArray, List.set_cons_zero, List.set_cons_succ]
      refine along_pure ?_ (by rfl) (fun w hSw => ?_) ?_
      rotate_left
      · (try dsimp only at hSw); go_simp; try with_reducible rfl
      try simp only [Act.put, List.setIfInBounds_toArray, List.set_cons_zero, List.set_cons_succ]
      refine along_pure ?_ (by rfl) (fun w hSw => ?_) ?_
      rotate_left
      · (try dsimp only at hSw); go_simp; try with_reducible rfl
      try simp only [Act.put, List.setIfInBounds_toArray, List.set_cons_zero, List.set_cons_succ]
      refine along_pure ?_ (by rfl) (fun w hSw => ?_) ?_
      rotate_left
      · (try dsimp only at hSw); go_simp; try with_reducible rfl
      try simp only [Act.put, List.setIfInBounds_toArray, List.set_cons_zero, List.set_cons_succ]
      refine along_pure ?_ (by rfl) (fun w hSw => ?_) ?_
      rotate_left
      · (try dsimp only at hSw); go_simp; try with_reducible rfl
      try simp only [Act.put, List.setIfInBounds_toArray, List.set_cons_zero, List.set_cons_succ]
      refine along_pure ?_ (by rfl) (fun w hSw => ?_) ?_
      rotate_left
      · (try dsimp only at hSw); go_simp; try with_reducible rfl
      try simp only [Act.put, List.setIfInBounds_toArray, List.set_cons_zero, List.set_cons_succ]
      refine along_bar (fun K hK => ?_)
      go_simp
      refine (of_any _ _).mono ?_
      rintro e w' ⟨rfl, hbx⟩
      try go_wp2_with fail
      refine hK.out _ _ (below_kb (below_on hH.1 hbx)) (fun hH' => ?_)
      clear hK K hH hbx
      have hH := hH'
      clear hH'
      try simp only [Act.put, List.setIfInBounds_toArray, List.set_cons_zero, List.set_cons_succ]
      refine along_pure ?_ (by rfl) (fun w hSw => ?_) ?_
      rotate_left
      · (try dsimp only at hSw); go_simp; try with_reducible rfl
      try simp only [Act.put, List.setIfInBounds_toArray, List.set_cons_zero, List.set_cons_succ]
      refine along_pure ?_ (by rfl) (fun w hSw => ?_) ?_
      rotate_left
      · (try dsimp only at hSw); go_simp; try with_reducible rfl
      try simp only [Act.put, List.setIfInBounds_toArray, List.set_cons_zero, List.set_cons_succ]
      refine along_pure ?_ (by rfl) (fun w hSw => ?_) ?_
      rotate_left
      · (try dsimp only at hSw); go_simp; try with_reducible rfl
      try simp only [Act.put, List.setIfInBounds_toArray, List.set_cons_zero, List.set_cons_succ]
      refine along_end (NoPanic.normal ?_)
      have HB := Lib.hid hH.1
      clear hH
      go_wp2_with fail
      go_ret
      exact ⟨ret_bool (by simp), below_on (below_on (below_on hB0 hbx0) hbd) HB.out⟩
end Go.Proofs.Yteinkjlnofmalaa
