/- The walk of WidePowers: whatever number is handed in, it answers true, and turns nothing that was there. -/
import Derived.Test.YteinkjlnofmalaaW9
import Derived.Test.YteinkjlnofmalaaAlong2
namespace Go.Proofs.Yteinkjlnofmalaa
open Go.RowKit
set_option linter.unusedVariables false


theorem pow_in (k : Nat) (h : k < 128) (w : World) :
    Calls Try.prog 17 #[.int .i64 k] w fun e w' => e = .returned (cn (2 ^ k)) ∧ Below w.heap.size w w' := by
  have := pow_any k w
  rw [upI_in 1 k h, up_pow k h] at this
  exact this
theorem pow_pred (k : Nat) (h0 : 0 < k) (h : k < 128) (w : World) :
    Calls Try.prog 17 #[.int .i64 ((k : Int) - 1)] w fun e w' => e = .returned (cn (2 ^ (k - 1))) ∧ Below w.heap.size w w' := by
  rw [show (k : Int) - 1 = ((k - 1 : Nat) : Int) by omega]
  exact pow_in (k - 1) (by omega) w
theorem one_cn : cn 1 = cv 0 1 := by rw [cn, hi_one, lo_one]
theorem two_pow_pos (k : Nat) : 1 ≤ 2 ^ k := Nat.one_le_pow _ _ (by decide)
theorem sub_one (k : Nat) (h : k < 128) : sb (2 ^ k) (2 ^ k - 1) = 1 := by
  have h1 := two_pow_pos k
  have h2 := pow_lt k h
  unfold sb
  rw [show 2 ^ k + MM - (2 ^ k - 1) = MM + 1 by omega]
  decide
theorem cmp_one (k : Nat) : cmpN (2 ^ k) (2 ^ k - 1) = 1 := by
  have h1 := two_pow_pos k
  unfold cmpN
  rw [if_neg (by omega), if_pos (by omega)]
theorem double (k : Nat) (h0 : 0 < k) (h : k < 128) : ad (2 ^ (k - 1)) (2 ^ (k - 1)) = 2 ^ k := by
  have h2 := pow_lt k h
  unfold ad
  have e : 2 ^ (k - 1) + 2 ^ (k - 1) = 2 ^ k := by rw [← Nat.two_mul, ← Nat.pow_succ', show (k - 1).succ = k by omega]
  rw [e, Nat.mod_eq_of_lt h2]
theorem sum_next (k : Nat) (h : k < 127) : ad (2 ^ k - 1) (2 ^ k) = 2 ^ (k + 1) - 1 := by
  have h1 := two_pow_pos k
  have h2 := pow_lt (k + 1) (by omega)
  unfold ad
  rw [show 2 ^ k - 1 + 2 ^ k = 2 ^ (k + 1) - 1 by rw [Nat.pow_succ]; omega, Nat.mod_eq_of_lt (by omega)]
theorem dig_len (a : Nat) (h : a < MM) : (dig a).length ≤ 39 := by
  rw [dig, digN_length]
  rcases Nat.lt_or_ge 39 (nd a) with h1 | h1
  · have h2 := nd_lo a (by omega)
    have h3 : 10 ^ 39 ≤ 10 ^ (nd a - 1) := Nat.pow_le_pow_right (by decide) (by omega)
    have := ten39
    omega
  · exact h1
theorem parse_dig (a : Nat) (h : a < MM) (w : World) :
    Calls Try.prog 22 #[.string ⟨(dig a).toArray⟩] w fun e w' => e = .returned (.tuple #[cn a, .int .i64 0]) ∧ Below w.heap.size w w' := by
  have hl := dig_len a h
  have := parse_any ⟨(dig a).toArray⟩ (by show (dig a).toArray.size ≤ maxLen; unfold maxLen; simp; omega) w
  rw [show (ByteArray.mk (dig a).toArray).data.toList = dig a by simp, pz_dig a h] at this
  exact this

set_option maxRecDepth 100000 in
set_option maxHeartbeats 4000000 in
theorem powers_any (n : Int) (h0 : 0 ≤ n) (h1 : n ≤ 255) (w : World) :
    Calls Try.prog 7 #[.int .u8 n] w fun e w' => e = .returned (.bool true) ∧ Below w.heap.size w w' := by
  obtain ⟨N, hN⟩ : ∃ N : Nat, n % 128 = (N : Int) := ⟨(n % 128).toNat, by omega⟩
  have hN' : N < 128 := by omega
  go_enter Try.func7, Try.ntmps7
  go_wp2
  go_loopw [12] (fun i wr => ∃ k : Nat, k ≤ N ∧ i = .int .i64 k ∧ Below w.heap.size w wr ∧ Two wr w.heap.size (hi (2 ^ k - 1)) (lo (2 ^ k - 1)))
    (fun i _ => N - (intOf i).toNat)
  case atStart =>
    refine ⟨0, Nat.zero_le _, rfl, below_al (Below.refl _ _) _, ?_⟩
    rw [show 2 ^ 0 - 1 = 0 from rfl, hi_zero, lo_zero]
    exact two_new
  case round =>
    obtain ⟨k, hk, rfl, hbr, ht⟩ := hrel
    have HBb := Lib.hid hbr
    have HT := Lib.hid ht
    clear hbr ht hN
    by_cases hlt : k < N
    · obtain ⟨p, hp⟩ : ∃ p, 2 ^ k = p := ⟨_, rfl⟩
      obtain ⟨s, hs⟩ : ∃ s, 2 ^ k - 1 = s := ⟨_, rfl⟩
      obtain ⟨s2, hs2⟩ : ∃ s2, 2 ^ (k + 1) - 1 = s2 := ⟨_, rfl⟩
      obtain ⟨h, hh⟩ : ∃ h, 2 ^ (k - 1) = h := ⟨_, rfl⟩
      obtain ⟨D, hD⟩ : ∃ D : ByteArray, ⟨(dig p).toArray⟩ = D := ⟨_, rfl⟩
      have lp : p < MM := by rw [← hp]; exact pow_lt k (by omega)
      have ls : s < MM := by omega
      have HS2 := Lib.hid hs2
      have HPw : Hid (∀ w, Calls Try.prog 17 #[.int .i64 k] w fun e w' => e = .returned (cn p) ∧ Below w.heap.size w w') := fun w => by rw [← hp]; exact pow_in k (by omega) w
      have HZ : Hid (∀ w, Calls Try.prog 19 #[cn p] w fun e w' => e = .returned (.bool false) ∧ Below w.heap.size w w') := fun w => by
        have h1 := two_pow_pos k
        have := zero_any p w
        rw [decide_eq_false (by omega)] at this
        exact this
      have HS : Hid (∀ w, Calls Try.prog 13 #[cn p, cn s] w fun e w' => e = .returned (cv 0 1) ∧ Below w.heap.size w w') := fun w => by
        have := sub_any p s lp ls w
        rw [← hp, ← hs, sub_one k (by omega), one_cn] at this
        rw [← hp, ← hs]
        exact this
      have HM : Hid (∀ w, Calls Try.prog 18 #[cn p, cn s] w fun e w' => e = .returned (.int .i64 1) ∧ Below w.heap.size w w') := fun w => by
        have := cmp_any p s w
        rw [← hp, ← hs, cmp_one k] at this
        rw [← hp, ← hs]
        exact this
      have HPr : Hid (∀ w, Calls Try.prog 21 #[cn p] w fun e w' => e = .returned (.string D) ∧ Below w.heap.size w w') := fun w => by rw [← hD]; exact print_any p lp w
      have HPa : Hid (∀ w, Calls Try.prog 22 #[.string D] w fun e w' => e = .returned (.tuple #[cn p, .int .i64 0]) ∧ Below w.heap.size w w') := fun w => by rw [← hD]; exact parse_dig p lp w
      have HSu : Hid (∀ w, Calls Try.prog 11 #[cn s, cn p] w fun e w' => e = .returned (cn s2) ∧ Below w.heap.size w w') := fun w => by
        have := add_ad s p ls lp w
        rw [← hp, ← hs, sum_next k (by omega), hs2] at this
        rw [← hp, ← hs]
        exact this
      have HTs := Lib.hid (show Two wr w.heap.size (hi s) (lo s) by rw [← hs]; exact HT.out)
      clear HT
      by_cases hk0 : k = 0
      · subst hk0
        clear hp hs hs2 hh hD
        go_wp2_with fail
        refine (HPw.out _).mono ?_
        rintro e wp ⟨rfl, hbp⟩
        have T3 := Lib.hid ((HTs.out.on hbp).al (.cells #[.int .u64 (hi p), .int .u64 (lo p)] 25))
        have T5 := Lib.hid (@two_new wp (hi p) (lo p) 25)
        have BP := Lib.hid (below_al (below_on (Below.refl wr.heap.size wr) hbp) (.cells #[.int .u64 (hi p), .int .u64 (lo p)] 25))
        obtain ⟨g5, hg5⟩ : ∃ g5, wp.heap.size = g5 := ⟨_, rfl⟩
        obtain ⟨wq, hwq⟩ : ∃ wq, wp.alloc (.cells #[.int .u64 (hi p), .int .u64 (lo p)] 25) = wq := ⟨_, rfl⟩
        rw [hwq] at T3 T5 BP
        rw [hg5] at T5
        clear hbp HTs
        obtain ⟨a0, a1, -, -⟩ := T5.out
        obtain ⟨b0, b1, -, -⟩ := T3.out
        go_wp2_with fail
        clear hwq hg5
        refine wp_region_noPanic ?_
        refine wp_region_along (S := fun w' => Below wq.heap.size wq w' ∧ ∀ b o, (wq.cell? ⟨b, o, none⟩).isSome = true → w'.cell? ⟨b, o, none⟩ = wq.cell? ⟨b, o, none⟩) ([(0, true), (1, false), (2, true), (3, true), (4, true), (5, false), (6, false), (7, true), (8, true), (9, true), (10, true), (11, true), (12, false), (13, true), (14, true), (15, true)] ++ ([(16, true), (17, true), (18, true), (19, true), (20, true), (21, true), (23, true), (24, true), (22, false), (25, false), (26, false), (27, true), (28, true), (29, true)])) (by kernel_rfl) (by as_aux_lemma => kernel_rfl) (by kernel_rfl) (by kernel_rfl) (alongPre_append _ _ _ (by as_aux_lemma => kernel_rfl) (by as_aux_lemma => kernel_rfl)) (by as_aux_lemma => kernel_rfl) (fun _ _ _ _ _ h => h) (below_kb (Below.refl _ _).drew) (fun hH => ?_)
        simp only [List.cons_append, List.nil_append, stepsOf, pickOp]
        refine along_pure ?_ (by rfl) (fun w hSw => ?_) ?_
        rotate_left
        · (try dsimp only at hSw); go_simp; try with_reducible rfl
        try simp only [Act.put, List.setIfInBounds_toArray, List.set_cons_zero, List.set_cons_succ]
        refine along_bar (fun K hK => ?_)
        go_simp
        refine (HZ.out _).mono ?_
        rintro e w' ⟨rfl, hbx⟩
        try go_wp2_with fail
        refine hK.out _ _ (below_kb (below_on hH.1 hbx)) (fun hH' => ?_)
        clear hK K hH
        have hH := hH'
        clear hH'
        clear hbx
        try simp only [Act.put, List.setIfInBounds_toArray, List.set_cons_zero, List.set_cons_succ]
        refine along_pure ?_ (by rfl) (fun w hSw => ?_) ?_
        rotate_left
        · (try dsimp only at hSw); go_simp; try with_reducible rfl
        try simp only [Act.put, List.setIfInBounds_toArray, List.set_cons_zero, List.set_cons_succ]
        refine along_pure ?_ (by rfl) (fun w hSw => ?_) ?_
        rotate_left
        · (try dsimp only at hSw); go_simp; try with_reducible rfl
        try simp only [Act.put, List.setIfInBounds_toArray, List.set_cons_zero, List.set_cons_succ]
        refine along_pure ?_ (by rfl) (fun w hSw => ?_) ?_
        rotate_left
        · (try dsimp only at hSw); go_simp; try with_reducible rfl
        try simp only [Act.put, List.setIfInBounds_toArray, List.set_cons_zero, List.set_cons_succ]
        refine along_bar (fun K hK => ?_)
        go_simp
        refine (HS.out _).mono ?_
        rintro e w' ⟨rfl, hbx⟩
        try go_wp2_with fail
        refine hK.out _ _ (below_kb (below_on hH.1 hbx)) (fun hH' => ?_)
        clear hK K hH
        have hH := hH'
        clear hH'
        clear hbx
        try simp only [Act.put, List.setIfInBounds_toArray, List.set_cons_zero, List.set_cons_succ]
        refine along_bar (fun K hK => ?_)
        go_simp
        refine (of_any _ _).mono ?_
        rintro e w' ⟨rfl, hbx⟩
        try go_wp2_with fail
        refine hK.out _ _ (below_kb (below_on hH.1 hbx)) (fun hH' => ?_)
        clear hK K hH
        have hH := hH'
        clear hH'
        clear hbx
        try simp only [Act.put, List.setIfInBounds_toArray, List.set_cons_zero, List.set_cons_succ]
        refine along_pure ?_ (by rfl) (fun w hSw => ?_) ?_
        rotate_left
        · (try dsimp only at hSw); go_simp; try with_reducible rfl
        try simp only [Act.put, List.setIfInBounds_toArray, List.set_cons_zero, List.set_cons_succ]
        refine along_pure ?_ (by rfl) (fun w hSw => ?_) ?_
        rotate_left
        · (try dsimp only at hSw); go_simp; try with_reducible rfl
        try simp only [Act.put, List.setIfInBounds_toArray, List.set_cons_zero, List.set_cons_succ]
        refine along_pure ?_ (by rfl) (fun w hSw => ?_) ?_
        rotate_left
        · (try dsimp only at hSw); go_simp; try with_reducible rfl
        try simp only [Act.put, List.setIfInBounds_toArray, List.set_cons_zero, List.set_cons_succ]
        refine along_pure ?_ (by rfl) (fun w hSw => ?_) ?_
        rotate_left
        · (try dsimp only at hSw); go_simp; try with_reducible rfl
        try simp only [Act.put, List.setIfInBounds_toArray, List.set_cons_zero, List.set_cons_succ]
        refine along_pure ?_ (by rfl) (fun w hSw => ?_) ?_
        rotate_left
        · (try dsimp only at hSw); go_simp; try with_reducible rfl
        try simp only [Act.put, List.setIfInBounds_toArray, List.set_cons_zero, List.set_cons_succ]
        refine along_bar (fun K hK => ?_)
        go_simp
        refine (HM.out _).mono ?_
        rintro e w' ⟨rfl, hbx⟩
        try go_wp2_with fail
        refine hK.out _ _ (below_kb (below_on hH.1 hbx)) (fun hH' => ?_)
        clear hK K hH
        have hH := hH'
        clear hH'
        clear hbx
        try simp only [Act.put, List.setIfInBounds_toArray, List.set_cons_zero, List.set_cons_succ]
        refine along_pure ?_ (by rfl) (fun w hSw => ?_) ?_
        rotate_left
        · (try dsimp only at hSw); go_simp; try with_reducible rfl
        try simp only [Act.put, List.setIfInBounds_toArray, List.set_cons_zero, List.set_cons_succ]
        refine along_pure ?_ (by rfl) (fun w hSw => ?_) ?_
        rotate_left
        · (try dsimp only at hSw); go_simp; try with_reducible rfl
        try simp only [Act.put, List.setIfInBounds_toArray, List.set_cons_zero, List.set_cons_succ]
        refine along_pure ?_ (by rfl) (fun w hSw => ?_) ?_
        rotate_left
        · (try dsimp only at hSw); go_simp; try with_reducible rfl
        try simp only [Act.put, List.setIfInBounds_toArray, List.set_cons_zero, List.set_cons_succ]
        refine along_pure ?_ (by rfl) (fun w hSw => ?_) ?_
        rotate_left
        · (try dsimp only at hSw); go_simp; try with_reducible rfl
        try simp only [Act.put, List.setIfInBounds_toArray, List.set_cons_zero, List.set_cons_succ]
        refine along_pure ?_ (by rfl) (fun w hSw => ?_) ?_
        rotate_left
        · (try dsimp only at hSw); go_simp; try with_reducible rfl
        try simp only [Act.put, List.setIfInBounds_toArray, List.set_cons_zero, List.set_cons_succ]
        refine along_pure ?_ (by rfl) (fun w hSw => ?_) ?_
        rotate_left
        · (try dsimp only at hSw); go_simp; try with_reducible rfl
        try simp only [Act.put, List.setIfInBounds_toArray, List.set_cons_zero, List.set_cons_succ]
        refine along_skip (by rfl) ?_
        try simp only [Act.put, List.setIfInBounds_toArray, List.set_cons_zero, List.set_cons_succ]
        refine along_skip (by rfl) ?_
        try simp only [Act.put, List.setIfInBounds_toArray, List.set_cons_zero, List.set_cons_succ]
        refine along_skip (by rfl) ?_
        try simp only [Act.put, List.setIfInBounds_toArray, List.set_cons_zero, List.set_cons_succ]
        refine along_skip (by rfl) ?_
        try simp only [Act.put, List.setIfInBounds_toArray, List.set_cons_zero, List.set_cons_succ]
        refine along_skip (by rfl) ?_
        try simp only [Act.put, List.setIfInBounds_toArray, List.set_cons_zero, List.set_cons_succ]
        refine along_pass (by rfl) hH ?_
        try simp only [Act.put, List.setIfInBounds_toArray, List.set_cons_zero, List.set_cons_succ]
        refine along_pass (by rfl) hH ?_
        try simp only [Act.put, List.setIfInBounds_toArray, List.set_cons_zero, List.set_cons_succ]
        refine along_pass (by rfl) hH ?_
        try simp only [Act.put, List.setIfInBounds_toArray, List.set_cons_zero, List.set_cons_succ]
        refine along_skip (by rfl) ?_
        try simp only [Act.put, List.setIfInBounds_toArray, List.set_cons_zero, List.set_cons_succ]
        refine along_pure ?_ (by rfl) (fun w hSw => ?_) ?_
        rotate_left
        · (try dsimp only at hSw); go_simp; try with_reducible rfl
        try simp only [Act.put, List.setIfInBounds_toArray, List.set_cons_zero, List.set_cons_succ]
        refine along_pure ?_ (by rfl) (fun w hSw => ?_) ?_
        rotate_left
        · (try dsimp only at hSw); go_simp; try with_reducible rfl
        try simp only [Act.put, List.setIfInBounds_toArray, List.set_cons_zero, List.set_cons_succ]
        refine along_end (NoPanic.normal ?_)
        have HBq := Lib.hid (below_on BP.out hH.1)
        have U5 := Lib.hid (T5.out.on hH.1)
        have U3 := Lib.hid (T3.out.on hH.1)
        clear hH a0 a1 b0 b1 T5 T3
        obtain ⟨a0, a1, -, -⟩ := U5.out
        obtain ⟨b0, b1, bf0, bf1⟩ := U3.out
        go_wp2_with fail
        refine (HPr.out _).mono ?_
        rintro e w4 ⟨rfl, hb4⟩
        have T5 := Lib.hid (U5.out.on hb4)
        have T3 := Lib.hid (U3.out.on hb4)
        have B4 := Lib.hid (below_on HBq.out hb4)
        clear hb4 a0 a1 b0 b1 bf0 bf1 U5 U3 HBq
        go_wp2_with fail
        refine (HPa.out _).mono ?_
        rintro e w5 ⟨rfl, hb5⟩
        have U5 := Lib.hid (T5.out.on hb5)
        have U3 := Lib.hid (T3.out.on hb5)
        have B5 := Lib.hid (below_on B4.out hb5)
        clear hb5 T5 T3 B4
        obtain ⟨a0, a1, -, -⟩ := U5.out
        obtain ⟨b0, b1, bf0, bf1⟩ := U3.out
        have l5 := U5.out.lt
        have l3 := U3.out.lt
        go_wp2_with fail
        refine (HSu.out _).mono ?_
        rintro e w6 ⟨rfl, hb6⟩
        have V3 := Lib.hid ((U3.out.al _).on hb6)
        have B6 := Lib.hid (below_on (below_al B5.out _) hb6)
        clear hb6 a0 a1 b0 b1 bf0 bf1 l5 l3 U5 U3 B5
        obtain ⟨b0, b1, bf0, bf1⟩ := V3.out
        go_wp2_with fail
        refine ⟨⟨0 + 1, by omega, by go_num, ?_, ?_⟩, ?_⟩
        · exact ((below_on HBb.out B6.out).setCell (by simp) _).setCell (by simp) _
        · rw [HS2.out]; exact V3.out.set _ _
        · simp [intOf]; omega
      · have HH : Hid (∀ w, Calls Try.prog 17 #[.int .i64 (IntKind.i64.wrap ((k : Int) - 1))] w fun e w' => e = .returned (cn h) ∧ Below w.heap.size w w') := fun w => by rw [IntWalk.i64_in _ (by omega), ← hh]; exact pow_pred k (by omega) (by omega) w
        have lh : h < MM := by rw [← hh]; exact pow_lt (k - 1) (by omega)
        have HA : Hid (∀ w, Calls Try.prog 11 #[cn h, cn h] w fun e w' => e = .returned (cn p) ∧ Below w.heap.size w w') := fun w => by
          have := add_ad h h lh lh w
          rw [← hh, double k (by omega) (by omega), hp] at this
          rw [← hh]
          exact this
        have dk : decide (0 < k) = true := by simp; omega
        clear hp hs hs2 hh hD
        go_wp2_with fail
        refine (HPw.out _).mono ?_
        rintro e wp ⟨rfl, hbp⟩
        have T3 := Lib.hid ((HTs.out.on hbp).al (.cells #[.int .u64 (hi p), .int .u64 (lo p)] 25))
        have T5 := Lib.hid (@two_new wp (hi p) (lo p) 25)
        have BP := Lib.hid (below_al (below_on (Below.refl wr.heap.size wr) hbp) (.cells #[.int .u64 (hi p), .int .u64 (lo p)] 25))
        obtain ⟨g5, hg5⟩ : ∃ g5, wp.heap.size = g5 := ⟨_, rfl⟩
        obtain ⟨wq, hwq⟩ : ∃ wq, wp.alloc (.cells #[.int .u64 (hi p), .int .u64 (lo p)] 25) = wq := ⟨_, rfl⟩
        rw [hwq] at T3 T5 BP
        rw [hg5] at T5
        clear hbp HTs
        obtain ⟨a0, a1, -, -⟩ := T5.out
        obtain ⟨b0, b1, -, -⟩ := T3.out
        go_wp2_with fail
        clear hwq hg5
        refine wp_region_noPanic ?_
        refine wp_region_along (S := fun w' => Below wq.heap.size wq w' ∧ ∀ b o, (wq.cell? ⟨b, o, none⟩).isSome = true → w'.cell? ⟨b, o, none⟩ = wq.cell? ⟨b, o, none⟩) ([(0, true), (1, false), (2, true), (3, true), (4, true), (5, false), (6, false), (7, true), (8, true), (9, true), (10, true), (11, true), (12, false), (13, true), (14, true), (15, true)] ++ ([(16, true), (17, true), (18, true), (19, true), (20, true), (21, true), (23, true), (24, true), (22, false), (25, false), (26, false), (27, true), (28, true), (29, true)])) (by kernel_rfl) (by as_aux_lemma => kernel_rfl) (by kernel_rfl) (by kernel_rfl) (alongPre_append _ _ _ (by as_aux_lemma => kernel_rfl) (by as_aux_lemma => kernel_rfl)) (by as_aux_lemma => kernel_rfl) (fun _ _ _ _ _ h => h) (below_kb (Below.refl _ _).drew) (fun hH => ?_)
        simp only [List.cons_append, List.nil_append, stepsOf, pickOp]
        refine along_pure ?_ (by rfl) (fun w hSw => ?_) ?_
        rotate_left
        · (try dsimp only at hSw); go_simp; try with_reducible rfl
        try simp only [Act.put, List.setIfInBounds_toArray, List.set_cons_zero, List.set_cons_succ]
        refine along_bar (fun K hK => ?_)
        go_simp
        refine (HZ.out _).mono ?_
        rintro e w' ⟨rfl, hbx⟩
        try go_wp2_with fail
        refine hK.out _ _ (below_kb (below_on hH.1 hbx)) (fun hH' => ?_)
        clear hK K hH
        have hH := hH'
        clear hH'
        clear hbx
        try simp only [Act.put, List.setIfInBounds_toArray, List.set_cons_zero, List.set_cons_succ]
        refine along_pure ?_ (by rfl) (fun w hSw => ?_) ?_
        rotate_left
        · (try dsimp only at hSw); go_simp; try with_reducible rfl
        try simp only [Act.put, List.setIfInBounds_toArray, List.set_cons_zero, List.set_cons_succ]
        refine along_pure ?_ (by rfl) (fun w hSw => ?_) ?_
        rotate_left
        · (try dsimp only at hSw); go_simp; try with_reducible rfl
        try simp only [Act.put, List.setIfInBounds_toArray, List.set_cons_zero, List.set_cons_succ]
        refine along_pure ?_ (by rfl) (fun w hSw => ?_) ?_
        rotate_left
        · (try dsimp only at hSw); go_simp; try with_reducible rfl
        try simp only [Act.put, List.setIfInBounds_toArray, List.set_cons_zero, List.set_cons_succ]
        refine along_bar (fun K hK => ?_)
        go_simp
        refine (HS.out _).mono ?_
        rintro e w' ⟨rfl, hbx⟩
        try go_wp2_with fail
        refine hK.out _ _ (below_kb (below_on hH.1 hbx)) (fun hH' => ?_)
        clear hK K hH
        have hH := hH'
        clear hH'
        clear hbx
        try simp only [Act.put, List.setIfInBounds_toArray, List.set_cons_zero, List.set_cons_succ]
        refine along_bar (fun K hK => ?_)
        go_simp
        refine (of_any _ _).mono ?_
        rintro e w' ⟨rfl, hbx⟩
        try go_wp2_with fail
        refine hK.out _ _ (below_kb (below_on hH.1 hbx)) (fun hH' => ?_)
        clear hK K hH
        have hH := hH'
        clear hH'
        clear hbx
        try simp only [Act.put, List.setIfInBounds_toArray, List.set_cons_zero, List.set_cons_succ]
        refine along_pure ?_ (by rfl) (fun w hSw => ?_) ?_
        rotate_left
        · (try dsimp only at hSw); go_simp; try with_reducible rfl
        try simp only [Act.put, List.setIfInBounds_toArray, List.set_cons_zero, List.set_cons_succ]
        refine along_pure ?_ (by rfl) (fun w hSw => ?_) ?_
        rotate_left
        · (try dsimp only at hSw); go_simp; try with_reducible rfl
        try simp only [Act.put, List.setIfInBounds_toArray, List.set_cons_zero, List.set_cons_succ]
        refine along_pure ?_ (by rfl) (fun w hSw => ?_) ?_
        rotate_left
        · (try dsimp only at hSw); go_simp; try with_reducible rfl
        try simp only [Act.put, List.setIfInBounds_toArray, List.set_cons_zero, List.set_cons_succ]
        refine along_pure ?_ (by rfl) (fun w hSw => ?_) ?_
        rotate_left
        · (try dsimp only at hSw); go_simp; try with_reducible rfl
        try simp only [Act.put, List.setIfInBounds_toArray, List.set_cons_zero, List.set_cons_succ]
        refine along_pure ?_ (by rfl) (fun w hSw => ?_) ?_
        rotate_left
        · (try dsimp only at hSw); go_simp; try with_reducible rfl
        try simp only [Act.put, List.setIfInBounds_toArray, List.set_cons_zero, List.set_cons_succ]
        refine along_bar (fun K hK => ?_)
        go_simp
        refine (HM.out _).mono ?_
        rintro e w' ⟨rfl, hbx⟩
        try go_wp2_with fail
        refine hK.out _ _ (below_kb (below_on hH.1 hbx)) (fun hH' => ?_)
        clear hK K hH
        have hH := hH'
        clear hH'
        clear hbx
        try simp only [Act.put, List.setIfInBounds_toArray, List.set_cons_zero, List.set_cons_succ]
        refine along_pure ?_ (by rfl) (fun w hSw => ?_) ?_
        rotate_left
        · (try dsimp only at hSw); go_simp; try with_reducible rfl
        try simp only [Act.put, List.setIfInBounds_toArray, List.set_cons_zero, List.set_cons_succ]
        refine along_pure ?_ (by rfl) (fun w hSw => ?_) ?_
        rotate_left
        · (try dsimp only at hSw); go_simp; try with_reducible rfl
        try simp only [Act.put, List.setIfInBounds_toArray, List.set_cons_zero, List.set_cons_succ]
        refine along_pure ?_ (by rfl) (fun w hSw => ?_) ?_
        rotate_left
        · (try dsimp only at hSw); go_simp; try with_reducible rfl
        try simp only [Act.put, List.setIfInBounds_toArray, List.set_cons_zero, List.set_cons_succ]
        refine along_pure ?_ (by rfl) (fun w hSw => ?_) ?_
        rotate_left
        · (try dsimp only at hSw); go_simp; try with_reducible rfl
        try simp only [Act.put, List.setIfInBounds_toArray, List.set_cons_zero, List.set_cons_succ]
        refine along_pure ?_ (by rfl) (fun w hSw => ?_) ?_
        rotate_left
        · (try dsimp only at hSw); go_simp; try with_reducible rfl
        try simp only [Act.put, List.setIfInBounds_toArray, List.set_cons_zero, List.set_cons_succ]
        refine along_pure ?_ (by rfl) (fun w hSw => ?_) ?_
        rotate_left
        · (try dsimp only at hSw); go_simp; try with_reducible rfl
        try simp only [Act.put, List.setIfInBounds_toArray, List.set_cons_zero, List.set_cons_succ]
        refine along_pure ?_ (by rfl) (fun w hSw => ?_) ?_
        rotate_left
        · (try dsimp only at hSw); go_simp; try with_reducible rfl
        try simp only [Act.put, List.setIfInBounds_toArray, List.set_cons_zero, List.set_cons_succ]
        refine along_pure ?_ (by rfl) (fun w hSw => ?_) ?_
        rotate_left
        · (try dsimp only at hSw); go_simp; try with_reducible rfl
        try simp only [Act.put, List.setIfInBounds_toArray, List.set_cons_zero, List.set_cons_succ]
        refine along_pure ?_ (by rfl) (fun w hSw => ?_) ?_
        rotate_left
        · (try dsimp only at hSw); go_simp; try with_reducible rfl
        try simp only [Act.put, List.setIfInBounds_toArray, List.set_cons_zero, List.set_cons_succ]
        refine along_pure ?_ (by rfl) (fun w hSw => ?_) ?_
        rotate_left
        · (try dsimp only at hSw); go_simp; try with_reducible rfl
        try simp only [Act.put, List.setIfInBounds_toArray, List.set_cons_zero, List.set_cons_succ]
        refine along_pure ?_ (by rfl) (fun w hSw => ?_) ?_
        rotate_left
        · (try dsimp only at hSw); go_simp; try with_reducible rfl
        try simp only [Act.put, List.setIfInBounds_toArray, List.set_cons_zero, List.set_cons_succ]
        refine along_bar (fun K hK => ?_)
        go_simp
        refine (HH.out _).mono ?_
        rintro e w' ⟨rfl, hbx⟩
        try go_wp2_with fail
        refine hK.out _ _ (below_kb (below_on hH.1 hbx)) (fun hH' => ?_)
        clear hK K hH
        have hH := hH'
        clear hH'
        clear hbx
        try simp only [Act.put, List.setIfInBounds_toArray, List.set_cons_zero, List.set_cons_succ]
        refine along_bar (fun K hK => ?_)
        go_simp
        refine (HH.out _).mono ?_
        rintro e w' ⟨rfl, hbx⟩
        try go_wp2_with fail
        refine hK.out _ _ (below_kb (below_on hH.1 hbx)) (fun hH' => ?_)
        clear hK K hH
        have hH := hH'
        clear hH'
        clear hbx
        try simp only [Act.put, List.setIfInBounds_toArray, List.set_cons_zero, List.set_cons_succ]
        refine along_bar (fun K hK => ?_)
        go_simp
        refine (HA.out _).mono ?_
        rintro e w' ⟨rfl, hbx⟩
        try go_wp2_with fail
        refine hK.out _ _ (below_kb (below_on hH.1 hbx)) (fun hH' => ?_)
        clear hK K hH
        have hH := hH'
        clear hH'
        clear hbx
        try simp only [Act.put, List.setIfInBounds_toArray, List.set_cons_zero, List.set_cons_succ]
        refine along_pure ?_ (by rfl) (fun w hSw => ?_) ?_
        rotate_left
        · (try dsimp only at hSw); go_simp; try with_reducible rfl
        try simp only [Act.put, List.setIfInBounds_toArray, List.set_cons_zero, List.set_cons_succ]
        refine along_pure ?_ (by rfl) (fun w hSw => ?_) ?_
        rotate_left
        · (try dsimp only at hSw); go_simp; try with_reducible rfl
        try simp only [Act.put, List.setIfInBounds_toArray, List.set_cons_zero, List.set_cons_succ]
        refine along_pure ?_ (by rfl) (fun w hSw => ?_) ?_
        rotate_left
        · (try dsimp only at hSw); go_simp; try with_reducible rfl
        try simp only [Act.put, List.setIfInBounds_toArray, List.set_cons_zero, List.set_cons_succ]
        refine along_end (NoPanic.normal ?_)
        have HBq := Lib.hid (below_on BP.out hH.1)
        have U5 := Lib.hid (T5.out.on hH.1)
        have U3 := Lib.hid (T3.out.on hH.1)
        clear hH a0 a1 b0 b1 T5 T3
        obtain ⟨a0, a1, -, -⟩ := U5.out
        obtain ⟨b0, b1, bf0, bf1⟩ := U3.out
        go_wp2_with fail
        refine (HPr.out _).mono ?_
        rintro e w4 ⟨rfl, hb4⟩
        have T5 := Lib.hid (U5.out.on hb4)
        have T3 := Lib.hid (U3.out.on hb4)
        have B4 := Lib.hid (below_on HBq.out hb4)
        clear hb4 a0 a1 b0 b1 bf0 bf1 U5 U3 HBq
        go_wp2_with fail
        refine (HPa.out _).mono ?_
        rintro e w5 ⟨rfl, hb5⟩
        have U5 := Lib.hid (T5.out.on hb5)
        have U3 := Lib.hid (T3.out.on hb5)
        have B5 := Lib.hid (below_on B4.out hb5)
        clear hb5 T5 T3 B4
        obtain ⟨a0, a1, -, -⟩ := U5.out
        obtain ⟨b0, b1, bf0, bf1⟩ := U3.out
        have l5 := U5.out.lt
        have l3 := U3.out.lt
        go_wp2_with fail
        refine (HSu.out _).mono ?_
        rintro e w6 ⟨rfl, hb6⟩
        have V3 := Lib.hid ((U3.out.al _).on hb6)
        have B6 := Lib.hid (below_on (below_al B5.out _) hb6)
        clear hb6 a0 a1 b0 b1 bf0 bf1 l5 l3 U5 U3 B5
        obtain ⟨b0, b1, bf0, bf1⟩ := V3.out
        go_wp2_with fail
        refine ⟨⟨k + 1, by omega, by go_num, ?_, ?_⟩, ?_⟩
        · exact ((below_on HBb.out B6.out).setCell (by simp) _).setCell (by simp) _
        · rw [HS2.out]; exact V3.out.set _ _
        · simp [intOf]; omega
    · have hkn : k = N := by omega
      subst hkn
      have z0 : ∀ (n : Int) (w : World), (n < 0 ∨ 128 ≤ n) → Calls Try.prog 17 #[.int .i64 n] w fun e w' => e = .returned (cn 0) ∧ Below w.heap.size w w' := fun n w h => by
        have := pow_any n w
        rw [upI_out 1 n h] at this
        exact this
      have Z0 := Lib.hid z0
      clear z0
      go_wp2_with fail
      refine (awake_any _).mono ?_
      rintro e w1 ⟨rfl, hb1⟩
      have B1 := Lib.hid (below_on HBb.out hb1)
      clear hb1
      go_wp2_with fail
      refine (Z0.out (-1) _ (by omega)).mono ?_
      rintro e w2 ⟨rfl, hb2⟩
      have B2 := Lib.hid (below_on B1.out hb2)
      clear hb2
      go_wp2_with fail
      refine (zero_any 0 _).mono ?_
      rw [decide_eq_true rfl]
      rintro e w3 ⟨rfl, hb3⟩
      have B3 := Lib.hid (below_on B2.out hb3)
      clear hb3
      go_wp2_with fail
      refine (Z0.out 128 _ (by omega)).mono ?_
      rintro e w4 ⟨rfl, hb4⟩
      have B4 := Lib.hid (below_on B3.out hb4)
      clear hb4
      go_wp2_with fail
      refine (zero_any 0 _).mono ?_
      rw [decide_eq_true rfl]
      rintro e w5 ⟨rfl, hb5⟩
      go_wp2_with fail
      go_ret
      exact ⟨rfl, below_on B4.out hb5⟩
end Go.Proofs.Yteinkjlnofmalaa
