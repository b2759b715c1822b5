/- The walk of WideReads: whatever text is handed in, it answers true, and turns nothing that was there. -/
import Derived.Test.YteinkjlnofmalaaW11
import Derived.Test.YteinkjlnofmalaaAlong2
namespace Go.Proofs.Yteinkjlnofmalaa
open Go.RowKit
set_option linter.unusedVariables false

/-- What is read of digits without an error is a number whose last digits they are. -/
theorem pgo_back : ∀ (l : List UInt8) (first : Bool) (c t : Nat), pgo l first c = (t, 0) → ∃ t', t = c * 10 ^ l.length + t' ∧ t' < 10 ^ l.length ∧ l = digN l.length t
  | [], first, c, t, h => ⟨0, by simp [pgo] at h; simp [h], by simp, by simp [digN]⟩
  | b :: r, first, c, t, h => by
    rw [pgo] at h
    split at h
    · simp at h
    · rename_i hb
      split at h
      · simp at h
      · have hb1 : 48 ≤ b.toNat ∧ b.toNat ≤ 57 := by omega
        obtain ⟨t', h1, h2, h3⟩ := pgo_back r false _ t h
        have hp : 0 < 10 ^ r.length := Nat.pow_pos (by decide)
        have hq : t / 10 ^ r.length = c * 10 + (b.toNat - 48) := by
          rw [h1, Nat.mul_comm, Nat.mul_add_div hp, Nat.div_eq_of_lt h2, Nat.add_zero]
        refine ⟨(b.toNat - 48) * 10 ^ r.length + t', ?_, ?_, ?_⟩
        · rw [h1, List.length_cons, Nat.pow_succ, Nat.add_mul, Nat.mul_comm (10 ^ r.length) 10, ← Nat.mul_assoc]; omega
        · rw [List.length_cons, Nat.pow_succ]
          have : (b.toNat - 48) * 10 ^ r.length ≤ 9 * 10 ^ r.length := Nat.mul_le_mul_right _ (by omega)
          omega
        · rw [List.length_cons, digN_front, ← h3, hq]
          congr 1
          apply UInt8.toNat_inj.1
          rw [UInt8.toNat_ofNat']
          omega
/-- What is read as a count is its digits. -/
theorem pz_back (l : List UInt8) (t : Nat) (h : pz l = (t, 0)) : l = dig t := by
  rw [pz] at h
  split at h
  · simp at h
  · rename_i hne
    obtain ⟨t', h1, h2, h3⟩ := pgo_back l true 0 t h
    rw [Nat.zero_mul, Nat.zero_add] at h1
    subst h1
    have hlen : 1 ≤ l.length := by
      cases l with
      | nil => exact absurd rfl hne
      | cons _ _ => simp
    rw [dig, nd_eq l.length t hlen h2 (fun h4 => ?_)]
    · exact h3
    · match l, h4, h with
      | b :: b' :: r, _, h =>
        rw [pgo] at h
        split at h
        · simp at h
        · split at h
          · simp at h
          · rename_i hb _
            obtain ⟨t', e1, e2, -⟩ := pgo_back (b' :: r) false _ t h
            have hd : 0 * 10 + (b.toNat - 48) ≠ 0 := fun h0 => by
              rw [h0, pgo_bad _ _ _ _ (Or.inr (Or.inr ⟨rfl, rfl⟩))] at h
              simp at h
            have e3 : (b :: b' :: r).length - 1 = (b' :: r).length := by simp
            rw [e3, e1]
            have : 1 * 10 ^ (b' :: r).length ≤ (0 * 10 + (b.toNat - 48)) * 10 ^ (b' :: r).length := Nat.mul_le_mul_right _ (by omega)
            omega
set_option maxRecDepth 100000 in
set_option maxHeartbeats 4000000 in
theorem reads_ok (s : ByteArray) (hl : s.size ≤ 200) (P1 P2 F : Int)
    (HPa : Hid (∀ w, Calls Try.prog 22 #[.string s] w fun e w' => e = .returned (.tuple #[cv P1 P2, .int .i64 F]) ∧ Below w.heap.size w w'))
    (HRp : Hid (∀ w, Calls Try.prog 24 #[.string s] w fun e w' => e = .returned (.tuple #[cv P1 P2, .int .i64 F]) ∧ Below w.heap.size w w'))
    (hF : Hid (F = 0)) (HPr : Hid (∀ w, Calls Try.prog 21 #[cv P1 P2] w fun e w' => e = .returned (.string s) ∧ Below w.heap.size w w')) (w : World) :
    Calls Try.prog 5 #[.string s] w fun e w' => e = .returned (.bool true) ∧ Below w.heap.size w w' := by
  have hl' : ¬ (200 : Int) < (s.size : Int) := by omega
  go_enter Try.func5, Try.ntmps5
  go_wp2_with fail
  refine (HPa.out _).mono ?_
  rintro e w1 ⟨rfl, hb1⟩
  have B1 := Lib.hid (below_al hb1 (.cells #[.int .u64 P1, .int .u64 P2] 25))
  have T3 := Lib.hid (@two_new w1 P1 P2 25)
  clear hb1
  go_wp2_with fail
  refine (HRp.out _).mono ?_
  rintro e w2 ⟨rfl, hb2⟩
  have U3 := Lib.hid ((T3.out.on hb2).al (.cells #[.int .u64 P1, .int .u64 P2] 24))
  have U5 := Lib.hid (@two_new w2 P1 P2 24)
  have B2 := Lib.hid (below_al (below_on B1.out hb2) (.cells #[.int .u64 P1, .int .u64 P2] 24))
  obtain ⟨g5, hg5⟩ : ∃ g5, w2.heap.size = g5 := ⟨_, rfl⟩
  obtain ⟨wq, hwq⟩ : ∃ wq, w2.alloc (.cells #[.int .u64 P1, .int .u64 P2] 24) = wq := ⟨_, rfl⟩
  rw [hwq] at U3 U5 B2
  rw [hg5] at U5
  clear hb2 T3 B1
  obtain ⟨a0, a1, -, -⟩ := U3.out
  obtain ⟨b0, b1, -, -⟩ := U5.out
  go_wp2_with fail
  clear hwq hg5
  have f1 : (F != 0) = false := by rw [hF.out]; rfl
  refine wp_region_noPanic ?_
  refine wp_region_along (S := fun w' => Below wq.heap.size wq w' ∧ ∀ b o, (wq.cell? ⟨b, o, none⟩).isSome = true → w'.cell? ⟨b, o, none⟩ = wq.cell? ⟨b, o, none⟩) ([(0, false), (1, true), (2, true), (3, true), (4, true), (5, true), (6, true), (7, true), (8, true), (9, false), (10, true), (11, true), (12, true), (13, true), (14, true), (15, true)] ++ ([(16, true), (18, true), (17, false), (19, true), (20, true), (21, true), (22, true)])) (by kernel_rfl) (by as_aux_lemma => kernel_rfl) (by kernel_rfl) (by kernel_rfl) (alongPre_append _ _ _ (by as_aux_lemma => kernel_rfl) (by as_aux_lemma => kernel_rfl)) (by as_aux_lemma => kernel_rfl) (fun _ _ _ _ _ h => h) (below_kb (Below.refl _ _).drew) (fun hH => ?_)
  simp only [List.cons_append, List.nil_append, stepsOf, pickOp]
  refine along_bar (fun K hK => ?_)
  go_simp
  refine (awake_any _).mono ?_
  rintro e w' ⟨rfl, hbx⟩
  try go_wp2_with fail
  refine hK.out _ _ (below_kb (below_on hH.1 hbx)) (fun hH' => ?_)
  clear hK K hH
  have hH := hH'
  clear hH'
  clear hbx
  try simp only [Act.put, List.setIfInBounds_toArray, List.set_cons_zero, List.set_cons_succ]
  refine along_pure ?_ (by rfl) (fun w hSw => ?_) ?_
  rotate_left
  · (try dsimp only at hSw); go_simp; try with_reducible rfl
  try simp only [Act.put, List.setIfInBounds_toArray, List.set_cons_zero, List.set_cons_succ]
  refine along_pure ?_ (by rfl) (fun w hSw => ?_) ?_
  rotate_left
  · (try dsimp only at hSw); go_simp; try with_reducible rfl
  try simp only [Act.put, List.setIfInBounds_toArray, List.set_cons_zero, List.set_cons_succ]
  refine along_pure ?_ (by rfl) (fun w hSw => ?_) ?_
  rotate_left
  · (try dsimp only at hSw); go_simp; try with_reducible rfl
  try simp only [Act.put, List.setIfInBounds_toArray, List.set_cons_zero, List.set_cons_succ]
  refine along_pure ?_ (by rfl) (fun w hSw => ?_) ?_
  rotate_left
  · (try dsimp only at hSw); go_simp; try with_reducible rfl
  try simp only [Act.put, List.setIfInBounds_toArray, List.set_cons_zero, List.set_cons_succ]
  refine along_pure ?_ (by rfl) (fun w hSw => ?_) ?_
  rotate_left
  · (try dsimp only at hSw); go_simp; try with_reducible rfl
  try simp only [Act.put, List.setIfInBounds_toArray, List.set_cons_zero, List.set_cons_succ]
  refine along_pure ?_ (by rfl) (fun w hSw => ?_) ?_
  rotate_left
  · (try dsimp only at hSw); go_simp; try with_reducible rfl
  try simp only [Act.put, List.setIfInBounds_toArray, List.set_cons_zero, List.set_cons_succ]
  refine along_pure ?_ (by rfl) (fun w hSw => ?_) ?_
  rotate_left
  · (try dsimp only at hSw); go_simp; try with_reducible rfl
  try simp only [Act.put, List.setIfInBounds_toArray, List.set_cons_zero, List.set_cons_succ]
  refine along_pure ?_ (by rfl) (fun w hSw => ?_) ?_
  rotate_left
  · (try dsimp only at hSw); go_simp; try with_reducible rfl
  try simp only [Act.put, List.setIfInBounds_toArray, List.set_cons_zero, List.set_cons_succ]
  refine along_bar (fun K hK => ?_)
  go_simp
  refine (to_any _ _ _).mono ?_
  rintro e w' ⟨rfl, hbx⟩
  try go_wp2_with fail
  refine hK.out _ _ (below_kb (below_on hH.1 hbx)) (fun hH' => ?_)
  clear hK K hH
  have hH := hH'
  clear hH'
  clear hbx
  try simp only [Act.put, List.setIfInBounds_toArray, List.set_cons_zero, List.set_cons_succ]
  refine along_pure ?_ (by rfl) (fun w hSw => ?_) ?_
  rotate_left
  · (try dsimp only at hSw); go_simp; try with_reducible rfl
  try simp only [Act.put, List.setIfInBounds_toArray, List.set_cons_zero, List.set_cons_succ]
  refine along_pure ?_ (by rfl) (fun w hSw => ?_) ?_
  rotate_left
  · (try dsimp only at hSw); go_simp; try with_reducible rfl
  try simp only [Act.put, List.setIfInBounds_toArray, List.set_cons_zero, List.set_cons_succ]
  refine along_pure ?_ (by rfl) (fun w hSw => ?_) ?_
  rotate_left
  · (try dsimp only at hSw); go_simp; try with_reducible rfl
  try simp only [Act.put, List.setIfInBounds_toArray, List.set_cons_zero, List.set_cons_succ]
  refine along_pure ?_ (by rfl) (fun w hSw => ?_) ?_
  rotate_left
  · (try dsimp only at hSw); go_simp; try with_reducible rfl
  try simp only [Act.put, List.setIfInBounds_toArray, List.set_cons_zero, List.set_cons_succ]
  refine along_pure ?_ (by rfl) (fun w hSw => ?_) ?_
  rotate_left
  · (try dsimp only at hSw); go_simp; try with_reducible rfl
  try simp only [Act.put, List.setIfInBounds_toArray, List.set_cons_zero, List.set_cons_succ]
  refine along_pure ?_ (by rfl) (fun w hSw => ?_) ?_
  rotate_left
  · (try dsimp only at hSw); go_simp; try with_reducible rfl
  try simp only [Act.put, List.setIfInBounds_toArray, List.set_cons_zero, List.set_cons_succ]
  refine along_pure ?_ (by rfl) (fun w hSw => ?_) ?_
  rotate_left
  · (try dsimp only at hSw); go_simp; try with_reducible rfl
  try simp only [Act.put, List.setIfInBounds_toArray, List.set_cons_zero, List.set_cons_succ]
  refine along_pure ?_ (by rfl) (fun w hSw => ?_) ?_
  rotate_left
  · (try dsimp only at hSw); go_simp; try with_reducible rfl
  try simp only [Act.put, List.setIfInBounds_toArray, List.set_cons_zero, List.set_cons_succ]
  refine along_bar (fun K hK => ?_)
  go_simp
  refine (HPr.out _).mono ?_
  rintro e w' ⟨rfl, hbx⟩
  try go_wp2_with fail
  refine hK.out _ _ (below_kb (below_on hH.1 hbx)) (fun hH' => ?_)
  clear hK K hH
  have hH := hH'
  clear hH'
  clear hbx
  try simp only [Act.put, List.setIfInBounds_toArray, List.set_cons_zero, List.set_cons_succ]
  refine along_pure ?_ (by rfl) (fun w hSw => ?_) ?_
  rotate_left
  · (try dsimp only at hSw); go_simp; try with_reducible rfl
  try simp only [Act.put, List.setIfInBounds_toArray, List.set_cons_zero, List.set_cons_succ]
  refine along_pure ?_ (by rfl) (fun w hSw => ?_) ?_
  rotate_left
  · (try dsimp only at hSw); go_simp; try with_reducible rfl
  try simp only [Act.put, List.setIfInBounds_toArray, List.set_cons_zero, List.set_cons_succ]
  refine along_pure ?_ (by rfl) (fun w hSw => ?_) ?_
  rotate_left
  · (try dsimp only at hSw); go_simp; try with_reducible rfl
  try simp only [Act.put, List.setIfInBounds_toArray, List.set_cons_zero, List.set_cons_succ]
  refine along_pure ?_ (by rfl) (fun w hSw => ?_) ?_
  rotate_left
  · (try dsimp only at hSw); go_simp; try with_reducible rfl
  try simp only [Act.put, List.setIfInBounds_toArray, List.set_cons_zero, List.set_cons_succ]
  refine along_end (NoPanic.normal ?_)
  have HB := Lib.hid hH.1
  clear hH
  go_wp2_with fail
  go_ret
  exact ⟨ret_bool (by simp), below_on B2.out HB.out⟩
set_option maxRecDepth 100000 in
set_option maxHeartbeats 4000000 in
theorem reads_err (s : ByteArray) (hl : s.size ≤ 200) (P1 P2 F : Int)
    (HPa : Hid (∀ w, Calls Try.prog 22 #[.string s] w fun e w' => e = .returned (.tuple #[cv P1 P2, .int .i64 F]) ∧ Below w.heap.size w w'))
    (HRp : Hid (∀ w, Calls Try.prog 24 #[.string s] w fun e w' => e = .returned (.tuple #[cv P1 P2, .int .i64 F]) ∧ Below w.heap.size w w'))
    (hF : Hid (F ≠ 0)) (w : World) :
    Calls Try.prog 5 #[.string s] w fun e w' => e = .returned (.bool true) ∧ Below w.heap.size w w' := by
  have hl' : ¬ (200 : Int) < (s.size : Int) := by omega
  go_enter Try.func5, Try.ntmps5
  go_wp2_with fail
  refine (HPa.out _).mono ?_
  rintro e w1 ⟨rfl, hb1⟩
  have B1 := Lib.hid (below_al hb1 (.cells #[.int .u64 P1, .int .u64 P2] 25))
  have T3 := Lib.hid (@two_new w1 P1 P2 25)
  clear hb1
  go_wp2_with fail
  refine (HRp.out _).mono ?_
  rintro e w2 ⟨rfl, hb2⟩
  have U3 := Lib.hid ((T3.out.on hb2).al (.cells #[.int .u64 P1, .int .u64 P2] 24))
  have U5 := Lib.hid (@two_new w2 P1 P2 24)
  have B2 := Lib.hid (below_al (below_on B1.out hb2) (.cells #[.int .u64 P1, .int .u64 P2] 24))
  obtain ⟨g5, hg5⟩ : ∃ g5, w2.heap.size = g5 := ⟨_, rfl⟩
  obtain ⟨wq, hwq⟩ : ∃ wq, w2.alloc (.cells #[.int .u64 P1, .int .u64 P2] 24) = wq := ⟨_, rfl⟩
  rw [hwq] at U3 U5 B2
  rw [hg5] at U5
  clear hb2 T3 B1
  obtain ⟨a0, a1, -, -⟩ := U3.out
  obtain ⟨b0, b1, -, -⟩ := U5.out
  go_wp2_with fail
  clear hwq hg5
  have f1 : (F != 0) = true := by simp; exact hF.out
  refine wp_region_noPanic ?_
  refine wp_region_along (S := fun w' => Below wq.heap.size wq w' ∧ ∀ b o, (wq.cell? ⟨b, o, none⟩).isSome = true → w'.cell? ⟨b, o, none⟩ = wq.cell? ⟨b, o, none⟩) ([(0, false), (1, true), (2, true), (3, true), (4, true), (5, true), (6, true), (7, true), (8, true), (9, false), (10, true), (11, true), (12, true), (13, true), (14, true), (15, true)] ++ ([(16, true), (18, true), (17, false), (19, true), (20, true), (21, true), (22, true)])) (by kernel_rfl) (by as_aux_lemma => kernel_rfl) (by kernel_rfl) (by kernel_rfl) (alongPre_append _ _ _ (by as_aux_lemma => kernel_rfl) (by as_aux_lemma => kernel_rfl)) (by as_aux_lemma => kernel_rfl) (fun _ _ _ _ _ h => h) (below_kb (Below.refl _ _).drew) (fun hH => ?_)
  simp only [List.cons_append, List.nil_append, stepsOf, pickOp]
  refine along_bar (fun K hK => ?_)
  go_simp
  refine (awake_any _).mono ?_
  rintro e w' ⟨rfl, hbx⟩
  try go_wp2_with fail
  refine hK.out _ _ (below_kb (below_on hH.1 hbx)) (fun hH' => ?_)
  clear hK K hH
  have hH := hH'
  clear hH'
  clear hbx
  try simp only [Act.put, List.setIfInBounds_toArray, List.set_cons_zero, List.set_cons_succ]
  refine along_pure ?_ (by rfl) (fun w hSw => ?_) ?_
  rotate_left
  · (try dsimp only at hSw); go_simp; try with_reducible rfl
  try simp only [Act.put, List.setIfInBounds_toArray, List.set_cons_zero, List.set_cons_succ]
  refine along_pure ?_ (by rfl) (fun w hSw => ?_) ?_
  rotate_left
  · (try dsimp only at hSw); go_simp; try with_reducible rfl
  try simp only [Act.put, List.setIfInBounds_toArray, List.set_cons_zero, List.set_cons_succ]
  refine along_pure ?_ (by rfl) (fun w hSw => ?_) ?_
  rotate_left
  · (try dsimp only at hSw); go_simp; try with_reducible rfl
  try simp only [Act.put, List.setIfInBounds_toArray, List.set_cons_zero, List.set_cons_succ]
  refine along_pure ?_ (by rfl) (fun w hSw => ?_) ?_
  rotate_left
  · (try dsimp only at hSw); go_simp; try with_reducible rfl
  try simp only [Act.put, List.setIfInBounds_toArray, List.set_cons_zero, List.set_cons_succ]
  refine along_pure ?_ (by rfl) (fun w hSw => ?_) ?_
  rotate_left
  · (try dsimp only at hSw); go_simp; try with_reducible rfl
  try simp only [Act.put, List.setIfInBounds_toArray, List.set_cons_zero, List.set_cons_succ]
  refine along_pure ?_ (by rfl) (fun w hSw => ?_) ?_
  rotate_left
  · (try dsimp only at hSw); go_simp; try with_reducible rfl
  try simp only [Act.put, List.setIfInBounds_toArray, List.set_cons_zero, List.set_cons_succ]
  refine along_pure ?_ (by rfl) (fun w hSw => ?_) ?_
  rotate_left
  · (try dsimp only at hSw); go_simp; try with_reducible rfl
  try simp only [Act.put, List.setIfInBounds_toArray, List.set_cons_zero, List.set_cons_succ]
  refine along_pure ?_ (by rfl) (fun w hSw => ?_) ?_
  rotate_left
  · (try dsimp only at hSw); go_simp; try with_reducible rfl
  try simp only [Act.put, List.setIfInBounds_toArray, List.set_cons_zero, List.set_cons_succ]
  refine along_bar (fun K hK => ?_)
  go_simp
  refine (to_any _ _ _).mono ?_
  rintro e w' ⟨rfl, hbx⟩
  try go_wp2_with fail
  refine hK.out _ _ (below_kb (below_on hH.1 hbx)) (fun hH' => ?_)
  clear hK K hH
  have hH := hH'
  clear hH'
  clear hbx
  try simp only [Act.put, List.setIfInBounds_toArray, List.set_cons_zero, List.set_cons_succ]
  refine along_pure ?_ (by rfl) (fun w hSw => ?_) ?_
  rotate_left
  · (try dsimp only at hSw); go_simp; try with_reducible rfl
  try simp only [Act.put, List.setIfInBounds_toArray, List.set_cons_zero, List.set_cons_succ]
  refine along_pure ?_ (by rfl) (fun w hSw => ?_) ?_
  rotate_left
  · (try dsimp only at hSw); go_simp; try with_reducible rfl
  try simp only [Act.put, List.setIfInBounds_toArray, List.set_cons_zero, List.set_cons_succ]
  refine along_pure ?_ (by rfl) (fun w hSw => ?_) ?_
  rotate_left
  · (try dsimp only at hSw); go_simp; try with_reducible rfl
  try simp only [Act.put, List.setIfInBounds_toArray, List.set_cons_zero, List.set_cons_succ]
  refine along_pure ?_ (by rfl) (fun w hSw => ?_) ?_
  rotate_left
  · (try dsimp only at hSw); go_simp; try with_reducible rfl
  try simp only [Act.put, List.setIfInBounds_toArray, List.set_cons_zero, List.set_cons_succ]
  refine along_pure ?_ (by rfl) (fun w hSw => ?_) ?_
  rotate_left
  · (try dsimp only at hSw); go_simp; try with_reducible rfl
  try simp only [Act.put, List.setIfInBounds_toArray, List.set_cons_zero, List.set_cons_succ]
  refine along_pure ?_ (by rfl) (fun w hSw => ?_) ?_
  rotate_left
  · (try dsimp only at hSw); go_simp; try with_reducible rfl
  try simp only [Act.put, List.setIfInBounds_toArray, List.set_cons_zero, List.set_cons_succ]
  refine along_skip (by rfl) ?_
  try simp only [Act.put, List.setIfInBounds_toArray, List.set_cons_zero, List.set_cons_succ]
  refine along_skip (by rfl) ?_
  try simp only [Act.put, List.setIfInBounds_toArray, List.set_cons_zero, List.set_cons_succ]
  refine along_pass (by rfl) hH ?_
  try simp only [Act.put, List.setIfInBounds_toArray, List.set_cons_zero, List.set_cons_succ]
  refine along_skip (by rfl) ?_
  try simp only [Act.put, List.setIfInBounds_toArray, List.set_cons_zero, List.set_cons_succ]
  refine along_pure ?_ (by rfl) (fun w hSw => ?_) ?_
  rotate_left
  · (try dsimp only at hSw); go_simp; try with_reducible rfl
  try simp only [Act.put, List.setIfInBounds_toArray, List.set_cons_zero, List.set_cons_succ]
  refine along_pure ?_ (by rfl) (fun w hSw => ?_) ?_
  rotate_left
  · (try dsimp only at hSw); go_simp; try with_reducible rfl
  try simp only [Act.put, List.setIfInBounds_toArray, List.set_cons_zero, List.set_cons_succ]
  refine along_pure ?_ (by rfl) (fun w hSw => ?_) ?_
  rotate_left
  · (try dsimp only at hSw); go_simp; try with_reducible rfl
  try simp only [Act.put, List.setIfInBounds_toArray, List.set_cons_zero, List.set_cons_succ]
  refine along_end (NoPanic.normal ?_)
  have HB := Lib.hid hH.1
  clear hH
  go_wp2_with fail
  go_ret
  exact ⟨ret_bool (by simp), below_on B2.out HB.out⟩
set_option maxHeartbeats 400000 in
theorem reads_long (s : ByteArray) (hl : (200 : Int) < (s.size : Int)) (hm : s.size ≤ maxLen) (w : World) :
    Calls Try.prog 5 #[.string s] w fun e w' => e = .returned (.bool true) ∧ Below w.heap.size w w' := by
  unfold maxLen at hm
  go_enter Try.func5, Try.ntmps5
  go_wp2_with fail
  refine (awake_any _).mono ?_
  rintro e w1 ⟨rfl, hb1⟩
  go_wp2_with fail
  go_ret
  exact ⟨rfl, hb1⟩
theorem pgo_lt : ∀ (l : List UInt8) (first : Bool) (c : Nat), c < MM → (pgo l first c).1 < MM
  | [], _, _, h => h
  | b :: r, first, c, h => by
    rw [pgo]
    split
    · exact MM_pos
    · split
      · exact MM_pos
      · exact pgo_lt r false _ (by omega)
theorem pz_lt (l : List UInt8) : (pz l).1 < MM := by
  rw [pz]
  split
  · exact MM_pos
  · exact pgo_lt l true 0 MM_pos
theorem reads_any (s : ByteArray) (hm : s.size ≤ maxLen) (w : World) :
    Calls Try.prog 5 #[.string s] w fun e w' => e = .returned (.bool true) ∧ Below w.heap.size w w' := by
  by_cases hl : s.size ≤ 200
  · by_cases hF : (pz s.data.toList).2 = 0
    · refine reads_ok s hl _ _ _ (fun w => parse_any s hm w) (fun w => rparse_any s hm w) hF (fun w => ?_) w
      have := print_any (pz s.data.toList).1 (pz_lt _) w
      rw [← pz_back s.data.toList (pz s.data.toList).1 (by rw [← hF])] at this
      rw [show (ByteArray.mk s.data.toList.toArray) = s from rfl] at this
      exact this
    · exact reads_err s hl _ _ _ (fun w => parse_any s hm w) (fun w => rparse_any s hm w) hF w
  · exact reads_long s (by omega) hm w
end Go.Proofs.Yteinkjlnofmalaa
