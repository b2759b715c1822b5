/- A count with one digit more behind it: what 'with' answers. -/
import Derived.Test.YteinkjlnofmalaaW5
import Derived.Test.YteinkjlnofmalaaAlong
namespace Go.Proofs.Yteinkjlnofmalaa
open Go.RowKit
set_option linter.unusedVariables false


/-- The greatest count without its last digit. -/
def RR : Nat := 34028236692093846346337460743176821145
theorem great_split (w : World) : Calls Try.prog 28 #[cn (MM - 1)] w fun e w' => e = .returned (.tuple #[cn RR, .int .u64 5]) ∧ Below w.heap.size w w' := by
  have h := split_any (MM - 1) (by decide) w
  rw [show (MM - 1) / 10 = RR from by decide, show (((MM - 1 : Nat) : Int) % 10) = 5 from by decide] at h
  exact h
theorem Two.lt {w : World} {b : Nat} {x y : Int} (h : Two w b x y) : b < w.heap.size := cell_lt (by rw [h.1]; rfl)
theorem Two.on {w w' : World} {b : Nat} {x y : Int} (h : Two w b x y) (hb : Below w.heap.size w w') : Two w' b x y := h.later hb h.lt
theorem Two.al {w : World} {b : Nat} {x y : Int} (h : Two w b x y) (o : Obj) : Two (w.alloc o) b x y := h.alloc o h.lt
theorem two_first {w : World} {x y : Int} {t : TypeId} {o : Obj} : Two ((w.alloc (.cells #[.int .u64 x, .int .u64 y] t)).alloc o) w.heap.size x y := two_new.al o
theorem two_second {w : World} {x y : Int} {t : TypeId} {o : Obj} : Two ((w.alloc o).alloc (.cells #[.int .u64 x, .int .u64 y] t)) (w.heap.size + 1) x y := by
  have := @two_new (w.alloc o) x y t
  simpa using this
theorem ten_up (c d : Nat) (hd : d ≤ 9) (h : c * 10 + d < MM) : ad (ad (upI c 3) (upI c 1)) d = c * 10 + d := by
  rw [show (3 : Int) = ((3 : Nat) : Int) from rfl, show (1 : Int) = ((1 : Nat) : Int) from rfl, upI_in _ 3 (by omega), upI_in _ 1 (by omega)]
  unfold ad upN
  rw [show c * 2 ^ 3 = 8 * c by omega, show c * 2 ^ 1 = 2 * c by omega, ← Nat.add_mod, Nat.mod_add_mod, show 8 * c + 2 * c + d = c * 10 + d by omega, Nat.mod_eq_of_lt h]

set_option maxHeartbeats 1000000 in
theorem with_above (C1 C2 G1 G2 R1 R2 q D : Int)
    (HC1 : Hid (∀ w, Calls Try.prog 32 #[] w fun e w' => e = .returned (cv G1 G2) ∧ Below w.heap.size w w'))
    (HC2 : Hid (∀ w, Calls Try.prog 28 #[cv G1 G2] w fun e w' => e = .returned (.tuple #[cv R1 R2, .int .u64 5]) ∧ Below w.heap.size w w'))
    (HC3 : Hid (∀ w, Calls Try.prog 18 #[cv C1 C2, cv R1 R2] w fun e w' => e = .returned (.int .i64 q) ∧ Below w.heap.size w w'))
    (h1 : decide (0 < q) = true) (w : World) :
    Calls Try.prog 29 #[cv C1 C2, .int .u64 D] w fun e w' => e = .returned (.tuple #[cv 0 0, .bool false]) ∧ Below w.heap.size w w' := by
  go_enter Try.func29, Try.ntmps29
  go_wp2_with fail
  refine (HC1.out _).mono ?_
  rintro e w1 ⟨rfl, hb1⟩
  have T1 := Lib.hid (two_first.on hb1)
  have T2 := Lib.hid (two_second.on hb1)
  have B1 := Lib.hid (below_on (below_al (below_al (Below.refl w.heap.size w) _) _) hb1)
  clear hb1
  go_wp2_with fail
  refine (HC2.out _).mono ?_
  rintro e w2 ⟨rfl, hb2⟩
  have S1 := Lib.hid (T1.out.on hb2)
  have S2 := Lib.hid (T2.out.on hb2)
  have B2 := Lib.hid (below_on B1.out hb2)
  clear hb2 T1 T2 B1
  have l1 := S1.out.lt
  have l2 := S2.out.lt
  obtain ⟨c0, c1, f0, f1⟩ := S1.out
  obtain ⟨d0, d1, g0, g1⟩ := S2.out
  go_wp2_with fail
  refine (HC3.out _).mono ?_
  rintro e w3 ⟨rfl, hb3⟩
  have T1 := Lib.hid ((S1.out.al _).on hb3)
  have T2 := Lib.hid ((S2.out.al _).on hb3)
  have T3 := Lib.hid (two_new.on hb3)
  have B3 := Lib.hid (below_on (below_al B2.out _) hb3)
  clear hb3 S1 S2 B2 c0 c1 f0 f1 d0 d1 g0 g1 l1 l2
  have l1 := T1.out.lt
  have l2 := T2.out.lt
  obtain ⟨c0, c1, f0, f1⟩ := T1.out
  obtain ⟨d0, d1, g0, g1⟩ := T2.out
  obtain ⟨e0, e1, _, _⟩ := T3.out
  go_wp2
  refine bodyPost_ret (v := .tuple #[cv 0 0, .bool false]) (by simp [results, Try.results29, go_sem, d0, d1]) rfl ⟨rfl, ?_⟩
  exact (B3.out.setCell (by simp) _).setCell (by simp) _
set_option maxHeartbeats 1000000 in
theorem with_digit (C1 C2 G1 G2 q D : Int)
    (HC1 : Hid (∀ w, Calls Try.prog 32 #[] w fun e w' => e = .returned (cv G1 G2) ∧ Below w.heap.size w w'))
    (HC2 : Hid (∀ w, Calls Try.prog 28 #[cv G1 G2] w fun e w' => e = .returned (.tuple #[cv C1 C2, .int .u64 5]) ∧ Below w.heap.size w w'))
    (HC3 : Hid (∀ w, Calls Try.prog 18 #[cv C1 C2, cv C1 C2] w fun e w' => e = .returned (.int .i64 q) ∧ Below w.heap.size w w'))
    (h1 : decide (0 < q) = false) (h2 : decide (5 < D) = true) (w : World) :
    Calls Try.prog 29 #[cv C1 C2, .int .u64 D] w fun e w' => e = .returned (.tuple #[cv 0 0, .bool false]) ∧ Below w.heap.size w w' := by
  go_enter Try.func29, Try.ntmps29
  go_wp2_with fail
  refine (HC1.out _).mono ?_
  rintro e w1 ⟨rfl, hb1⟩
  have T1 := Lib.hid (two_first.on hb1)
  have T2 := Lib.hid (two_second.on hb1)
  have B1 := Lib.hid (below_on (below_al (below_al (Below.refl w.heap.size w) _) _) hb1)
  clear hb1
  go_wp2_with fail
  refine (HC2.out _).mono ?_
  rintro e w2 ⟨rfl, hb2⟩
  have S1 := Lib.hid (T1.out.on hb2)
  have S2 := Lib.hid (T2.out.on hb2)
  have B2 := Lib.hid (below_on B1.out hb2)
  clear hb2 T1 T2 B1
  have l1 := S1.out.lt
  have l2 := S2.out.lt
  obtain ⟨c0, c1, f0, f1⟩ := S1.out
  obtain ⟨d0, d1, g0, g1⟩ := S2.out
  go_wp2_with fail
  refine (HC3.out _).mono ?_
  rintro e w3 ⟨rfl, hb3⟩
  have T1 := Lib.hid ((S1.out.al _).on hb3)
  have T2 := Lib.hid ((S2.out.al _).on hb3)
  have T3 := Lib.hid (two_new.on hb3)
  have B3 := Lib.hid (below_on (below_al B2.out _) hb3)
  clear hb3 S1 S2 B2 c0 c1 f0 f1 d0 d1 g0 g1 l1 l2
  have l1 := T1.out.lt
  have l2 := T2.out.lt
  obtain ⟨c0, c1, f0, f1⟩ := T1.out
  obtain ⟨d0, d1, g0, g1⟩ := T2.out
  obtain ⟨e0, e1, _, _⟩ := T3.out
  go_wp2
  refine bodyPost_ret (v := .tuple #[cv 0 0, .bool false]) (by simp [results, Try.results29, go_sem, d0, d1]) rfl ⟨rfl, ?_⟩
  exact (B3.out.setCell (by simp) _).setCell (by simp) _
set_option maxHeartbeats 1000000 in
theorem with_hi (C1 C2 G1 G2 R1 R2 U1 U2 V1 V2 X1 X2 Y1 Y2 q D : Int)
    (HC1 : Hid (∀ w, Calls Try.prog 32 #[] w fun e w' => e = .returned (cv G1 G2) ∧ Below w.heap.size w w'))
    (HC2 : Hid (∀ w, Calls Try.prog 28 #[cv G1 G2] w fun e w' => e = .returned (.tuple #[cv R1 R2, .int .u64 5]) ∧ Below w.heap.size w w'))
    (HC3 : Hid (∀ w, Calls Try.prog 18 #[cv C1 C2, cv R1 R2] w fun e w' => e = .returned (.int .i64 q) ∧ Below w.heap.size w w'))
    (HC4 : Hid (∀ w, Calls Try.prog 15 #[cv C1 C2, .int .i64 3] w fun e w' => e = .returned (cv U1 U2) ∧ Below w.heap.size w w'))
    (HC5 : Hid (∀ w, Calls Try.prog 15 #[cv C1 C2, .int .i64 1] w fun e w' => e = .returned (cv V1 V2) ∧ Below w.heap.size w w'))
    (HC6 : Hid (∀ w, Calls Try.prog 11 #[cv U1 U2, cv V1 V2] w fun e w' => e = .returned (cv X1 X2) ∧ Below w.heap.size w w'))
    (HC7 : Hid (∀ w, Calls Try.prog 11 #[cv X1 X2, cv 0 D] w fun e w' => e = .returned (cv Y1 Y2) ∧ Below w.heap.size w w'))
    (h1 : decide (0 < q) = false) (h2 : (C1 == R1) = false) (w : World) :
    Calls Try.prog 29 #[cv C1 C2, .int .u64 D] w fun e w' => e = .returned (.tuple #[cv Y1 Y2, .bool true]) ∧ Below w.heap.size w w' := by
  go_enter Try.func29, Try.ntmps29
  go_wp2_with fail
  refine (HC1.out _).mono ?_
  rintro e w1 ⟨rfl, hb1⟩
  have T1 := Lib.hid (two_first.on hb1)
  have T2 := Lib.hid (two_second.on hb1)
  have B1 := Lib.hid (below_on (below_al (below_al (Below.refl w.heap.size w) _) _) hb1)
  clear hb1
  go_wp2_with fail
  refine (HC2.out _).mono ?_
  rintro e w2 ⟨rfl, hb2⟩
  have S1 := Lib.hid (T1.out.on hb2)
  have S2 := Lib.hid (T2.out.on hb2)
  have B2 := Lib.hid (below_on B1.out hb2)
  clear hb2 T1 T2 B1
  have l1 := S1.out.lt
  have l2 := S2.out.lt
  obtain ⟨c0, c1, f0, f1⟩ := S1.out
  obtain ⟨d0, d1, g0, g1⟩ := S2.out
  go_wp2_with fail
  refine (HC3.out _).mono ?_
  rintro e w3 ⟨rfl, hb3⟩
  have T1 := Lib.hid ((S1.out.al _).on hb3)
  have T2 := Lib.hid ((S2.out.al _).on hb3)
  have T3 := Lib.hid (two_new.on hb3)
  have B3 := Lib.hid (below_on (below_al B2.out _) hb3)
  clear hb3 S1 S2 B2 c0 c1 f0 f1 d0 d1 g0 g1 l1 l2
  have l1 := T1.out.lt
  have l2 := T2.out.lt
  obtain ⟨c0, c1, f0, f1⟩ := T1.out
  obtain ⟨d0, d1, g0, g1⟩ := T2.out
  obtain ⟨e0, e1, _, _⟩ := T3.out
  go_wp2_with fail
  have T1 := Lib.hid (show Two w3.drew w.heap.size C1 C2 from T1.out)
  have T2 := Lib.hid (show Two w3.drew (w.heap.size + 1) 0 0 from T2.out)
  clear d0 d1 g0 g1 e0 e1 l1 l2 f0 f1
  refine wp_region_noPanic ?_
  refine wp_region_along (S := fun w' => Below w.heap.size w w' ∧ w'.cell? ⟨w.heap.size, 0, none⟩ = some (.int .u64 C1) ∧ w'.cell? ⟨w.heap.size, 1, none⟩ = some (.int .u64 C2)) ([(0, true), (2, true), (5, true), (1, false), (3, false), (4, false), (6, false), (7, false), (8, false), (9, true)]) (by kernel_rfl) (by as_aux_lemma => kernel_rfl) (by kernel_rfl) (by kernel_rfl) (by as_aux_lemma => kernel_rfl) (by as_aux_lemma => kernel_rfl) (fun _ _ _ _ _ h => h) ⟨B3.out.drew, c0, c1⟩ (fun hH => ?_)
  simp only [stepsOf, pickOp]
  refine along_pure ?_ (by rfl) (fun w hSw => ?_) ?_
  rotate_left
  · (try dsimp only at hSw); go_simp; try with_reducible rfl
  try simp only [Act.put, List.setIfInBounds_toArray, List.set_cons_zero, List.set_cons_succ]
  refine along_pure ?_ (by rfl) (fun w hSw => ?_) ?_
  rotate_left
  · (try dsimp only at hSw); go_simp; try with_reducible rfl
  try simp only [Act.put, List.setIfInBounds_toArray, List.set_cons_zero, List.set_cons_succ]
  refine along_pure ?_ (by rfl) (fun w hSw => ?_) ?_
  rotate_left
  · (try dsimp only at hSw); go_simp; try with_reducible rfl
  try simp only [Act.put, List.setIfInBounds_toArray, List.set_cons_zero, List.set_cons_succ]
  refine along_bar (fun K hK => ?_)
  go_simp
  refine (HC4.out _).mono ?_
  rintro e w' ⟨rfl, hbx⟩
  try go_wp2_with fail
  have T1' := Lib.hid (T1.out.on hbx)
  have T2' := Lib.hid (T2.out.on hbx)
  refine hK.out _ _ ⟨below_on hH.1 hbx, T1'.out.1, T1'.out.2.1⟩ (fun hH' => ?_)
  clear hK K hH
  have hH := hH'
  clear hH'
  have T1 := T1'
  have T2 := T2'
  clear T1' T2' hbx
  try simp only [Act.put, List.setIfInBounds_toArray, List.set_cons_zero, List.set_cons_succ]
  refine along_bar (fun K hK => ?_)
  go_simp
  refine (HC5.out _).mono ?_
  rintro e w' ⟨rfl, hbx⟩
  try go_wp2_with fail
  have T1' := Lib.hid (T1.out.on hbx)
  have T2' := Lib.hid (T2.out.on hbx)
  refine hK.out _ _ ⟨below_on hH.1 hbx, T1'.out.1, T1'.out.2.1⟩ (fun hH' => ?_)
  clear hK K hH
  have hH := hH'
  clear hH'
  have T1 := T1'
  have T2 := T2'
  clear T1' T2' hbx
  try simp only [Act.put, List.setIfInBounds_toArray, List.set_cons_zero, List.set_cons_succ]
  refine along_bar (fun K hK => ?_)
  go_simp
  refine (HC6.out _).mono ?_
  rintro e w' ⟨rfl, hbx⟩
  try go_wp2_with fail
  have T1' := Lib.hid (T1.out.on hbx)
  have T2' := Lib.hid (T2.out.on hbx)
  refine hK.out _ _ ⟨below_on hH.1 hbx, T1'.out.1, T1'.out.2.1⟩ (fun hH' => ?_)
  clear hK K hH
  have hH := hH'
  clear hH'
  have T1 := T1'
  have T2 := T2'
  clear T1' T2' hbx
  try simp only [Act.put, List.setIfInBounds_toArray, List.set_cons_zero, List.set_cons_succ]
  refine along_bar (fun K hK => ?_)
  go_simp
  refine (of_any _ _).mono ?_
  rintro e w' ⟨rfl, hbx⟩
  try go_wp2_with fail
  have T1' := Lib.hid (T1.out.on hbx)
  have T2' := Lib.hid (T2.out.on hbx)
  refine hK.out _ _ ⟨below_on hH.1 hbx, T1'.out.1, T1'.out.2.1⟩ (fun hH' => ?_)
  clear hK K hH
  have hH := hH'
  clear hH'
  have T1 := T1'
  have T2 := T2'
  clear T1' T2' hbx
  try simp only [Act.put, List.setIfInBounds_toArray, List.set_cons_zero, List.set_cons_succ]
  refine along_bar (fun K hK => ?_)
  go_simp
  refine (HC7.out _).mono ?_
  rintro e w' ⟨rfl, hbx⟩
  try go_wp2_with fail
  have T1' := Lib.hid (T1.out.on hbx)
  have T2' := Lib.hid (T2.out.on hbx)
  refine hK.out _ _ ⟨below_on hH.1 hbx, T1'.out.1, T1'.out.2.1⟩ (fun hH' => ?_)
  clear hK K hH
  have hH := hH'
  clear hH'
  have T1 := T1'
  have T2 := T2'
  clear T1' T2' hbx
  obtain ⟨d0, d1, g0, g1⟩ := T2.out
  try simp only [Act.put, List.setIfInBounds_toArray, List.set_cons_zero, List.set_cons_succ]
  refine along_bar (fun K hK => ?_)
  go_simp
  have k0 := T1.out.set_other (b' := w.heap.size + 1) (by omega) (.int .u64 Y1) (.int .u64 Y2)
  refine hK.out _ _ ⟨(hH.1.setCell (by simp) _).setCell (by simp) _, k0.1, k0.2.1⟩ (fun hH' => ?_)
  clear hK K hH
  have hH := hH'
  clear hH'
  have T3 := Lib.hid (T2.out.set Y1 Y2)
  clear k0 d0 d1 g0 g1
  try simp only [Act.put, List.setIfInBounds_toArray, List.set_cons_zero, List.set_cons_succ]
  refine along_pure ?_ (by rfl) (fun w hSw => ?_) ?_
  rotate_left
  · (try dsimp only at hSw); go_simp; try with_reducible rfl
  try simp only [Act.put, List.setIfInBounds_toArray, List.set_cons_zero, List.set_cons_succ]
  refine along_end (NoPanic.normal ?_)
  have HB := Lib.hid hH.1
  clear hH
  obtain ⟨d0, d1, -, -⟩ := T3.out
  go_wp2_with fail
  refine bodyPost_ret (v := .tuple #[cv Y1 Y2, .bool true]) (by simp [results, Try.results29, go_sem, d0, d1]) rfl ⟨rfl, HB.out⟩
set_option maxHeartbeats 1000000 in
theorem with_lo (C1 C2 G1 G2 R2 U1 U2 V1 V2 X1 X2 Y1 Y2 q D : Int)
    (HC1 : Hid (∀ w, Calls Try.prog 32 #[] w fun e w' => e = .returned (cv G1 G2) ∧ Below w.heap.size w w'))
    (HC2 : Hid (∀ w, Calls Try.prog 28 #[cv G1 G2] w fun e w' => e = .returned (.tuple #[cv C1 R2, .int .u64 5]) ∧ Below w.heap.size w w'))
    (HC3 : Hid (∀ w, Calls Try.prog 18 #[cv C1 C2, cv C1 R2] w fun e w' => e = .returned (.int .i64 q) ∧ Below w.heap.size w w'))
    (HC4 : Hid (∀ w, Calls Try.prog 15 #[cv C1 C2, .int .i64 3] w fun e w' => e = .returned (cv U1 U2) ∧ Below w.heap.size w w'))
    (HC5 : Hid (∀ w, Calls Try.prog 15 #[cv C1 C2, .int .i64 1] w fun e w' => e = .returned (cv V1 V2) ∧ Below w.heap.size w w'))
    (HC6 : Hid (∀ w, Calls Try.prog 11 #[cv U1 U2, cv V1 V2] w fun e w' => e = .returned (cv X1 X2) ∧ Below w.heap.size w w'))
    (HC7 : Hid (∀ w, Calls Try.prog 11 #[cv X1 X2, cv 0 D] w fun e w' => e = .returned (cv Y1 Y2) ∧ Below w.heap.size w w'))
    (h1 : decide (0 < q) = false) (h2 : (C2 == R2) = false) (w : World) :
    Calls Try.prog 29 #[cv C1 C2, .int .u64 D] w fun e w' => e = .returned (.tuple #[cv Y1 Y2, .bool true]) ∧ Below w.heap.size w w' := by
  go_enter Try.func29, Try.ntmps29
  go_wp2_with fail
  refine (HC1.out _).mono ?_
  rintro e w1 ⟨rfl, hb1⟩
  have T1 := Lib.hid (two_first.on hb1)
  have T2 := Lib.hid (two_second.on hb1)
  have B1 := Lib.hid (below_on (below_al (below_al (Below.refl w.heap.size w) _) _) hb1)
  clear hb1
  go_wp2_with fail
  refine (HC2.out _).mono ?_
  rintro e w2 ⟨rfl, hb2⟩
  have S1 := Lib.hid (T1.out.on hb2)
  have S2 := Lib.hid (T2.out.on hb2)
  have B2 := Lib.hid (below_on B1.out hb2)
  clear hb2 T1 T2 B1
  have l1 := S1.out.lt
  have l2 := S2.out.lt
  obtain ⟨c0, c1, f0, f1⟩ := S1.out
  obtain ⟨d0, d1, g0, g1⟩ := S2.out
  go_wp2_with fail
  refine (HC3.out _).mono ?_
  rintro e w3 ⟨rfl, hb3⟩
  have T1 := Lib.hid ((S1.out.al _).on hb3)
  have T2 := Lib.hid ((S2.out.al _).on hb3)
  have T3 := Lib.hid (two_new.on hb3)
  have B3 := Lib.hid (below_on (below_al B2.out _) hb3)
  clear hb3 S1 S2 B2 c0 c1 f0 f1 d0 d1 g0 g1 l1 l2
  have l1 := T1.out.lt
  have l2 := T2.out.lt
  obtain ⟨c0, c1, f0, f1⟩ := T1.out
  obtain ⟨d0, d1, g0, g1⟩ := T2.out
  obtain ⟨e0, e1, _, _⟩ := T3.out
  go_wp2_with fail
  have T1 := Lib.hid (show Two w3.drew w.heap.size C1 C2 from T1.out)
  have T2 := Lib.hid (show Two w3.drew (w.heap.size + 1) 0 0 from T2.out)
  clear d0 d1 g0 g1 e0 e1 l1 l2 f0 f1
  refine wp_region_noPanic ?_
  refine wp_region_along (S := fun w' => Below w.heap.size w w' ∧ w'.cell? ⟨w.heap.size, 0, none⟩ = some (.int .u64 C1) ∧ w'.cell? ⟨w.heap.size, 1, none⟩ = some (.int .u64 C2)) ([(0, true), (2, true), (5, true), (1, false), (3, false), (4, false), (6, false), (7, false), (8, false), (9, true)]) (by kernel_rfl) (by as_aux_lemma => kernel_rfl) (by kernel_rfl) (by kernel_rfl) (by as_aux_lemma => kernel_rfl) (by as_aux_lemma => kernel_rfl) (fun _ _ _ _ _ h => h) ⟨B3.out.drew, c0, c1⟩ (fun hH => ?_)
  simp only [stepsOf, pickOp]
  refine along_pure ?_ (by rfl) (fun w hSw => ?_) ?_
  rotate_left
  · (try dsimp only at hSw); go_simp; try with_reducible rfl
  try simp only [Act.put, List.setIfInBounds_toArray, List.set_cons_zero, List.set_cons_succ]
  refine along_pure ?_ (by rfl) (fun w hSw => ?_) ?_
  rotate_left
  · (try dsimp only at hSw); go_simp; try with_reducible rfl
  try simp only [Act.put, List.setIfInBounds_toArray, List.set_cons_zero, List.set_cons_succ]
  refine along_pure ?_ (by rfl) (fun w hSw => ?_) ?_
  rotate_left
  · (try dsimp only at hSw); go_simp; try with_reducible rfl
  try simp only [Act.put, List.setIfInBounds_toArray, List.set_cons_zero, List.set_cons_succ]
  refine along_bar (fun K hK => ?_)
  go_simp
  refine (HC4.out _).mono ?_
  rintro e w' ⟨rfl, hbx⟩
  try go_wp2_with fail
  have T1' := Lib.hid (T1.out.on hbx)
  have T2' := Lib.hid (T2.out.on hbx)
  refine hK.out _ _ ⟨below_on hH.1 hbx, T1'.out.1, T1'.out.2.1⟩ (fun hH' => ?_)
  clear hK K hH
  have hH := hH'
  clear hH'
  have T1 := T1'
  have T2 := T2'
  clear T1' T2' hbx
  try simp only [Act.put, List.setIfInBounds_toArray, List.set_cons_zero, List.set_cons_succ]
  refine along_bar (fun K hK => ?_)
  go_simp
  refine (HC5.out _).mono ?_
  rintro e w' ⟨rfl, hbx⟩
  try go_wp2_with fail
  have T1' := Lib.hid (T1.out.on hbx)
  have T2' := Lib.hid (T2.out.on hbx)
  refine hK.out _ _ ⟨below_on hH.1 hbx, T1'.out.1, T1'.out.2.1⟩ (fun hH' => ?_)
  clear hK K hH
  have hH := hH'
  clear hH'
  have T1 := T1'
  have T2 := T2'
  clear T1' T2' hbx
  try simp only [Act.put, List.setIfInBounds_toArray, List.set_cons_zero, List.set_cons_succ]
  refine along_bar (fun K hK => ?_)
  go_simp
  refine (HC6.out _).mono ?_
  rintro e w' ⟨rfl, hbx⟩
  try go_wp2_with fail
  have T1' := Lib.hid (T1.out.on hbx)
  have T2' := Lib.hid (T2.out.on hbx)
  refine hK.out _ _ ⟨below_on hH.1 hbx, T1'.out.1, T1'.out.2.1⟩ (fun hH' => ?_)
  clear hK K hH
  have hH := hH'
  clear hH'
  have T1 := T1'
  have T2 := T2'
  clear T1' T2' hbx
  try simp only [Act.put, List.setIfInBounds_toArray, List.set_cons_zero, List.set_cons_succ]
  refine along_bar (fun K hK => ?_)
  go_simp
  refine (of_any _ _).mono ?_
  rintro e w' ⟨rfl, hbx⟩
  try go_wp2_with fail
  have T1' := Lib.hid (T1.out.on hbx)
  have T2' := Lib.hid (T2.out.on hbx)
  refine hK.out _ _ ⟨below_on hH.1 hbx, T1'.out.1, T1'.out.2.1⟩ (fun hH' => ?_)
  clear hK K hH
  have hH := hH'
  clear hH'
  have T1 := T1'
  have T2 := T2'
  clear T1' T2' hbx
  try simp only [Act.put, List.setIfInBounds_toArray, List.set_cons_zero, List.set_cons_succ]
  refine along_bar (fun K hK => ?_)
  go_simp
  refine (HC7.out _).mono ?_
  rintro e w' ⟨rfl, hbx⟩
  try go_wp2_with fail
  have T1' := Lib.hid (T1.out.on hbx)
  have T2' := Lib.hid (T2.out.on hbx)
  refine hK.out _ _ ⟨below_on hH.1 hbx, T1'.out.1, T1'.out.2.1⟩ (fun hH' => ?_)
  clear hK K hH
  have hH := hH'
  clear hH'
  have T1 := T1'
  have T2 := T2'
  clear T1' T2' hbx
  obtain ⟨d0, d1, g0, g1⟩ := T2.out
  try simp only [Act.put, List.setIfInBounds_toArray, List.set_cons_zero, List.set_cons_succ]
  refine along_bar (fun K hK => ?_)
  go_simp
  have k0 := T1.out.set_other (b' := w.heap.size + 1) (by omega) (.int .u64 Y1) (.int .u64 Y2)
  refine hK.out _ _ ⟨(hH.1.setCell (by simp) _).setCell (by simp) _, k0.1, k0.2.1⟩ (fun hH' => ?_)
  clear hK K hH
  have hH := hH'
  clear hH'
  have T3 := Lib.hid (T2.out.set Y1 Y2)
  clear k0 d0 d1 g0 g1
  try simp only [Act.put, List.setIfInBounds_toArray, List.set_cons_zero, List.set_cons_succ]
  refine along_pure ?_ (by rfl) (fun w hSw => ?_) ?_
  rotate_left
  · (try dsimp only at hSw); go_simp; try with_reducible rfl
  try simp only [Act.put, List.setIfInBounds_toArray, List.set_cons_zero, List.set_cons_succ]
  refine along_end (NoPanic.normal ?_)
  have HB := Lib.hid hH.1
  clear hH
  obtain ⟨d0, d1, -, -⟩ := T3.out
  go_wp2_with fail
  refine bodyPost_ret (v := .tuple #[cv Y1 Y2, .bool true]) (by simp [results, Try.results29, go_sem, d0, d1]) rfl ⟨rfl, HB.out⟩
set_option maxHeartbeats 1000000 in
theorem with_eq (C1 C2 G1 G2 U1 U2 V1 V2 X1 X2 Y1 Y2 q D : Int)
    (HC1 : Hid (∀ w, Calls Try.prog 32 #[] w fun e w' => e = .returned (cv G1 G2) ∧ Below w.heap.size w w'))
    (HC2 : Hid (∀ w, Calls Try.prog 28 #[cv G1 G2] w fun e w' => e = .returned (.tuple #[cv C1 C2, .int .u64 5]) ∧ Below w.heap.size w w'))
    (HC3 : Hid (∀ w, Calls Try.prog 18 #[cv C1 C2, cv C1 C2] w fun e w' => e = .returned (.int .i64 q) ∧ Below w.heap.size w w'))
    (HC4 : Hid (∀ w, Calls Try.prog 15 #[cv C1 C2, .int .i64 3] w fun e w' => e = .returned (cv U1 U2) ∧ Below w.heap.size w w'))
    (HC5 : Hid (∀ w, Calls Try.prog 15 #[cv C1 C2, .int .i64 1] w fun e w' => e = .returned (cv V1 V2) ∧ Below w.heap.size w w'))
    (HC6 : Hid (∀ w, Calls Try.prog 11 #[cv U1 U2, cv V1 V2] w fun e w' => e = .returned (cv X1 X2) ∧ Below w.heap.size w w'))
    (HC7 : Hid (∀ w, Calls Try.prog 11 #[cv X1 X2, cv 0 D] w fun e w' => e = .returned (cv Y1 Y2) ∧ Below w.heap.size w w'))
    (h1 : decide (0 < q) = false) (h2 : decide (5 < D) = false) (w : World) :
    Calls Try.prog 29 #[cv C1 C2, .int .u64 D] w fun e w' => e = .returned (.tuple #[cv Y1 Y2, .bool true]) ∧ Below w.heap.size w w' := by
  go_enter Try.func29, Try.ntmps29
  go_wp2_with fail
  refine (HC1.out _).mono ?_
  rintro e w1 ⟨rfl, hb1⟩
  have T1 := Lib.hid (two_first.on hb1)
  have T2 := Lib.hid (two_second.on hb1)
  have B1 := Lib.hid (below_on (below_al (below_al (Below.refl w.heap.size w) _) _) hb1)
  clear hb1
  go_wp2_with fail
  refine (HC2.out _).mono ?_
  rintro e w2 ⟨rfl, hb2⟩
  have S1 := Lib.hid (T1.out.on hb2)
  have S2 := Lib.hid (T2.out.on hb2)
  have B2 := Lib.hid (below_on B1.out hb2)
  clear hb2 T1 T2 B1
  have l1 := S1.out.lt
  have l2 := S2.out.lt
  obtain ⟨c0, c1, f0, f1⟩ := S1.out
  obtain ⟨d0, d1, g0, g1⟩ := S2.out
  go_wp2_with fail
  refine (HC3.out _).mono ?_
  rintro e w3 ⟨rfl, hb3⟩
  have T1 := Lib.hid ((S1.out.al _).on hb3)
  have T2 := Lib.hid ((S2.out.al _).on hb3)
  have T3 := Lib.hid (two_new.on hb3)
  have B3 := Lib.hid (below_on (below_al B2.out _) hb3)
  clear hb3 S1 S2 B2 c0 c1 f0 f1 d0 d1 g0 g1 l1 l2
  have l1 := T1.out.lt
  have l2 := T2.out.lt
  obtain ⟨c0, c1, f0, f1⟩ := T1.out
  obtain ⟨d0, d1, g0, g1⟩ := T2.out
  obtain ⟨e0, e1, _, _⟩ := T3.out
  go_wp2_with fail
  have T1 := Lib.hid (show Two w3.drew w.heap.size C1 C2 from T1.out)
  have T2 := Lib.hid (show Two w3.drew (w.heap.size + 1) 0 0 from T2.out)
  clear d0 d1 g0 g1 e0 e1 l1 l2 f0 f1
  refine wp_region_noPanic ?_
  refine wp_region_along (S := fun w' => Below w.heap.size w w' ∧ w'.cell? ⟨w.heap.size, 0, none⟩ = some (.int .u64 C1) ∧ w'.cell? ⟨w.heap.size, 1, none⟩ = some (.int .u64 C2)) ([(0, true), (2, true), (5, true), (1, false), (3, false), (4, false), (6, false), (7, false), (8, false), (9, true)]) (by kernel_rfl) (by as_aux_lemma => kernel_rfl) (by kernel_rfl) (by kernel_rfl) (by as_aux_lemma => kernel_rfl) (by as_aux_lemma => kernel_rfl) (fun _ _ _ _ _ h => h) ⟨B3.out.drew, c0, c1⟩ (fun hH => ?_)
  simp only [stepsOf, pickOp]
  refine along_pure ?_ (by rfl) (fun w hSw => ?_) ?_
  rotate_left
  · (try dsimp only at hSw); go_simp; try with_reducible rfl
  try simp only [Act.put, List.setIfInBounds_toArray, List.set_cons_zero, List.set_cons_succ]
  refine along_pure ?_ (by rfl) (fun w hSw => ?_) ?_
  rotate_left
  · (try dsimp only at hSw); go_simp; try with_reducible rfl
  try simp only [Act.put, List.setIfInBounds_toArray, List.set_cons_zero, List.set_cons_succ]
  refine along_pure ?_ (by rfl) (fun w hSw => ?_) ?_
  rotate_left
  · (try dsimp only at hSw); go_simp; try with_reducible rfl
  try simp only [Act.put, List.setIfInBounds_toArray, List.set_cons_zero, List.set_cons_succ]
  refine along_bar (fun K hK => ?_)
  go_simp
  refine (HC4.out _).mono ?_
  rintro e w' ⟨rfl, hbx⟩
  try go_wp2_with fail
  have T1' := Lib.hid (T1.out.on hbx)
  have T2' := Lib.hid (T2.out.on hbx)
  refine hK.out _ _ ⟨below_on hH.1 hbx, T1'.out.1, T1'.out.2.1⟩ (fun hH' => ?_)
  clear hK K hH
  have hH := hH'
  clear hH'
  have T1 := T1'
  have T2 := T2'
  clear T1' T2' hbx
  try simp only [Act.put, List.setIfInBounds_toArray, List.set_cons_zero, List.set_cons_succ]
  refine along_bar (fun K hK => ?_)
  go_simp
  refine (HC5.out _).mono ?_
  rintro e w' ⟨rfl, hbx⟩
  try go_wp2_with fail
  have T1' := Lib.hid (T1.out.on hbx)
  have T2' := Lib.hid (T2.out.on hbx)
  refine hK.out _ _ ⟨below_on hH.1 hbx, T1'.out.1, T1'.out.2.1⟩ (fun hH' => ?_)
  clear hK K hH
  have hH := hH'
  clear hH'
  have T1 := T1'
  have T2 := T2'
  clear T1' T2' hbx
  try simp only [Act.put, List.setIfInBounds_toArray, List.set_cons_zero, List.set_cons_succ]
  refine along_bar (fun K hK => ?_)
  go_simp
  refine (HC6.out _).mono ?_
  rintro e w' ⟨rfl, hbx⟩
  try go_wp2_with fail
  have T1' := Lib.hid (T1.out.on hbx)
  have T2' := Lib.hid (T2.out.on hbx)
  refine hK.out _ _ ⟨below_on hH.1 hbx, T1'.out.1, T1'.out.2.1⟩ (fun hH' => ?_)
  clear hK K hH
  have hH := hH'
  clear hH'
  have T1 := T1'
  have T2 := T2'
  clear T1' T2' hbx
  try simp only [Act.put, List.setIfInBounds_toArray, List.set_cons_zero, List.set_cons_succ]
  refine along_bar (fun K hK => ?_)
  go_simp
  refine (of_any _ _).mono ?_
  rintro e w' ⟨rfl, hbx⟩
  try go_wp2_with fail
  have T1' := Lib.hid (T1.out.on hbx)
  have T2' := Lib.hid (T2.out.on hbx)
  refine hK.out _ _ ⟨below_on hH.1 hbx, T1'.out.1, T1'.out.2.1⟩ (fun hH' => ?_)
  clear hK K hH
  have hH := hH'
  clear hH'
  have T1 := T1'
  have T2 := T2'
  clear T1' T2' hbx
  try simp only [Act.put, List.setIfInBounds_toArray, List.set_cons_zero, List.set_cons_succ]
  refine along_bar (fun K hK => ?_)
  go_simp
  refine (HC7.out _).mono ?_
  rintro e w' ⟨rfl, hbx⟩
  try go_wp2_with fail
  have T1' := Lib.hid (T1.out.on hbx)
  have T2' := Lib.hid (T2.out.on hbx)
  refine hK.out _ _ ⟨below_on hH.1 hbx, T1'.out.1, T1'.out.2.1⟩ (fun hH' => ?_)
  clear hK K hH
  have hH := hH'
  clear hH'
  have T1 := T1'
  have T2 := T2'
  clear T1' T2' hbx
  obtain ⟨d0, d1, g0, g1⟩ := T2.out
  try simp only [Act.put, List.setIfInBounds_toArray, List.set_cons_zero, List.set_cons_succ]
  refine along_bar (fun K hK => ?_)
  go_simp
  have k0 := T1.out.set_other (b' := w.heap.size + 1) (by omega) (.int .u64 Y1) (.int .u64 Y2)
  refine hK.out _ _ ⟨(hH.1.setCell (by simp) _).setCell (by simp) _, k0.1, k0.2.1⟩ (fun hH' => ?_)
  clear hK K hH
  have hH := hH'
  clear hH'
  have T3 := Lib.hid (T2.out.set Y1 Y2)
  clear k0 d0 d1 g0 g1
  try simp only [Act.put, List.setIfInBounds_toArray, List.set_cons_zero, List.set_cons_succ]
  refine along_pure ?_ (by rfl) (fun w hSw => ?_) ?_
  rotate_left
  · (try dsimp only at hSw); go_simp; try with_reducible rfl
  try simp only [Act.put, List.setIfInBounds_toArray, List.set_cons_zero, List.set_cons_succ]
  refine along_end (NoPanic.normal ?_)
  have HB := Lib.hid hH.1
  clear hH
  obtain ⟨d0, d1, -, -⟩ := T3.out
  go_wp2_with fail
  refine bodyPost_ret (v := .tuple #[cv Y1 Y2, .bool true]) (by simp [results, Try.results29, go_sem, d0, d1]) rfl ⟨rfl, HB.out⟩
theorem RR_spec (c d : Nat) (hd : d ≤ 9) : (RR < c ∨ c = RR ∧ 5 < d) ↔ MM ≤ c * 10 + d := by unfold RR MM; omega
theorem RR_lt : RR < MM := by decide
theorem with_ok (c d : Nat) (hd : d ≤ 9) (h : c * 10 + d < MM) (w : World) :
    Calls Try.prog 29 #[cn c, .int .u64 (d : Int)] w fun e w' => e = .returned (.tuple #[cn (c * 10 + d), .bool true]) ∧ Below w.heap.size w w' := by
  have hc : c < MM := by omega
  have hs := mt (RR_spec c d hd).1 (by omega)
  have hd' : d < MM := by have : 10 ≤ MM := by decide
                          omega
  have a7 : ∀ w, Calls Try.prog 11 #[cn (ad (upI c 3) (upI c 1)), cv 0 (d : Int)] w fun e w' => e = .returned (cn (c * 10 + d)) ∧ Below w.heap.size w w' := fun w => by
    have := add_ad (ad (upI c 3) (upI c 1)) d (ad_lt _ _) hd' w
    rw [ten_up c d hd h] at this
    rw [show cv 0 (d : Int) = cn d from by rw [cn, hi_small d (by omega), lo_small d (by omega)]]
    exact this
  have nq : decide (0 < cmpN c RR) = false := by
    have h0 : ¬ RR < c := fun h => hs (Or.inl h)
    have h1 : cmpN c RR ≤ 0 := by
      unfold cmpN
      rw [if_neg h0]
      split <;> omega
    simp; omega
  by_cases e1 : hi c = hi RR
  · by_cases e2 : lo c = lo RR
    · have e := hl_inj e1 e2
      have h5 : decide (5 < (d : Int)) = false := by simp; omega
      subst e
      exact with_eq _ _ _ _ _ _ _ _ _ _ _ _ _ _ (fun w => great_any w) (fun w => great_split w) (fun w => cmp_any RR RR w) (fun w => up_any RR 3 hc w) (fun w => up_any RR 1 hc w) (fun w => add_ad _ _ (upI_lt _ _) (upI_lt _ _) w) (fun w => a7 w) nq h5 w
    · have a2 : ∀ w, Calls Try.prog 28 #[cn (MM - 1)] w fun e w' => e = .returned (.tuple #[cv (hi c) (lo RR), .int .u64 5]) ∧ Below w.heap.size w w' := fun w => by rw [e1]; exact great_split w
      have a3 : ∀ w, Calls Try.prog 18 #[cn c, cv (hi c) (lo RR)] w fun e w' => e = .returned (.int .i64 (cmpN c RR)) ∧ Below w.heap.size w w' := fun w => by
        rw [show cv (hi c) (lo RR) = cn RR from by rw [e1]]
        exact cmp_any c RR w
      exact with_lo _ _ _ _ (lo RR) _ _ _ _ _ _ _ _ _ _ (fun w => great_any w) (fun w => a2 w) (fun w => a3 w) (fun w => up_any c 3 hc w) (fun w => up_any c 1 hc w) (fun w => add_ad _ _ (upI_lt _ _) (upI_lt _ _) w) (fun w => a7 w) nq (by simp; exact e2) w
  · exact with_hi _ _ _ _ (hi RR) (lo RR) _ _ _ _ _ _ _ _ _ _ (fun w => great_any w) (fun w => great_split w) (fun w => cmp_any c RR w) (fun w => up_any c 3 hc w) (fun w => up_any c 1 hc w) (fun w => add_ad _ _ (upI_lt _ _) (upI_lt _ _) w) (fun w => a7 w) nq (by simp; exact e1) w
theorem with_no (c d : Nat) (hc : c < MM) (hd : d ≤ 9) (h : MM ≤ c * 10 + d) (w : World) :
    Calls Try.prog 29 #[cn c, .int .u64 (d : Int)] w fun e w' => e = .returned (.tuple #[cv 0 0, .bool false]) ∧ Below w.heap.size w w' := by
  rcases (RR_spec c d hd).2 h with h1 | ⟨h1, h2⟩
  · have nq : decide (0 < cmpN c RR) = true := by unfold cmpN; rw [if_neg (by omega), if_pos h1]; rfl
    exact with_above _ _ _ _ _ _ _ _ (fun w => great_any w) (fun w => great_split w) (fun w => cmp_any c RR w) nq w
  · subst h1
    have nq : decide (0 < cmpN RR RR) = false := by unfold cmpN; rw [if_neg (by omega), if_neg (by omega)]; rfl
    exact with_digit _ _ _ _ _ _ (fun w => great_any w) (fun w => great_split w) (fun w => cmp_any RR RR w) nq (by simp; omega) w
end Go.Proofs.Yteinkjlnofmalaa
