/- The document's example; TopoChecks' call answers true. -/
import Derived.Test.YtgbphocmnpjjpabT7
import Derived.Test.YtgbphocmnpjjpabT8
namespace Go.Proofs.Ytgbphocmnpjjpab
open Go.RowKit
set_option linter.unusedVariables false

set_option maxRecDepth 100000 in
set_option maxHeartbeats 2000000 in
theorem tawake_any (w : World) : Calls Try.prog 8 #[] w fun e w' => e = .returned (.bool true) ∧ Below w.heap.size w w' := by
  have CP : Hid (∀ W, Rw W (some ⟨w.heap.size + 1, 0, none⟩) ([(⟨0, 0, 1, 0⟩ : Lk)].flatMap Lk.cells) → Calls Try.prog 13 #[tv (some ⟨w.heap.size, 0, none⟩) 2 2 (some ⟨w.heap.size + 1, 0, none⟩) 1 1 none 0 0, .int .i64 0, .int .i64 0] W fun e w' => e = .returned (.tuple #[.int .i64 1, .int .i64 0, .bool true]) ∧ Below W.heap.size W w') := fun W h =>
    peer_any [⟨0, 0, 1, 0⟩] (some ⟨w.heap.size, 0, none⟩) 2 2 (some ⟨w.heap.size + 1, 0, none⟩) 1 none 0 0 0 0 W h (by decide)
  have CC : Hid (∀ W, Rw W (some ⟨w.heap.size, 0, none⟩) (ints [1, 1]) → Rw W (some ⟨w.heap.size + 1, 0, none⟩) ([(⟨0, 0, 1, 0⟩ : Lk)].flatMap Lk.cells) → Calls Try.prog 9 #[tv (some ⟨w.heap.size, 0, none⟩) 2 2 (some ⟨w.heap.size + 1, 0, none⟩) 1 1 none 0 0] W fun e w' => e = .returned (.int .i64 0) ∧ Below W.heap.size W w') := fun W h1 h2 => by
    have c := tcheck_any [1, 1] [⟨0, 0, 1, 0⟩] [] (some ⟨w.heap.size, 0, none⟩) 2 (some ⟨w.heap.size + 1, 0, none⟩) 1 none 0 W (fun c hc => by simp at hc; subst hc; exact ⟨⟨by decide, by decide⟩, ⟨by decide, by decide⟩⟩) (by simp) h1 h2 (fun j v hv => by simp at hv) (by decide) (by decide) (by decide)
    rw [show TP.chk ⟨[1, 1], [⟨0, 0, 1, 0⟩], []⟩ = 0 by decide +kernel] at c
    exact c
  unfold tv at CP CC
  go_enter Try.func8, Try.ntmps8
  go_upto_region 2 with fail
  refine at_code (S := fun W => Blk W (w.heap.size + 1 + 1) [.slice (some ⟨w.heap.size, 0, none⟩) 2 2, .slice (some ⟨w.heap.size + 1, 0, none⟩) 1 1, .slice none 0 0] ∧ Rw W (some ⟨w.heap.size, 0, none⟩) (ints [1, 1]) ∧ Rw W (some ⟨w.heap.size + 1, 0, none⟩) ([(⟨0, 0, 1, 0⟩ : Lk)].flatMap Lk.cells) ∧ Below w.heap.size w W) ?_ (fun W1 hW => ?_)
  · refine ⟨⟨fun i v hv => ?_, fun i v hv => ?_⟩, fun j v hv => ⟨_, _, rfl, ?_⟩, fun j v hv => ⟨_, _, rfl, ?_⟩, ?_⟩
    · match i, hv with
      | 0, hv => cases hv; simp [go_sem]
      | 1, hv => cases hv; simp [go_sem]
      | 2, hv => cases hv; simp [go_sem]
    · match i, hv with
      | 0, hv => cases hv; simp [go_sem]
      | 1, hv => cases hv; simp [go_sem]
      | 2, hv => cases hv; simp [go_sem]
    · match j, hv with
      | 0, hv => cases hv; simp [go_sem]
      | 1, hv => cases hv; simp [go_sem]
    · match j, hv with
      | 0, hv => cases hv; simp [go_sem]
      | 1, hv => cases hv; simp [go_sem]
      | 2, hv => cases hv; simp [go_sem]
      | 3, hv => cases hv; simp [go_sem]
    · repeat (first | exact Below.refl _ _ | refine cbelow_al ?_ _)
  obtain ⟨hT, hP, hL, hB⟩ := hW
  have T1 := Lib.hid hT
  have P1 := Lib.hid hP
  have L1 := Lib.hid hL
  have B1 := Lib.hid hB
  clear hT hP hL hB
  obtain ⟨t_0, t_1, t_2⟩ : _ ∧ _ ∧ _ := ⟨T1.out.1 0 _ rfl, T1.out.1 1 _ rfl, T1.out.1 2 _ rfl⟩
  go_wp2_with fail
  refine (CP.out _ L1.out).mono ?_
  rintro e w2 ⟨rfl, hb⟩
  have T2 := Lib.hid (T1.out.on hb)
  have P2 := Lib.hid (P1.out.on hb)
  have L2 := Lib.hid (L1.out.on hb)
  have B2 := Lib.hid (cbelow_on B1.out hb)
  clear hb t_0 t_1 t_2 T1 P1 L1 B1 CP
  obtain ⟨t_0, t_1, t_2⟩ : _ ∧ _ ∧ _ := ⟨T2.out.1 0 _ rfl, T2.out.1 1 _ rfl, T2.out.1 2 _ rfl⟩
  go_wp2_with fail
  refine (CC.out _ P2.out L2.out).mono ?_
  rintro e w3 ⟨rfl, hb⟩
  have B3 := Lib.hid (cbelow_on B2.out hb)
  clear hb
  go_wp2
  go_ret
  exact ⟨rfl, B3.out⟩
/-- What a topology that is handed in is, and how it lies in memory. -/
structure Tp (w : World) (v : Value) (ps : List Int) (ls : List Lk) (es : List Ac) (pa : Option Addr) (pc : Nat) (la : Option Addr) (lc : Nat) (aa : Option Addr) (ac : Nat) : Prop where
  v : v = tv pa ps.length pc la ls.length lc aa es.length ac
  p : Rw w pa (ints ps)
  l : Rw w la (ls.flatMap Lk.cells)
  e : Rw w aa (es.flatMap Ac.cells)
  lok : ∀ c ∈ ls, c.Ok
  eok : ∀ c ∈ es, c.Ok
set_option maxRecDepth 100000 in
set_option maxHeartbeats 2000000 in
theorem tchecks_core (pa : Option Addr) (np pc : Nat) (la : Option Addr) (nl lc : Nat) (aa : Option Addr) (na ac : Nat) (d p R Q : Int) (P : World → Prop) (HP : Hid (∀ W w, P W → Below W.heap.size W w → P w))
    (LI : Hid (∀ w, Calls Try.prog 7 #[tv pa np pc la nl lc aa na ac] w fun e w' => e = .returned (.bool true) ∧ Below w.heap.size w w'))
    (AW : Hid (∀ w, Calls Try.prog 8 #[] w fun e w' => e = .returned (.bool true) ∧ Below w.heap.size w w'))
    (TC : Hid (∀ w, P w → Calls Try.prog 9 #[tv pa np pc la nl lc aa na ac] w fun e w' => e = .returned (.int .i64 R) ∧ Below w.heap.size w w'))
    (RC : Hid (∀ w, P w → Calls Try.prog 10 #[tv pa np pc la nl lc aa na ac] w fun e w' => e = .returned (.int .i64 R) ∧ Below w.heap.size w w'))
    (PT : Hid (∀ w, P w → Calls Try.prog 11 #[tv pa np pc la nl lc aa na ac, .int .i64 d, .int .i64 p] w fun e w' => e = .returned (.int .i64 Q) ∧ Below w.heap.size w w'))
    (RP : Hid (∀ w, P w → Calls Try.prog 12 #[tv pa np pc la nl lc aa na ac, .int .i64 d, .int .i64 p] w fun e w' => e = .returned (.int .i64 Q) ∧ Below w.heap.size w w'))
    (w : World) (hw : P w) : Calls Try.prog 3 #[tv pa np pc la nl lc aa na ac, .int .i64 d, .int .i64 p] w fun e w' => e = .returned (.bool true) ∧ Below w.heap.size w w' := by
  obtain ⟨W0, hW0⟩ : ∃ W0, w.alloc (Obj.cells (tc pa np pc la nl lc aa na ac).toArray 26) = W0 := ⟨_, rfl⟩
  have B0 := Lib.hid (show Below w.heap.size w W0 by rw [← hW0]; exact cbelow_al (Below.refl _ _) _)
  have T0 := Lib.hid (show Blk W0 w.heap.size (tc pa np pc la nl lc aa na ac) by rw [← hW0]; exact Blk.new _ _ _)
  have hP0 := Lib.hid (HP.out _ _ hw B0.out)
  clear hw
  unfold tc at *
  unfold tv at *
  go_enter Try.func3, Try.ntmps3
  go_upto_region 1 with fail
  clear hW0
  obtain ⟨t_0, t_1, t_2⟩ : _ ∧ _ ∧ _ := ⟨T0.out.1 0 _ rfl, T0.out.1 1 _ rfl, T0.out.1 2 _ rfl⟩
  go_wp2_with fail
  refine (LI.out _).mono ?_
  rintro e W1 ⟨rfl, hb⟩
  have T1 := Lib.hid (T0.out.on hb)
  have B1 := Lib.hid (cbelow_on B0.out hb)
  have hP1 := Lib.hid (HP.out _ _ hP0.out hb)
  clear hb t_0 t_1 t_2 T0 B0 hP0
  obtain ⟨t_0, t_1, t_2⟩ : _ ∧ _ ∧ _ := ⟨T1.out.1 0 _ rfl, T1.out.1 1 _ rfl, T1.out.1 2 _ rfl⟩
  go_upto_region 3 with fail
  refine wp_region_noPanic ?_
  refine wp_region_along (S := fun w' => Below W1.heap.size W1 w' ∧ ∀ b o, (W1.cell? ⟨b, o, none⟩).isSome = true → w'.cell? ⟨b, o, none⟩ = W1.cell? ⟨b, o, none⟩) ([(0, false), (1, true), (2, true), (4, true), (3, false), (5, false), (6, true), (7, true), (8, true), (9, true), (10, true), (11, true), (13, true), (14, true), (15, true), (12, false)] ++ ([(16, false), (17, true), (18, true), (19, true)])) (by kernel_rfl) (by as_aux_lemma => kernel_rfl) (by kernel_rfl) (by kernel_rfl) (alongPre_append _ _ _ (by as_aux_lemma => kernel_rfl) (by as_aux_lemma => kernel_rfl)) (by as_aux_lemma => kernel_rfl) (fun _ _ _ _ _ h => h) (ckeep (Below.refl _ _).drew) (fun hH => ?_)
  simp only [List.cons_append, List.nil_append, stepsOf, pickOp]
  refine along_bar (fun K hK => ?_)
  go_simp
  refine (AW.out _).mono ?_
  rintro e w' ⟨rfl, hbx⟩
  try go_wp2_with fail
  refine hK.out _ _ (ckeep (cbelow_on hH.1 hbx)) (fun hH' => ?_)
  clear hK K hH
  have hH := hH'
  clear hH'
  clear hbx
  try simp only [Act.put, List.setIfInBounds_toArray, List.set_cons_zero, List.set_cons_succ]
  iterate 3 (first | (refine along_skip (by rfl) ?_; try simp only [Act.put, List.setIfInBounds_toArray, List.set_cons_zero, List.set_cons_succ]) | (refine along_pure ?_ (by rfl) (fun w hSw => ?_) ?_; rotate_left; ((try dsimp only at hSw); go_simp; try with_reducible rfl); try simp only [Act.put, List.setIfInBounds_toArray, List.set_cons_zero, List.set_cons_succ]))
  refine along_bar (fun K hK => ?_)
  go_simp
  refine (TC.out _ (HP.out _ _ hP1.out hH.1)).mono ?_
  rintro e w' ⟨rfl, hbx⟩
  try go_wp2_with fail
  refine hK.out _ _ (ckeep (cbelow_on hH.1 hbx)) (fun hH' => ?_)
  clear hK K hH
  have hH := hH'
  clear hH'
  clear hbx
  try simp only [Act.put, List.setIfInBounds_toArray, List.set_cons_zero, List.set_cons_succ]
  refine along_bar (fun K hK => ?_)
  go_simp
  refine (RC.out _ (HP.out _ _ hP1.out hH.1)).mono ?_
  rintro e w' ⟨rfl, hbx⟩
  try go_wp2_with fail
  refine hK.out _ _ (ckeep (cbelow_on hH.1 hbx)) (fun hH' => ?_)
  clear hK K hH
  have hH := hH'
  clear hH'
  clear hbx
  try simp only [Act.put, List.setIfInBounds_toArray, List.set_cons_zero, List.set_cons_succ]
  iterate 9 (first | (refine along_skip (by rfl) ?_; try simp only [Act.put, List.setIfInBounds_toArray, List.set_cons_zero, List.set_cons_succ]) | (refine along_pure ?_ (by rfl) (fun w hSw => ?_) ?_; rotate_left; ((try dsimp only at hSw); go_simp; try with_reducible rfl); try simp only [Act.put, List.setIfInBounds_toArray, List.set_cons_zero, List.set_cons_succ]))
  refine along_bar (fun K hK => ?_)
  go_simp
  refine (PT.out _ (HP.out _ _ hP1.out hH.1)).mono ?_
  rintro e w' ⟨rfl, hbx⟩
  try go_wp2_with fail
  refine hK.out _ _ (ckeep (cbelow_on hH.1 hbx)) (fun hH' => ?_)
  clear hK K hH
  have hH := hH'
  clear hH'
  clear hbx
  try simp only [Act.put, List.setIfInBounds_toArray, List.set_cons_zero, List.set_cons_succ]
  refine along_bar (fun K hK => ?_)
  go_simp
  refine (RP.out _ (HP.out _ _ hP1.out hH.1)).mono ?_
  rintro e w' ⟨rfl, hbx⟩
  try go_wp2_with fail
  refine hK.out _ _ (ckeep (cbelow_on hH.1 hbx)) (fun hH' => ?_)
  clear hK K hH
  have hH := hH'
  clear hH'
  clear hbx
  try simp only [Act.put, List.setIfInBounds_toArray, List.set_cons_zero, List.set_cons_succ]
  iterate 3 (first | (refine along_skip (by rfl) ?_; try simp only [Act.put, List.setIfInBounds_toArray, List.set_cons_zero, List.set_cons_succ]) | (refine along_pure ?_ (by rfl) (fun w hSw => ?_) ?_; rotate_left; ((try dsimp only at hSw); go_simp; try with_reducible rfl); try simp only [Act.put, List.setIfInBounds_toArray, List.set_cons_zero, List.set_cons_succ]))
  refine along_end (NoPanic.normal ?_)
  have B2 := Lib.hid (cbelow_on B1.out hH.1)
  clear hH
  go_wp2
  go_ret
  exact ⟨rfl, B2.out⟩
set_option maxHeartbeats 400000 in
theorem tchecks_any (v : Value) (ps : List Int) (ls : List Lk) (es : List Ac) (pa : Option Addr) (pc : Nat) (la : Option Addr) (lc : Nat) (aa : Option Addr) (ac : Nat) (d p : Int) (w : World) (h : Tp w v ps ls es pa pc la lc aa ac) :
    Calls Try.prog 3 #[v, .int .i64 d, .int .i64 p] w fun e w' => e = .returned (.bool true) ∧ Below w.heap.size w w' := by
  obtain ⟨rfl, hp, hl, he, ol, oe⟩ := h
  by_cases c : ps.length ≤ 40 ∧ ls.length ≤ 100 ∧ es.length ≤ 60
  · obtain ⟨c1, c2, c3⟩ := c
    refine tchecks_core pa ps.length pc la ls.length lc aa es.length ac d p (TP.chk ⟨ps, ls, es⟩) (portE ps d p) (fun w => Rw w pa (ints ps) ∧ Rw w la (ls.flatMap Lk.cells) ∧ Rw w aa (es.flatMap Ac.cells)) (fun _ _ h hb => ⟨h.1.on hb, h.2.1.on hb, h.2.2.on hb⟩)
      (fun w => ?_) (fun w => tawake_any w) (fun w h => tcheck_any ps ls es pa pc la lc aa ac w ol oe h.1 h.2.1 h.2.2 (by omega) (by omega) (by omega)) (fun w h => rcheck_any ps ls es pa pc la lc aa ac w oe h.1 h.2.1 h.2.2 (by omega) (by omega) (by omega))
      (fun w h => port_any ps pa pc la ls.length lc aa es.length ac d p w h.1) (fun w h => rport_any ps pa pc la ls.length lc aa es.length ac d p w h.1) w ⟨hp, hl, he⟩
    have k := light_any pa ps.length pc la ls.length lc aa es.length ac w
    rw [decide_eq_true c1, decide_eq_true c2, decide_eq_true c3] at k
    exact k
  · have k := light_any pa ps.length pc la ls.length lc aa es.length ac
    have e : (decide (ps.length ≤ 40) && decide (ls.length ≤ 100) && decide (es.length ≤ 60)) = false := by
      rw [Bool.eq_false_iff]; intro q; simp at q; exact c ⟨q.1.1, q.1.2, q.2⟩
    rw [e] at k
    have LI := Lib.hid k
    clear k
    unfold tv at *
    go_enter Try.func3, Try.ntmps3
    go_wp2_with fail
    refine (LI.out _).mono ?_
    rintro e w1 ⟨rfl, hb1⟩
    have B1 := Lib.hid hb1
    clear hb1
    go_wp2_with fail
    refine (tawake_any _).mono ?_
    rintro x w2 ⟨rfl, hb2⟩
    go_wp2
    go_ret
    exact ⟨rfl, cbelow_on (cbelow_on (cbelow_al (Below.refl _ _) _) B1.out) hb2⟩
end Go.Proofs.Ytgbphocmnpjjpab
