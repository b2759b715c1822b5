/- Whether all of a set is another one's: the walks (typed by gen/mksw1.py). -/
import Derived.Test.YteiemcnjcdjglaaGSW0
import Derived.Test.YteiemcnjcdjglaaGS8
namespace Go.Proofs.Yteiemcnjcdjglaa
open Go.RowKit
set_option linter.unusedVariables false
set_option linter.unusedSimpArgs false

set_option maxRecDepth 100000 in
set_option maxHeartbeats 8000000 in
theorem within_t1 (p : Value) (f g db : Nat) (hf : f = 0) (W : World) :
    Calls Try.prog 50 #[p, .agg #[.int .i64 (f : Nat), .int .i64 (g : Nat)], .map (some db)] W fun e w' => e = .returned (.bool true) ∧ Below W.heap.size W w' := by
  have h1 : (f : Int) = 0 := by omega
  subst hf
  go_enter Try.func50, Try.ntmps50
  go_upto_region 1 with fail
  refine at_code (S := fun w1 => Blk w1 W.heap.size [.int .i64 ((0 : Nat) : Nat), .int .i64 (g : Nat)] ∧ Below W.heap.size W w1) ⟨Blk.new _ _ _, bel_al (Below.refl _ _) _⟩ (fun W1 hW => ?_)
  obtain ⟨hX, hb⟩ := hW
  have X1 := Lib.hid hX
  have B1 := Lib.hid hb
  clear hX hb
  obtain ⟨x_0, x_1⟩ := cells2 X1.out
  refine wp_region_noPanic ?_
  refine wp_region_along (S := fun w' => w' = W1.drew) ([(0, true), (1, true), (2, true), (3, true), (4, true), (5, true)]) (by kernel_rfl) (by as_aux_lemma => kernel_rfl) (by kernel_rfl) (by kernel_rfl) (by as_aux_lemma => kernel_rfl) (by as_aux_lemma => kernel_rfl) (fun _ _ _ _ _ h => h) rfl (fun hH => ?_)
  simp only [stepsOf, pickOp]
  iterate 6 (refine along_pure ?_ (by rfl) (fun w hSw => ?_) ?_; rotate_left; (obtain rfl := hSw; go_simp; try with_reducible rfl); try simp only [Act.put, List.setIfInBounds_toArray, List.set_cons_zero, List.set_cons_succ])
  refine along_end (NoPanic.normal ?_)
  clear hH
  obtain ⟨W2, hW2⟩ : ∃ x, x = W1.drew := ⟨_, rfl⟩
  have X2 := Lib.hid (show Blk W2 W.heap.size [.int .i64 ((0 : Nat) : Nat), .int .i64 (g : Nat)] by rw [hW2]; exact X1.out.drew)
  have B2 := Lib.hid (show Below W.heap.size W W2 by rw [hW2]; exact bel_on' B1.out (Below.refl _ _).drew)
  rw [← hW2]
  clear hW2 X1 B1 x_0 x_1
  clear h1
  go_wp2
  go_ret
  exact ⟨rfl, B2.out⟩
set_option maxRecDepth 100000 in
set_option maxHeartbeats 8000000 in
theorem within_t2 (p : Value) (f g db : Nat) (h1 : ((f : Int) == 0) = false) (hg : g = 1) (W : World) :
    Calls Try.prog 50 #[p, .agg #[.int .i64 (f : Nat), .int .i64 (g : Nat)], .map (some db)] W fun e w' => e = .returned (.bool true) ∧ Below W.heap.size W w' := by
  subst hg
  go_enter Try.func50, Try.ntmps50
  go_upto_region 1 with fail
  refine at_code (S := fun w1 => Blk w1 W.heap.size [.int .i64 (f : Nat), .int .i64 ((1 : Nat) : Nat)] ∧ Below W.heap.size W w1) ⟨Blk.new _ _ _, bel_al (Below.refl _ _) _⟩ (fun W1 hW => ?_)
  obtain ⟨hX, hb⟩ := hW
  have X1 := Lib.hid hX
  have B1 := Lib.hid hb
  clear hX hb
  obtain ⟨x_0, x_1⟩ := cells2 X1.out
  refine wp_region_noPanic ?_
  refine wp_region_along (S := fun w' => w' = W1.drew) ([(0, true), (1, true), (2, true), (3, true), (4, true), (5, true)]) (by kernel_rfl) (by as_aux_lemma => kernel_rfl) (by kernel_rfl) (by kernel_rfl) (by as_aux_lemma => kernel_rfl) (by as_aux_lemma => kernel_rfl) (fun _ _ _ _ _ h => h) rfl (fun hH => ?_)
  simp only [stepsOf, pickOp]
  iterate 6 (refine along_pure ?_ (by rfl) (fun w hSw => ?_) ?_; rotate_left; (obtain rfl := hSw; go_simp; try with_reducible rfl); try simp only [Act.put, List.setIfInBounds_toArray, List.set_cons_zero, List.set_cons_succ])
  refine along_end (NoPanic.normal ?_)
  clear hH
  obtain ⟨W2, hW2⟩ : ∃ x, x = W1.drew := ⟨_, rfl⟩
  have X2 := Lib.hid (show Blk W2 W.heap.size [.int .i64 (f : Nat), .int .i64 ((1 : Nat) : Nat)] by rw [hW2]; exact X1.out.drew)
  have B2 := Lib.hid (show Below W.heap.size W W2 by rw [hW2]; exact bel_on' B1.out (Below.refl _ _).drew)
  rw [← hW2]
  clear hW2 X1 B1 x_0 x_1
  go_wp2
  go_ret
  exact ⟨rfl, B2.out⟩
set_option maxRecDepth 100000 in
set_option maxHeartbeats 8000000 in
theorem within_t3 (p : Value) (f g db : Nat) (h1 : ((f : Int) == 0) = false) (h2 : ((f : Int) == 1) = false) (hg : g = f) (W : World) :
    Calls Try.prog 50 #[p, .agg #[.int .i64 (f : Nat), .int .i64 (g : Nat)], .map (some db)] W fun e w' => e = .returned (.bool true) ∧ Below W.heap.size W w' := by
  subst hg
  go_enter Try.func50, Try.ntmps50
  go_upto_region 1 with fail
  refine at_code (S := fun w1 => Blk w1 W.heap.size [.int .i64 (g : Nat), .int .i64 (g : Nat)] ∧ Below W.heap.size W w1) ⟨Blk.new _ _ _, bel_al (Below.refl _ _) _⟩ (fun W1 hW => ?_)
  obtain ⟨hX, hb⟩ := hW
  have X1 := Lib.hid hX
  have B1 := Lib.hid hb
  clear hX hb
  obtain ⟨x_0, x_1⟩ := cells2 X1.out
  refine wp_region_noPanic ?_
  refine wp_region_along (S := fun w' => w' = W1.drew) ([(0, true), (1, true), (2, true), (3, true), (4, true), (5, true)]) (by kernel_rfl) (by as_aux_lemma => kernel_rfl) (by kernel_rfl) (by kernel_rfl) (by as_aux_lemma => kernel_rfl) (by as_aux_lemma => kernel_rfl) (fun _ _ _ _ _ h => h) rfl (fun hH => ?_)
  simp only [stepsOf, pickOp]
  iterate 6 (refine along_pure ?_ (by rfl) (fun w hSw => ?_) ?_; rotate_left; (obtain rfl := hSw; go_simp; try with_reducible rfl); try simp only [Act.put, List.setIfInBounds_toArray, List.set_cons_zero, List.set_cons_succ])
  refine along_end (NoPanic.normal ?_)
  clear hH
  obtain ⟨W2, hW2⟩ : ∃ x, x = W1.drew := ⟨_, rfl⟩
  have X2 := Lib.hid (show Blk W2 W.heap.size [.int .i64 (g : Nat), .int .i64 (g : Nat)] by rw [hW2]; exact X1.out.drew)
  have B2 := Lib.hid (show Below W.heap.size W W2 by rw [hW2]; exact bel_on' B1.out (Below.refl _ _).drew)
  rw [← hW2]
  clear hW2 X1 B1 x_0 x_1
  go_wp2
  go_ret
  exact ⟨rfl, B2.out⟩
set_option maxRecDepth 100000 in
set_option maxHeartbeats 8000000 in
theorem within_n1 (p : Value) (f g db : Nat) (h2 : ((g : Int) == 1) = false) (h3 : ((1 : Int) == (g : Int)) = false) (hf : f = 1) (W : World) :
    Calls Try.prog 50 #[p, .agg #[.int .i64 (f : Nat), .int .i64 (g : Nat)], .map (some db)] W fun e w' => e = .returned (.bool false) ∧ Below W.heap.size W w' := by
  subst hf
  go_enter Try.func50, Try.ntmps50
  go_upto_region 1 with fail
  refine at_code (S := fun w1 => Blk w1 W.heap.size [.int .i64 ((1 : Nat) : Nat), .int .i64 (g : Nat)] ∧ Below W.heap.size W w1) ⟨Blk.new _ _ _, bel_al (Below.refl _ _) _⟩ (fun W1 hW => ?_)
  obtain ⟨hX, hb⟩ := hW
  have X1 := Lib.hid hX
  have B1 := Lib.hid hb
  clear hX hb
  obtain ⟨x_0, x_1⟩ := cells2 X1.out
  refine wp_region_noPanic ?_
  refine wp_region_along (S := fun w' => w' = W1.drew) ([(0, true), (1, true), (2, true), (3, true), (4, true), (5, true)]) (by kernel_rfl) (by as_aux_lemma => kernel_rfl) (by kernel_rfl) (by kernel_rfl) (by as_aux_lemma => kernel_rfl) (by as_aux_lemma => kernel_rfl) (fun _ _ _ _ _ h => h) rfl (fun hH => ?_)
  simp only [stepsOf, pickOp]
  iterate 6 (refine along_pure ?_ (by rfl) (fun w hSw => ?_) ?_; rotate_left; (obtain rfl := hSw; go_simp; try with_reducible rfl); try simp only [Act.put, List.setIfInBounds_toArray, List.set_cons_zero, List.set_cons_succ])
  refine along_end (NoPanic.normal ?_)
  clear hH
  obtain ⟨W2, hW2⟩ : ∃ x, x = W1.drew := ⟨_, rfl⟩
  have X2 := Lib.hid (show Blk W2 W.heap.size [.int .i64 ((1 : Nat) : Nat), .int .i64 (g : Nat)] by rw [hW2]; exact X1.out.drew)
  have B2 := Lib.hid (show Below W.heap.size W W2 by rw [hW2]; exact bel_on' B1.out (Below.refl _ _).drew)
  rw [← hW2]
  clear hW2 X1 B1 x_0 x_1
  go_wp2
  go_ret
  exact ⟨rfl, B2.out⟩
set_option maxRecDepth 100000 in
set_option maxHeartbeats 8000000 in
theorem within_n2 (p : Value) (f g db : Nat) (h1 : ((f : Int) == 0) = false) (h4 : ((f : Int) == 1) = false) (hg : g = 0) (W : World) :
    Calls Try.prog 50 #[p, .agg #[.int .i64 (f : Nat), .int .i64 (g : Nat)], .map (some db)] W fun e w' => e = .returned (.bool false) ∧ Below W.heap.size W w' := by
  subst hg
  go_enter Try.func50, Try.ntmps50
  go_upto_region 1 with fail
  refine at_code (S := fun w1 => Blk w1 W.heap.size [.int .i64 (f : Nat), .int .i64 ((0 : Nat) : Nat)] ∧ Below W.heap.size W w1) ⟨Blk.new _ _ _, bel_al (Below.refl _ _) _⟩ (fun W1 hW => ?_)
  obtain ⟨hX, hb⟩ := hW
  have X1 := Lib.hid hX
  have B1 := Lib.hid hb
  clear hX hb
  obtain ⟨x_0, x_1⟩ := cells2 X1.out
  refine wp_region_noPanic ?_
  refine wp_region_along (S := fun w' => w' = W1.drew) ([(0, true), (1, true), (2, true), (3, true), (4, true), (5, true)]) (by kernel_rfl) (by as_aux_lemma => kernel_rfl) (by kernel_rfl) (by kernel_rfl) (by as_aux_lemma => kernel_rfl) (by as_aux_lemma => kernel_rfl) (fun _ _ _ _ _ h => h) rfl (fun hH => ?_)
  simp only [stepsOf, pickOp]
  iterate 6 (refine along_pure ?_ (by rfl) (fun w hSw => ?_) ?_; rotate_left; (obtain rfl := hSw; go_simp; try with_reducible rfl); try simp only [Act.put, List.setIfInBounds_toArray, List.set_cons_zero, List.set_cons_succ])
  refine along_end (NoPanic.normal ?_)
  clear hH
  obtain ⟨W2, hW2⟩ : ∃ x, x = W1.drew := ⟨_, rfl⟩
  have X2 := Lib.hid (show Blk W2 W.heap.size [.int .i64 (f : Nat), .int .i64 ((0 : Nat) : Nat)] by rw [hW2]; exact X1.out.drew)
  have B2 := Lib.hid (show Below W.heap.size W W2 by rw [hW2]; exact bel_on' B1.out (Below.refl _ _).drew)
  rw [← hW2]
  clear hW2 X1 B1 x_0 x_1
  go_wp2
  go_ret
  exact ⟨rfl, B2.out⟩
set_option maxRecDepth 100000 in
set_option maxHeartbeats 8000000 in
theorem within_known (p : Value) (f g db : Nat) (W : World) (u : Nat) (hu : (1 : Int) ≤ (u : Int)) (hwu : (u : Int) ≤ 1000000000000) (h1 : ((f : Int) == 0) = false) (h2 : ((g : Int) == 1) = false) (h3 : ((f : Int) == (g : Int)) = false) (h4 : ((f : Int) == 1) = false) (h5 : ((g : Int) == 0) = false) (Q0 Q1 : World → Prop) (H0 : Hid (∀ w w', Q0 w → Below w.heap.size w w' → Q0 w')) (hQ0 : Hid (Q0 W)) (LT : Hid (db < W.heap.size)) (LK : Hid (∀ w, Q0 w → (Instr.lookup 95 (.map (some db)) (.agg #[.int .i64 (f : Nat), .int .i64 (g : Nat)]) false).run Try.prog w = .ok (.int .i64 (u : Nat)) w ∧ ∃ (st : Nat) (w1 w2 : World), (Instr.mapEntry 95 (.map (some db)) (.agg #[.int .i64 (f : Nat), .int .i64 (g : Nat)])).run Try.prog w = .ok (.tuple #[.int .i64 (u : Nat), .int .i64 (st : Nat)]) w1 ∧ (Instr.lookup 95 (.map (some db)) (.agg #[.int .i64 (f : Nat), .int .i64 (g : Nat)]) false).run Try.prog w1 = .ok (.int .i64 (u : Nat)) w1 ∧ (Instr.entryStore 95 (.map (some db)) (.int .i64 (st : Nat)) (.int .i64 ((u : Int) + 1))).run Try.prog w1 = .ok () w2 ∧ Q1 w2 ∧ Only db w w1 ∧ Only db w w2 ∧ (Instr.lookup 95 (.map (some db)) (.agg #[.int .i64 (f : Nat), .int .i64 (g : Nat)]) false).run Try.prog w2 = .ok (.int .i64 ((u : Int) + 1)) w2)) :
    Calls Try.prog 50 #[p, .agg #[.int .i64 (f : Nat), .int .i64 (g : Nat)], .map (some db)] W fun e w' => e = .returned (.bool true) ∧ Q1 w' ∧ Keep (fun i => i = db) W w' := by
  have c2 : (1 : Int) < (u : Int) + 1 := by omega
  go_enter Try.func50, Try.ntmps50
  go_upto_region 1 with fail
  refine at_code (S := fun w1 => Blk w1 W.heap.size [.int .i64 (f : Nat), .int .i64 (g : Nat)] ∧ Below W.heap.size W w1) ⟨Blk.new _ _ _, bel_al (Below.refl _ _) _⟩ (fun W1 hW => ?_)
  obtain ⟨hX, hb⟩ := hW
  have X1 := Lib.hid hX
  have B1 := Lib.hid hb
  clear hX hb
  obtain ⟨x_0, x_1⟩ := cells2 X1.out
  refine wp_region_noPanic ?_
  refine wp_region_along (S := fun w' => w' = W1.drew) ([(0, true), (1, true), (2, true), (3, true), (4, true), (5, true)]) (by kernel_rfl) (by as_aux_lemma => kernel_rfl) (by kernel_rfl) (by kernel_rfl) (by as_aux_lemma => kernel_rfl) (by as_aux_lemma => kernel_rfl) (fun _ _ _ _ _ h => h) rfl (fun hH => ?_)
  simp only [stepsOf, pickOp]
  iterate 6 (refine along_pure ?_ (by rfl) (fun w hSw => ?_) ?_; rotate_left; (obtain rfl := hSw; go_simp; try with_reducible rfl); try simp only [Act.put, List.setIfInBounds_toArray, List.set_cons_zero, List.set_cons_succ])
  refine along_end (NoPanic.normal ?_)
  clear hH
  obtain ⟨W2, hW2⟩ : ∃ x, x = W1.drew := ⟨_, rfl⟩
  have X2 := Lib.hid (show Blk W2 W.heap.size [.int .i64 (f : Nat), .int .i64 (g : Nat)] by rw [hW2]; exact X1.out.drew)
  have B2 := Lib.hid (show Below W.heap.size W W2 by rw [hW2]; exact bel_on' B1.out (Below.refl _ _).drew)
  rw [← hW2]
  clear hW2 X1 B1 x_0 x_1
  have hwr : IntKind.i64.wrap ((u : Int) + 1) = (u : Int) + 1 := by rw [IntKind.wrap_i64]; omega
  go_upto_region 6 with fail
  have NE := Lib.hid (show W.heap.size ≠ db by have := LT.out; omega)
  obtain ⟨wd, hwd⟩ : ∃ x, x = W2.drew := ⟨_, rfl⟩
  have Xd := Lib.hid (show Blk wd W.heap.size [.int .i64 (f : Nat), .int .i64 (g : Nat)] by rw [hwd]; exact X2.out.drew)
  have Bd := Lib.hid (show Below W.heap.size W wd by rw [hwd]; exact bel_on' B2.out (Below.refl _ _).drew)
  obtain ⟨l1, st, w3, w4, l2, l5, l3, hQ, hO3, hO4, l4⟩ := LK.out wd (H0.out _ _ hQ0.out Bd.out)
  have Q4 := Lib.hid hQ
  have L4 := Lib.hid l4
  have X3 := Lib.hid (kp_blk (show Keep (fun i => i = db) wd w3 from (Keep.refl _ _).only hO3 (fun _ => rfl)) Xd.out NE.out)
  have X4 := Lib.hid (kp_blk (show Keep (fun i => i = db) wd w4 from (Keep.refl _ _).only hO4 (fun _ => rfl)) Xd.out NE.out)
  have K4 := Lib.hid (show Keep (fun i => i = db) W w4 from kp_trans (Keep.of Bd.out) ((Keep.refl _ _).only hO4 (fun _ => rfl)))
  have XD := Lib.hid (cells2 Xd.out)
  have HWD := Lib.hid hwd
  clear hQ hO3 hO4 LK B2 X2 l4 hwd
  refine wp_via (F := fun wx => Q1 wx ∧ Blk wx W.heap.size [.int .i64 (f : Nat), .int .i64 (g : Nat)] ∧ Keep (fun i => i = db) W wx ∧ (Instr.lookup 95 (.map (some db)) (.agg #[.int .i64 (f : Nat), .int .i64 (g : Nat)]) false).run Try.prog wx = .ok (.int .i64 ((u : Int) + 1)) wx) ?_
  apply Exists.intro
  refine ⟨?_, ?_⟩
  · refine wp_region_noPanic ?_
    refine wp_region_alongT (S := fun w' => w'.cell? ⟨W.heap.size, 0, none⟩ = some (.int .i64 (f : Nat)) ∧ w'.cell? ⟨W.heap.size, 1, none⟩ = some (.int .i64 (g : Nat))) (.pure 0 (.pure 1 (.b2 2 (.pure 3 (.b1 4 (.pure 5 (.b1 6 .done)))) 4 (.pure 5 (.b1 2 (.pure 3 (.b1 6 .done))))))) (by kernel_rfl) (by as_aux_lemma => kernel_rfl) (by decide) (by as_aux_lemma => kernel_rfl) (fun _ _ _ _ _ h => h) (by rw [← HWD.out]; exact XD.out) (fun _ => ?_)
    rw [← HWD.out]
    iterate 2 (refine T_pure ?_ (by rfl) (fun w hSw => ?_) ?_; rotate_left; (obtain ⟨s_0, s_1⟩ := hSw; simp only [pickOp]; go_simp; try with_reducible rfl); try simp only [pickOp, Act.put, List.setIfInBounds_toArray, List.set_cons_zero, List.set_cons_succ])
    refine T_b2 (fun K hK => ?_) (fun K hK => ?_)
    · skip
      simp only [pickOp]
      go_simp
      refine hK.out _ _ (cells2 Xd.out) (fun _ => ?_)
      clear hK K
      try simp only [pickOp, Act.put, List.setIfInBounds_toArray, List.set_cons_zero, List.set_cons_succ]
      refine T_pure ?_ (by rfl) (fun w hSw => ?_) ?_
      rotate_left
      · simp only [pickOp]; go_simp; try with_reducible rfl
      try simp only [pickOp, Act.put, List.setIfInBounds_toArray, List.set_cons_zero, List.set_cons_succ]
      refine T_b1 (fun K hK => ?_)
      simp only [pickOp]
      go_simp
      refine hK.out _ _ (cells2 X3.out) (fun _ => ?_)
      clear hK K
      try simp only [pickOp, Act.put, List.setIfInBounds_toArray, List.set_cons_zero, List.set_cons_succ]
      refine T_pure ?_ (by rfl) (fun w hSw => ?_) ?_
      rotate_left
      · simp only [pickOp]; go_simp; try with_reducible rfl
      try simp only [pickOp, Act.put, List.setIfInBounds_toArray, List.set_cons_zero, List.set_cons_succ]
      refine T_b1 (fun K hK => ?_)
      simp only [pickOp]
      go_simp
      refine hK.out _ _ (cells2 X4.out) (fun _ => ?_)
      clear hK K
      try simp only [pickOp, Act.put, List.setIfInBounds_toArray, List.set_cons_zero, List.set_cons_succ]
      refine T_done (NoPanic.normal ?_)
      exact ⟨rfl, rfl, Q4.out, X4.out, K4.out, L4.out⟩
    · skip
      simp only [pickOp]
      go_simp
      refine hK.out _ _ (cells2 X3.out) (fun _ => ?_)
      clear hK K
      try simp only [pickOp, Act.put, List.setIfInBounds_toArray, List.set_cons_zero, List.set_cons_succ]
      refine T_pure ?_ (by rfl) (fun w hSw => ?_) ?_
      rotate_left
      · simp only [pickOp]; go_simp; try with_reducible rfl
      try simp only [pickOp, Act.put, List.setIfInBounds_toArray, List.set_cons_zero, List.set_cons_succ]
      refine T_b1 (fun K hK => ?_)
      simp only [pickOp]
      go_simp
      refine hK.out _ _ (cells2 X3.out) (fun _ => ?_)
      clear hK K
      try simp only [pickOp, Act.put, List.setIfInBounds_toArray, List.set_cons_zero, List.set_cons_succ]
      refine T_pure ?_ (by rfl) (fun w hSw => ?_) ?_
      rotate_left
      · simp only [pickOp]; go_simp; try with_reducible rfl
      try simp only [pickOp, Act.put, List.setIfInBounds_toArray, List.set_cons_zero, List.set_cons_succ]
      refine T_b1 (fun K hK => ?_)
      simp only [pickOp]
      go_simp
      refine hK.out _ _ (cells2 X4.out) (fun _ => ?_)
      clear hK K
      try simp only [pickOp, Act.put, List.setIfInBounds_toArray, List.set_cons_zero, List.set_cons_succ]
      refine T_done (NoPanic.normal ?_)
      exact ⟨rfl, rfl, Q4.out, X4.out, K4.out, L4.out⟩
  clear HWD XD l1 l2 l3 l5 X3 Xd Bd Q4 X4 K4 L4
  rintro w4 ⟨hQ, hX, hk, l4⟩
  have Q4 := Lib.hid hQ
  have X4 := Lib.hid hX
  have K4 := Lib.hid hk
  clear hQ hX hk
  obtain ⟨x_0, x_1⟩ := cells2 X4.out
  go_wp2
  go_ret
  exact ⟨rfl, Q4.out, K4.out⟩
set_option maxRecDepth 100000 in
set_option maxHeartbeats 8000000 in
theorem within_new1 (p : Value) (f g db : Nat) (W : World) (a b i x0 x1 y0 y1 : Nat) (r1 r2 : Bool) (Q2 Q3 : World → Prop) (hab : (a : Int) ≤ (b : Int)) (hi : i = a) (h1 : ((f : Int) == 0) = false) (h2 : ((g : Int) == 1) = false) (h3 : ((f : Int) == (g : Int)) = false) (h4 : ((f : Int) == 1) = false) (h5 : ((g : Int) == 0) = false) (Q0 Q1 : World → Prop) (H0 : Hid (∀ w w', Q0 w → Below w.heap.size w w' → Q0 w')) (hQ0 : Hid (Q0 W)) (LT : Hid (db < W.heap.size)) (LK : Hid (∀ w, Q0 w → (Instr.lookup 95 (.map (some db)) (.agg #[.int .i64 (f : Nat), .int .i64 (g : Nat)]) false).run Try.prog w = .ok (.int .i64 0) w ∧ ∃ (st : Nat) (w1 w2 : World), (Instr.mapEntry 95 (.map (some db)) (.agg #[.int .i64 (f : Nat), .int .i64 (g : Nat)])).run Try.prog w = .ok (.tuple #[.int .i64 0, .int .i64 (st : Nat)]) w1 ∧ (Instr.lookup 95 (.map (some db)) (.agg #[.int .i64 (f : Nat), .int .i64 (g : Nat)]) false).run Try.prog w1 = .ok (.int .i64 0) w1 ∧ (Instr.entryStore 95 (.map (some db)) (.int .i64 (st : Nat)) (.int .i64 1)).run Try.prog w1 = .ok () w2 ∧ Q1 w2 ∧ Only db w w1 ∧ Only db w w2 ∧ (Instr.lookup 95 (.map (some db)) (.agg #[.int .i64 (f : Nat), .int .i64 (g : Nat)]) false).run Try.prog w2 = .ok (.int .i64 1) w2))
    (H1 : Hid (∀ w w', Q1 w → Below w.heap.size w w' → Q1 w')) (H2 : Hid (∀ w w', Q2 w → Below w.heap.size w w' → Q2 w'))
    (C1 : Hid (∀ w, Q1 w → Calls Try.prog 42 #[p, .int .i64 (f : Nat)] w fun e w' => e = .returned (.int .i64 (a : Nat)) ∧ Below w.heap.size w w'))
    (C2 : Hid (∀ w, Q1 w → Calls Try.prog 42 #[p, .int .i64 (g : Nat)] w fun e w' => e = .returned (.int .i64 (b : Nat)) ∧ Below w.heap.size w w'))
    (C3 : Hid (∀ w, Q1 w → Calls Try.prog 66 #[p, .int .i64 (f : Nat), .int .i64 (i : Nat)] w fun e w' => e = .returned (.agg #[.int .i64 (x0 : Nat), .int .i64 (x1 : Nat)]) ∧ Below w.heap.size w w'))
    (C4 : Hid (∀ w, Q1 w → Calls Try.prog 66 #[p, .int .i64 (g : Nat), .int .i64 (i : Nat)] w fun e w' => e = .returned (.agg #[.int .i64 (y0 : Nat), .int .i64 (y1 : Nat)]) ∧ Below w.heap.size w w'))
    (D1 : Hid (∀ w, Q1 w → Calls Try.prog 50 #[p, .agg #[.int .i64 (x0 : Nat), .int .i64 (y0 : Nat)], .map (some db)] w fun e w' => e = .returned (.bool r1) ∧ Q2 w' ∧ Keep (fun i => i = db) w w'))
    (D2 : Hid (r1 = true → ∀ w, Q2 w → Calls Try.prog 50 #[p, .agg #[.int .i64 (x1 : Nat), .int .i64 (y1 : Nat)], .map (some db)] w fun e w' => e = .returned (.bool r2) ∧ Q3 w' ∧ Keep (fun i => i = db) w w')) :
    Calls Try.prog 50 #[p, .agg #[.int .i64 (f : Nat), .int .i64 (g : Nat)], .map (some db)] W fun e w' => e = .returned (.bool (r1 && r2)) ∧ Keep (fun i => i = db) W w' ∧ (r1 = false → Q2 w') ∧ (r1 = true → Q3 w') := by
  subst hi
  go_enter Try.func50, Try.ntmps50
  go_upto_region 1 with fail
  refine at_code (S := fun w1 => Blk w1 W.heap.size [.int .i64 (f : Nat), .int .i64 (g : Nat)] ∧ Below W.heap.size W w1) ⟨Blk.new _ _ _, bel_al (Below.refl _ _) _⟩ (fun W1 hW => ?_)
  obtain ⟨hX, hb⟩ := hW
  have X1 := Lib.hid hX
  have B1 := Lib.hid hb
  clear hX hb
  obtain ⟨x_0, x_1⟩ := cells2 X1.out
  refine wp_region_noPanic ?_
  refine wp_region_along (S := fun w' => w' = W1.drew) ([(0, true), (1, true), (2, true), (3, true), (4, true), (5, true)]) (by kernel_rfl) (by as_aux_lemma => kernel_rfl) (by kernel_rfl) (by kernel_rfl) (by as_aux_lemma => kernel_rfl) (by as_aux_lemma => kernel_rfl) (fun _ _ _ _ _ h => h) rfl (fun hH => ?_)
  simp only [stepsOf, pickOp]
  iterate 6 (refine along_pure ?_ (by rfl) (fun w hSw => ?_) ?_; rotate_left; (obtain rfl := hSw; go_simp; try with_reducible rfl); try simp only [Act.put, List.setIfInBounds_toArray, List.set_cons_zero, List.set_cons_succ])
  refine along_end (NoPanic.normal ?_)
  clear hH
  obtain ⟨W2, hW2⟩ : ∃ x, x = W1.drew := ⟨_, rfl⟩
  have X2 := Lib.hid (show Blk W2 W.heap.size [.int .i64 (f : Nat), .int .i64 (g : Nat)] by rw [hW2]; exact X1.out.drew)
  have B2 := Lib.hid (show Below W.heap.size W W2 by rw [hW2]; exact bel_on' B1.out (Below.refl _ _).drew)
  rw [← hW2]
  clear hW2 X1 B1 x_0 x_1
  have hwr : IntKind.i64.wrap 1 = 1 := by rw [IntKind.wrap_i64]; omega
  go_upto_region 6 with fail
  have NE := Lib.hid (show W.heap.size ≠ db by have := LT.out; omega)
  obtain ⟨wd, hwd⟩ : ∃ x, x = W2.drew := ⟨_, rfl⟩
  have Xd := Lib.hid (show Blk wd W.heap.size [.int .i64 (f : Nat), .int .i64 (g : Nat)] by rw [hwd]; exact X2.out.drew)
  have Bd := Lib.hid (show Below W.heap.size W wd by rw [hwd]; exact bel_on' B2.out (Below.refl _ _).drew)
  obtain ⟨l1, st, w3, w4, l2, l5, l3, hQ, hO3, hO4, l4⟩ := LK.out wd (H0.out _ _ hQ0.out Bd.out)
  have Q4 := Lib.hid hQ
  have L4 := Lib.hid l4
  have X3 := Lib.hid (kp_blk (show Keep (fun i => i = db) wd w3 from (Keep.refl _ _).only hO3 (fun _ => rfl)) Xd.out NE.out)
  have X4 := Lib.hid (kp_blk (show Keep (fun i => i = db) wd w4 from (Keep.refl _ _).only hO4 (fun _ => rfl)) Xd.out NE.out)
  have K4 := Lib.hid (show Keep (fun i => i = db) W w4 from kp_trans (Keep.of Bd.out) ((Keep.refl _ _).only hO4 (fun _ => rfl)))
  have XD := Lib.hid (cells2 Xd.out)
  have HWD := Lib.hid hwd
  clear hQ hO3 hO4 LK B2 X2 l4 hwd
  refine wp_via (F := fun wx => Q1 wx ∧ Blk wx W.heap.size [.int .i64 (f : Nat), .int .i64 (g : Nat)] ∧ Keep (fun i => i = db) W wx ∧ (Instr.lookup 95 (.map (some db)) (.agg #[.int .i64 (f : Nat), .int .i64 (g : Nat)]) false).run Try.prog wx = .ok (.int .i64 1) wx) ?_
  apply Exists.intro
  refine ⟨?_, ?_⟩
  · refine wp_region_noPanic ?_
    refine wp_region_alongT (S := fun w' => w'.cell? ⟨W.heap.size, 0, none⟩ = some (.int .i64 (f : Nat)) ∧ w'.cell? ⟨W.heap.size, 1, none⟩ = some (.int .i64 (g : Nat))) (.pure 0 (.pure 1 (.b2 2 (.pure 3 (.b1 4 (.pure 5 (.b1 6 .done)))) 4 (.pure 5 (.b1 2 (.pure 3 (.b1 6 .done))))))) (by kernel_rfl) (by as_aux_lemma => kernel_rfl) (by decide) (by as_aux_lemma => kernel_rfl) (fun _ _ _ _ _ h => h) (by rw [← HWD.out]; exact XD.out) (fun _ => ?_)
    rw [← HWD.out]
    iterate 2 (refine T_pure ?_ (by rfl) (fun w hSw => ?_) ?_; rotate_left; (obtain ⟨s_0, s_1⟩ := hSw; simp only [pickOp]; go_simp; try with_reducible rfl); try simp only [pickOp, Act.put, List.setIfInBounds_toArray, List.set_cons_zero, List.set_cons_succ])
    refine T_b2 (fun K hK => ?_) (fun K hK => ?_)
    · skip
      simp only [pickOp]
      go_simp
      refine hK.out _ _ (cells2 Xd.out) (fun _ => ?_)
      clear hK K
      try simp only [pickOp, Act.put, List.setIfInBounds_toArray, List.set_cons_zero, List.set_cons_succ]
      refine T_pure ?_ (by rfl) (fun w hSw => ?_) ?_
      rotate_left
      · simp only [pickOp]; go_simp; try with_reducible rfl
      try simp only [pickOp, Act.put, List.setIfInBounds_toArray, List.set_cons_zero, List.set_cons_succ]
      refine T_b1 (fun K hK => ?_)
      simp only [pickOp]
      go_simp
      refine hK.out _ _ (cells2 X3.out) (fun _ => ?_)
      clear hK K
      try simp only [pickOp, Act.put, List.setIfInBounds_toArray, List.set_cons_zero, List.set_cons_succ]
      refine T_pure ?_ (by rfl) (fun w hSw => ?_) ?_
      rotate_left
      · simp only [pickOp]; go_simp; try with_reducible rfl
      try simp only [pickOp, Act.put, List.setIfInBounds_toArray, List.set_cons_zero, List.set_cons_succ]
      refine T_b1 (fun K hK => ?_)
      simp only [pickOp]
      go_simp
      refine hK.out _ _ (cells2 X4.out) (fun _ => ?_)
      clear hK K
      try simp only [pickOp, Act.put, List.setIfInBounds_toArray, List.set_cons_zero, List.set_cons_succ]
      refine T_done (NoPanic.normal ?_)
      exact ⟨rfl, rfl, Q4.out, X4.out, K4.out, L4.out⟩
    · skip
      simp only [pickOp]
      go_simp
      refine hK.out _ _ (cells2 X3.out) (fun _ => ?_)
      clear hK K
      try simp only [pickOp, Act.put, List.setIfInBounds_toArray, List.set_cons_zero, List.set_cons_succ]
      refine T_pure ?_ (by rfl) (fun w hSw => ?_) ?_
      rotate_left
      · simp only [pickOp]; go_simp; try with_reducible rfl
      try simp only [pickOp, Act.put, List.setIfInBounds_toArray, List.set_cons_zero, List.set_cons_succ]
      refine T_b1 (fun K hK => ?_)
      simp only [pickOp]
      go_simp
      refine hK.out _ _ (cells2 X3.out) (fun _ => ?_)
      clear hK K
      try simp only [pickOp, Act.put, List.setIfInBounds_toArray, List.set_cons_zero, List.set_cons_succ]
      refine T_pure ?_ (by rfl) (fun w hSw => ?_) ?_
      rotate_left
      · simp only [pickOp]; go_simp; try with_reducible rfl
      try simp only [pickOp, Act.put, List.setIfInBounds_toArray, List.set_cons_zero, List.set_cons_succ]
      refine T_b1 (fun K hK => ?_)
      simp only [pickOp]
      go_simp
      refine hK.out _ _ (cells2 X4.out) (fun _ => ?_)
      clear hK K
      try simp only [pickOp, Act.put, List.setIfInBounds_toArray, List.set_cons_zero, List.set_cons_succ]
      refine T_done (NoPanic.normal ?_)
      exact ⟨rfl, rfl, Q4.out, X4.out, K4.out, L4.out⟩
  clear HWD XD l1 l2 l3 l5 X3 Xd Bd Q4 X4 K4 L4
  rintro w4 ⟨hQ, hX, hk, l4⟩
  have Q4 := Lib.hid hQ
  have X4 := Lib.hid hX
  have K4 := Lib.hid hk
  clear hQ hX hk
  obtain ⟨x_0, x_1⟩ := cells2 X4.out
  clear X4
  go_wp2_with fail
  refine (C1.out w4 Q4.out).mono ?_
  rintro e w5 ⟨rfl, hb⟩
  have Q5 := Lib.hid (H1.out _ _ Q4.out hb)
  have K5 := Lib.hid (kp_below K4.out hb)
  clear hb Q4 K4
  clear x_0 x_1 l4
  go_wp2_with fail
  refine (C2.out w5 Q5.out).mono ?_
  rintro e w6 ⟨rfl, hb⟩
  have Q6 := Lib.hid (H1.out _ _ Q5.out hb)
  have K6 := Lib.hid (kp_below K5.out hb)
  clear hb Q5 K5
  clear C1 C2
  go_wp2_with fail
  refine (C3.out w6 Q6.out).mono ?_
  rintro e w7 ⟨rfl, hb⟩
  have Q7 := Lib.hid (H1.out _ _ Q6.out hb)
  have K7 := Lib.hid (kp_below K6.out hb)
  clear hb Q6 K6
  go_wp2_with fail
  refine (C4.out w7 Q7.out).mono ?_
  rintro e w8 ⟨rfl, hb⟩
  have Q8 := Lib.hid (H1.out _ _ Q7.out hb)
  have K8 := Lib.hid (kp_below K7.out hb)
  clear hb Q7 K7
  clear C3 C4
  go_upto_region 11 with fail
  refine at_code (S := fun w => Blk w w8.heap.size [.int .i64 (x0 : Nat), .int .i64 (x1 : Nat)] ∧ Blk w (w8.heap.size + 1) [.int .i64 (y0 : Nat), .int .i64 (y1 : Nat)] ∧ Below w8.heap.size w8 w) ⟨?_, ?_, bel_al (bel_al (Below.refl _ _) _) _⟩ (fun w9 hW => ?_)
  · exact (Blk.new w8 94 [.int .i64 (x0 : Nat), .int .i64 (x1 : Nat)]).on (bel_al (Below.refl _ _) _)
  · have k := Blk.new (w8.alloc (.cells #[.int .i64 (x0 : Nat), .int .i64 (x1 : Nat)] 94)) 94 [.int .i64 (y0 : Nat), .int .i64 (y1 : Nat)]
    rw [World.size_alloc] at k
    exact k
  obtain ⟨hY, hZ, hb⟩ := hW
  have Y9 := Lib.hid hY
  have Z9 := Lib.hid hZ
  have Q9 := Lib.hid (H1.out _ _ Q8.out hb)
  have K9 := Lib.hid (kp_below K8.out hb)
  have NB := Lib.hid (show w8.heap.size ≠ db ∧ w8.heap.size + 1 ≠ db by have a1 := LT.out; have a2 := K8.out.size; exact ⟨by omega, by omega⟩)
  generalize w8.heap.size + 1 = b11 at *
  generalize w8.heap.size = b10 at *
  clear hY hZ hb Q8 K8
  go_wp2_with fail
  refine wp_loop_rounds 3 ?_
  rw [rounds_succ]
  go_upto_region 14 with fail
  obtain ⟨wd9, hwd⟩ : ∃ x, x = w9.drew := ⟨_, rfl⟩
  have hb := (Below.refl w9.heap.size w9).drew
  rw [← hwd] at hb
  have HWD := Lib.hid hwd
  clear hwd
  have Yd := Lib.hid (Y9.out.on hb)
  have Zd := Lib.hid (Z9.out.on hb)
  have Qd := Lib.hid (H1.out _ _ Q9.out hb)
  have Kd := Lib.hid (kp_below K9.out hb)
  clear hb Y9 Z9 Q9 K9
  refine wp_region_noPanic ?_
  refine wp_region_alongT (S := fun w' => (w'.cell? ⟨b10, 0, none⟩ = some (.int .i64 (x0 : Nat)) ∧ w'.cell? ⟨b10, 1, none⟩ = some (.int .i64 (x1 : Nat))) ∧ (w'.cell? ⟨b11, 0, none⟩ = some (.int .i64 (y0 : Nat)) ∧ w'.cell? ⟨b11, 1, none⟩ = some (.int .i64 (y1 : Nat)))) (.pure 0 (.pure 1 (.pure 2 (.pure 3 (.pure 4 (.pure 5 (.pure 6 (.pure 7 (.pure 8 (.b1 9 (.pure 10 .done))))))))))) (by kernel_rfl) (by as_aux_lemma => kernel_rfl) (by decide) (by as_aux_lemma => kernel_rfl) (fun _ _ _ _ _ h => h) (by rw [← HWD.out]; exact ⟨cells2 Yd.out, cells2 Zd.out⟩) (fun _ => ?_)
  rw [← HWD.out]
  clear HWD
  iterate 9 (refine T_pure ?_ (by rfl) (fun w hSw => ?_) ?_; rotate_left; (obtain ⟨⟨s_0, s_1⟩, s_2, s_3⟩ := hSw; simp only [pickOp]; go_simp; try with_reducible rfl); try simp only [pickOp, Act.put, List.setIfInBounds_toArray, List.set_cons_zero, List.set_cons_succ])
  refine T_b1 (fun K hK => ?_)
  simp only [pickOp]
  go_simp
  refine (D1.out wd9 Qd.out).mono ?_
  rintro e w10 ⟨rfl, hQ, hk⟩
  try go_wp2_with fail
  have Y10 := Lib.hid (kp_blk hk Yd.out NB.out.1)
  have Z10 := Lib.hid (kp_blk hk Zd.out NB.out.2)
  have Q10 := Lib.hid hQ
  have K10 := Lib.hid (kp_trans Kd.out hk)
  refine hK.out _ _ ⟨cells2 Y10.out, cells2 Z10.out⟩ (fun _ => ?_)
  clear hK K hQ hk Yd Zd Qd Kd D1
  try simp only [pickOp, Act.put, List.setIfInBounds_toArray, List.set_cons_zero, List.set_cons_succ]
  refine T_pure ?_ (by rfl) (fun w hSw => ?_) ?_
  rotate_left
  · simp only [pickOp]; go_simp; try with_reducible rfl
  try simp only [pickOp, Act.put, List.setIfInBounds_toArray, List.set_cons_zero, List.set_cons_succ]
  refine T_done (NoPanic.normal ?_)
  cases r1 with
  | false =>
    go_wp2
    go_ret
    exact ⟨rfl, K10.out, Q10.out⟩
  | true =>
    replace D2 := Lib.hid (D2.out rfl)
    go_wp2_with fail
    rw [rounds_succ]
    go_upto_region 14 with fail
    obtain ⟨wd10, hwd⟩ : ∃ x, x = w10.drew := ⟨_, rfl⟩
    have hb := (Below.refl w10.heap.size w10).drew
    rw [← hwd] at hb
    have HWD := Lib.hid hwd
    clear hwd
    have Yd := Lib.hid (Y10.out.on hb)
    have Zd := Lib.hid (Z10.out.on hb)
    have Qd := Lib.hid (H2.out _ _ Q10.out hb)
    have Kd := Lib.hid (kp_below K10.out hb)
    clear hb Y10 Z10 Q10 K10
    refine wp_region_noPanic ?_
    refine wp_region_alongT (S := fun w' => (w'.cell? ⟨b10, 0, none⟩ = some (.int .i64 (x0 : Nat)) ∧ w'.cell? ⟨b10, 1, none⟩ = some (.int .i64 (x1 : Nat))) ∧ (w'.cell? ⟨b11, 0, none⟩ = some (.int .i64 (y0 : Nat)) ∧ w'.cell? ⟨b11, 1, none⟩ = some (.int .i64 (y1 : Nat)))) (.pure 0 (.pure 1 (.pure 2 (.pure 3 (.pure 4 (.pure 5 (.pure 6 (.pure 7 (.pure 8 (.b1 9 (.pure 10 .done))))))))))) (by kernel_rfl) (by as_aux_lemma => kernel_rfl) (by decide) (by as_aux_lemma => kernel_rfl) (fun _ _ _ _ _ h => h) (by rw [← HWD.out]; exact ⟨cells2 Yd.out, cells2 Zd.out⟩) (fun _ => ?_)
    rw [← HWD.out]
    clear HWD
    iterate 9 (refine T_pure ?_ (by rfl) (fun w hSw => ?_) ?_; rotate_left; (obtain ⟨⟨s_0, s_1⟩, s_2, s_3⟩ := hSw; simp only [pickOp]; go_simp; try with_reducible rfl); try simp only [pickOp, Act.put, List.setIfInBounds_toArray, List.set_cons_zero, List.set_cons_succ])
    refine T_b1 (fun K hK => ?_)
    simp only [pickOp]
    go_simp
    refine (D2.out wd10 Qd.out).mono ?_
    rintro e w11 ⟨rfl, hQ, hk⟩
    try go_wp2_with fail
    have Y11 := Lib.hid (kp_blk hk Yd.out NB.out.1)
    have Z11 := Lib.hid (kp_blk hk Zd.out NB.out.2)
    have Q11 := Lib.hid hQ
    have K11 := Lib.hid (kp_trans Kd.out hk)
    refine hK.out _ _ ⟨cells2 Y11.out, cells2 Z11.out⟩ (fun _ => ?_)
    clear hK K hQ hk Yd Zd Qd Kd D2
    try simp only [pickOp, Act.put, List.setIfInBounds_toArray, List.set_cons_zero, List.set_cons_succ]
    refine T_pure ?_ (by rfl) (fun w hSw => ?_) ?_
    rotate_left
    · simp only [pickOp]; go_simp; try with_reducible rfl
    try simp only [pickOp, Act.put, List.setIfInBounds_toArray, List.set_cons_zero, List.set_cons_succ]
    refine T_done (NoPanic.normal ?_)
    cases r2 with
    | false =>
      go_wp2
      go_ret
      exact ⟨rfl, K11.out, Q11.out⟩
    | true =>
      go_wp2_with fail
      rw [rounds_succ]
      go_wp2
      go_ret
      exact ⟨rfl, K11.out, Q11.out⟩
set_option maxRecDepth 100000 in
set_option maxHeartbeats 8000000 in
theorem within_new2 (p : Value) (f g db : Nat) (W : World) (a b i x0 x1 y0 y1 : Nat) (r1 r2 : Bool) (Q2 Q3 : World → Prop) (hab : (b : Int) < (a : Int)) (hi : i = b) (h1 : ((f : Int) == 0) = false) (h2 : ((g : Int) == 1) = false) (h3 : ((f : Int) == (g : Int)) = false) (h4 : ((f : Int) == 1) = false) (h5 : ((g : Int) == 0) = false) (Q0 Q1 : World → Prop) (H0 : Hid (∀ w w', Q0 w → Below w.heap.size w w' → Q0 w')) (hQ0 : Hid (Q0 W)) (LT : Hid (db < W.heap.size)) (LK : Hid (∀ w, Q0 w → (Instr.lookup 95 (.map (some db)) (.agg #[.int .i64 (f : Nat), .int .i64 (g : Nat)]) false).run Try.prog w = .ok (.int .i64 0) w ∧ ∃ (st : Nat) (w1 w2 : World), (Instr.mapEntry 95 (.map (some db)) (.agg #[.int .i64 (f : Nat), .int .i64 (g : Nat)])).run Try.prog w = .ok (.tuple #[.int .i64 0, .int .i64 (st : Nat)]) w1 ∧ (Instr.lookup 95 (.map (some db)) (.agg #[.int .i64 (f : Nat), .int .i64 (g : Nat)]) false).run Try.prog w1 = .ok (.int .i64 0) w1 ∧ (Instr.entryStore 95 (.map (some db)) (.int .i64 (st : Nat)) (.int .i64 1)).run Try.prog w1 = .ok () w2 ∧ Q1 w2 ∧ Only db w w1 ∧ Only db w w2 ∧ (Instr.lookup 95 (.map (some db)) (.agg #[.int .i64 (f : Nat), .int .i64 (g : Nat)]) false).run Try.prog w2 = .ok (.int .i64 1) w2))
    (H1 : Hid (∀ w w', Q1 w → Below w.heap.size w w' → Q1 w')) (H2 : Hid (∀ w w', Q2 w → Below w.heap.size w w' → Q2 w'))
    (C1 : Hid (∀ w, Q1 w → Calls Try.prog 42 #[p, .int .i64 (f : Nat)] w fun e w' => e = .returned (.int .i64 (a : Nat)) ∧ Below w.heap.size w w'))
    (C2 : Hid (∀ w, Q1 w → Calls Try.prog 42 #[p, .int .i64 (g : Nat)] w fun e w' => e = .returned (.int .i64 (b : Nat)) ∧ Below w.heap.size w w'))
    (C3 : Hid (∀ w, Q1 w → Calls Try.prog 66 #[p, .int .i64 (f : Nat), .int .i64 (i : Nat)] w fun e w' => e = .returned (.agg #[.int .i64 (x0 : Nat), .int .i64 (x1 : Nat)]) ∧ Below w.heap.size w w'))
    (C4 : Hid (∀ w, Q1 w → Calls Try.prog 66 #[p, .int .i64 (g : Nat), .int .i64 (i : Nat)] w fun e w' => e = .returned (.agg #[.int .i64 (y0 : Nat), .int .i64 (y1 : Nat)]) ∧ Below w.heap.size w w'))
    (D1 : Hid (∀ w, Q1 w → Calls Try.prog 50 #[p, .agg #[.int .i64 (x0 : Nat), .int .i64 (y0 : Nat)], .map (some db)] w fun e w' => e = .returned (.bool r1) ∧ Q2 w' ∧ Keep (fun i => i = db) w w'))
    (D2 : Hid (r1 = true → ∀ w, Q2 w → Calls Try.prog 50 #[p, .agg #[.int .i64 (x1 : Nat), .int .i64 (y1 : Nat)], .map (some db)] w fun e w' => e = .returned (.bool r2) ∧ Q3 w' ∧ Keep (fun i => i = db) w w')) :
    Calls Try.prog 50 #[p, .agg #[.int .i64 (f : Nat), .int .i64 (g : Nat)], .map (some db)] W fun e w' => e = .returned (.bool (r1 && r2)) ∧ Keep (fun i => i = db) W w' ∧ (r1 = false → Q2 w') ∧ (r1 = true → Q3 w') := by
  subst hi
  go_enter Try.func50, Try.ntmps50
  go_upto_region 1 with fail
  refine at_code (S := fun w1 => Blk w1 W.heap.size [.int .i64 (f : Nat), .int .i64 (g : Nat)] ∧ Below W.heap.size W w1) ⟨Blk.new _ _ _, bel_al (Below.refl _ _) _⟩ (fun W1 hW => ?_)
  obtain ⟨hX, hb⟩ := hW
  have X1 := Lib.hid hX
  have B1 := Lib.hid hb
  clear hX hb
  obtain ⟨x_0, x_1⟩ := cells2 X1.out
  refine wp_region_noPanic ?_
  refine wp_region_along (S := fun w' => w' = W1.drew) ([(0, true), (1, true), (2, true), (3, true), (4, true), (5, true)]) (by kernel_rfl) (by as_aux_lemma => kernel_rfl) (by kernel_rfl) (by kernel_rfl) (by as_aux_lemma => kernel_rfl) (by as_aux_lemma => kernel_rfl) (fun _ _ _ _ _ h => h) rfl (fun hH => ?_)
  simp only [stepsOf, pickOp]
  iterate 6 (refine along_pure ?_ (by rfl) (fun w hSw => ?_) ?_; rotate_left; (obtain rfl := hSw; go_simp; try with_reducible rfl); try simp only [Act.put, List.setIfInBounds_toArray, List.set_cons_zero, List.set_cons_succ])
  refine along_end (NoPanic.normal ?_)
  clear hH
  obtain ⟨W2, hW2⟩ : ∃ x, x = W1.drew := ⟨_, rfl⟩
  have X2 := Lib.hid (show Blk W2 W.heap.size [.int .i64 (f : Nat), .int .i64 (g : Nat)] by rw [hW2]; exact X1.out.drew)
  have B2 := Lib.hid (show Below W.heap.size W W2 by rw [hW2]; exact bel_on' B1.out (Below.refl _ _).drew)
  rw [← hW2]
  clear hW2 X1 B1 x_0 x_1
  have hwr : IntKind.i64.wrap 1 = 1 := by rw [IntKind.wrap_i64]; omega
  go_upto_region 6 with fail
  have NE := Lib.hid (show W.heap.size ≠ db by have := LT.out; omega)
  obtain ⟨wd, hwd⟩ : ∃ x, x = W2.drew := ⟨_, rfl⟩
  have Xd := Lib.hid (show Blk wd W.heap.size [.int .i64 (f : Nat), .int .i64 (g : Nat)] by rw [hwd]; exact X2.out.drew)
  have Bd := Lib.hid (show Below W.heap.size W wd by rw [hwd]; exact bel_on' B2.out (Below.refl _ _).drew)
  obtain ⟨l1, st, w3, w4, l2, l5, l3, hQ, hO3, hO4, l4⟩ := LK.out wd (H0.out _ _ hQ0.out Bd.out)
  have Q4 := Lib.hid hQ
  have L4 := Lib.hid l4
  have X3 := Lib.hid (kp_blk (show Keep (fun i => i = db) wd w3 from (Keep.refl _ _).only hO3 (fun _ => rfl)) Xd.out NE.out)
  have X4 := Lib.hid (kp_blk (show Keep (fun i => i = db) wd w4 from (Keep.refl _ _).only hO4 (fun _ => rfl)) Xd.out NE.out)
  have K4 := Lib.hid (show Keep (fun i => i = db) W w4 from kp_trans (Keep.of Bd.out) ((Keep.refl _ _).only hO4 (fun _ => rfl)))
  have XD := Lib.hid (cells2 Xd.out)
  have HWD := Lib.hid hwd
  clear hQ hO3 hO4 LK B2 X2 l4 hwd
  refine wp_via (F := fun wx => Q1 wx ∧ Blk wx W.heap.size [.int .i64 (f : Nat), .int .i64 (g : Nat)] ∧ Keep (fun i => i = db) W wx ∧ (Instr.lookup 95 (.map (some db)) (.agg #[.int .i64 (f : Nat), .int .i64 (g : Nat)]) false).run Try.prog wx = .ok (.int .i64 1) wx) ?_
  apply Exists.intro
  refine ⟨?_, ?_⟩
  · refine wp_region_noPanic ?_
    refine wp_region_alongT (S := fun w' => w'.cell? ⟨W.heap.size, 0, none⟩ = some (.int .i64 (f : Nat)) ∧ w'.cell? ⟨W.heap.size, 1, none⟩ = some (.int .i64 (g : Nat))) (.pure 0 (.pure 1 (.b2 2 (.pure 3 (.b1 4 (.pure 5 (.b1 6 .done)))) 4 (.pure 5 (.b1 2 (.pure 3 (.b1 6 .done))))))) (by kernel_rfl) (by as_aux_lemma => kernel_rfl) (by decide) (by as_aux_lemma => kernel_rfl) (fun _ _ _ _ _ h => h) (by rw [← HWD.out]; exact XD.out) (fun _ => ?_)
    rw [← HWD.out]
    iterate 2 (refine T_pure ?_ (by rfl) (fun w hSw => ?_) ?_; rotate_left; (obtain ⟨s_0, s_1⟩ := hSw; simp only [pickOp]; go_simp; try with_reducible rfl); try simp only [pickOp, Act.put, List.setIfInBounds_toArray, List.set_cons_zero, List.set_cons_succ])
    refine T_b2 (fun K hK => ?_) (fun K hK => ?_)
    · skip
      simp only [pickOp]
      go_simp
      refine hK.out _ _ (cells2 Xd.out) (fun _ => ?_)
      clear hK K
      try simp only [pickOp, Act.put, List.setIfInBounds_toArray, List.set_cons_zero, List.set_cons_succ]
      refine T_pure ?_ (by rfl) (fun w hSw => ?_) ?_
      rotate_left
      · simp only [pickOp]; go_simp; try with_reducible rfl
      try simp only [pickOp, Act.put, List.setIfInBounds_toArray, List.set_cons_zero, List.set_cons_succ]
      refine T_b1 (fun K hK => ?_)
      simp only [pickOp]
      go_simp
      refine hK.out _ _ (cells2 X3.out) (fun _ => ?_)
      clear hK K
      try simp only [pickOp, Act.put, List.setIfInBounds_toArray, List.set_cons_zero, List.set_cons_succ]
      refine T_pure ?_ (by rfl) (fun w hSw => ?_) ?_
      rotate_left
      · simp only [pickOp]; go_simp; try with_reducible rfl
      try simp only [pickOp, Act.put, List.setIfInBounds_toArray, List.set_cons_zero, List.set_cons_succ]
      refine T_b1 (fun K hK => ?_)
      simp only [pickOp]
      go_simp
      refine hK.out _ _ (cells2 X4.out) (fun _ => ?_)
      clear hK K
      try simp only [pickOp, Act.put, List.setIfInBounds_toArray, List.set_cons_zero, List.set_cons_succ]
      refine T_done (NoPanic.normal ?_)
      exact ⟨rfl, rfl, Q4.out, X4.out, K4.out, L4.out⟩
    · skip
      simp only [pickOp]
      go_simp
      refine hK.out _ _ (cells2 X3.out) (fun _ => ?_)
      clear hK K
      try simp only [pickOp, Act.put, List.setIfInBounds_toArray, List.set_cons_zero, List.set_cons_succ]
      refine T_pure ?_ (by rfl) (fun w hSw => ?_) ?_
      rotate_left
      · simp only [pickOp]; go_simp; try with_reducible rfl
      try simp only [pickOp, Act.put, List.setIfInBounds_toArray, List.set_cons_zero, List.set_cons_succ]
      refine T_b1 (fun K hK => ?_)
      simp only [pickOp]
      go_simp
      refine hK.out _ _ (cells2 X3.out) (fun _ => ?_)
      clear hK K
      try simp only [pickOp, Act.put, List.setIfInBounds_toArray, List.set_cons_zero, List.set_cons_succ]
      refine T_pure ?_ (by rfl) (fun w hSw => ?_) ?_
      rotate_left
      · simp only [pickOp]; go_simp; try with_reducible rfl
      try simp only [pickOp, Act.put, List.setIfInBounds_toArray, List.set_cons_zero, List.set_cons_succ]
      refine T_b1 (fun K hK => ?_)
      simp only [pickOp]
      go_simp
      refine hK.out _ _ (cells2 X4.out) (fun _ => ?_)
      clear hK K
      try simp only [pickOp, Act.put, List.setIfInBounds_toArray, List.set_cons_zero, List.set_cons_succ]
      refine T_done (NoPanic.normal ?_)
      exact ⟨rfl, rfl, Q4.out, X4.out, K4.out, L4.out⟩
  clear HWD XD l1 l2 l3 l5 X3 Xd Bd Q4 X4 K4 L4
  rintro w4 ⟨hQ, hX, hk, l4⟩
  have Q4 := Lib.hid hQ
  have X4 := Lib.hid hX
  have K4 := Lib.hid hk
  clear hQ hX hk
  obtain ⟨x_0, x_1⟩ := cells2 X4.out
  clear X4
  go_wp2_with fail
  refine (C1.out w4 Q4.out).mono ?_
  rintro e w5 ⟨rfl, hb⟩
  have Q5 := Lib.hid (H1.out _ _ Q4.out hb)
  have K5 := Lib.hid (kp_below K4.out hb)
  clear hb Q4 K4
  clear x_0 x_1 l4
  go_wp2_with fail
  refine (C2.out w5 Q5.out).mono ?_
  rintro e w6 ⟨rfl, hb⟩
  have Q6 := Lib.hid (H1.out _ _ Q5.out hb)
  have K6 := Lib.hid (kp_below K5.out hb)
  clear hb Q5 K5
  clear C1 C2
  go_wp2_with fail
  refine (C3.out w6 Q6.out).mono ?_
  rintro e w7 ⟨rfl, hb⟩
  have Q7 := Lib.hid (H1.out _ _ Q6.out hb)
  have K7 := Lib.hid (kp_below K6.out hb)
  clear hb Q6 K6
  go_wp2_with fail
  refine (C4.out w7 Q7.out).mono ?_
  rintro e w8 ⟨rfl, hb⟩
  have Q8 := Lib.hid (H1.out _ _ Q7.out hb)
  have K8 := Lib.hid (kp_below K7.out hb)
  clear hb Q7 K7
  clear C3 C4
  go_upto_region 11 with fail
  refine at_code (S := fun w => Blk w w8.heap.size [.int .i64 (x0 : Nat), .int .i64 (x1 : Nat)] ∧ Blk w (w8.heap.size + 1) [.int .i64 (y0 : Nat), .int .i64 (y1 : Nat)] ∧ Below w8.heap.size w8 w) ⟨?_, ?_, bel_al (bel_al (Below.refl _ _) _) _⟩ (fun w9 hW => ?_)
  · exact (Blk.new w8 94 [.int .i64 (x0 : Nat), .int .i64 (x1 : Nat)]).on (bel_al (Below.refl _ _) _)
  · have k := Blk.new (w8.alloc (.cells #[.int .i64 (x0 : Nat), .int .i64 (x1 : Nat)] 94)) 94 [.int .i64 (y0 : Nat), .int .i64 (y1 : Nat)]
    rw [World.size_alloc] at k
    exact k
  obtain ⟨hY, hZ, hb⟩ := hW
  have Y9 := Lib.hid hY
  have Z9 := Lib.hid hZ
  have Q9 := Lib.hid (H1.out _ _ Q8.out hb)
  have K9 := Lib.hid (kp_below K8.out hb)
  have NB := Lib.hid (show w8.heap.size ≠ db ∧ w8.heap.size + 1 ≠ db by have a1 := LT.out; have a2 := K8.out.size; exact ⟨by omega, by omega⟩)
  generalize w8.heap.size + 1 = b11 at *
  generalize w8.heap.size = b10 at *
  clear hY hZ hb Q8 K8
  go_wp2_with fail
  refine wp_loop_rounds 3 ?_
  rw [rounds_succ]
  go_upto_region 14 with fail
  obtain ⟨wd9, hwd⟩ : ∃ x, x = w9.drew := ⟨_, rfl⟩
  have hb := (Below.refl w9.heap.size w9).drew
  rw [← hwd] at hb
  have HWD := Lib.hid hwd
  clear hwd
  have Yd := Lib.hid (Y9.out.on hb)
  have Zd := Lib.hid (Z9.out.on hb)
  have Qd := Lib.hid (H1.out _ _ Q9.out hb)
  have Kd := Lib.hid (kp_below K9.out hb)
  clear hb Y9 Z9 Q9 K9
  refine wp_region_noPanic ?_
  refine wp_region_alongT (S := fun w' => (w'.cell? ⟨b10, 0, none⟩ = some (.int .i64 (x0 : Nat)) ∧ w'.cell? ⟨b10, 1, none⟩ = some (.int .i64 (x1 : Nat))) ∧ (w'.cell? ⟨b11, 0, none⟩ = some (.int .i64 (y0 : Nat)) ∧ w'.cell? ⟨b11, 1, none⟩ = some (.int .i64 (y1 : Nat)))) (.pure 0 (.pure 1 (.pure 2 (.pure 3 (.pure 4 (.pure 5 (.pure 6 (.pure 7 (.pure 8 (.b1 9 (.pure 10 .done))))))))))) (by kernel_rfl) (by as_aux_lemma => kernel_rfl) (by decide) (by as_aux_lemma => kernel_rfl) (fun _ _ _ _ _ h => h) (by rw [← HWD.out]; exact ⟨cells2 Yd.out, cells2 Zd.out⟩) (fun _ => ?_)
  rw [← HWD.out]
  clear HWD
  iterate 9 (refine T_pure ?_ (by rfl) (fun w hSw => ?_) ?_; rotate_left; (obtain ⟨⟨s_0, s_1⟩, s_2, s_3⟩ := hSw; simp only [pickOp]; go_simp; try with_reducible rfl); try simp only [pickOp, Act.put, List.setIfInBounds_toArray, List.set_cons_zero, List.set_cons_succ])
  refine T_b1 (fun K hK => ?_)
  simp only [pickOp]
  go_simp
  refine (D1.out wd9 Qd.out).mono ?_
  rintro e w10 ⟨rfl, hQ, hk⟩
  try go_wp2_with fail
  have Y10 := Lib.hid (kp_blk hk Yd.out NB.out.1)
  have Z10 := Lib.hid (kp_blk hk Zd.out NB.out.2)
  have Q10 := Lib.hid hQ
  have K10 := Lib.hid (kp_trans Kd.out hk)
  refine hK.out _ _ ⟨cells2 Y10.out, cells2 Z10.out⟩ (fun _ => ?_)
  clear hK K hQ hk Yd Zd Qd Kd D1
  try simp only [pickOp, Act.put, List.setIfInBounds_toArray, List.set_cons_zero, List.set_cons_succ]
  refine T_pure ?_ (by rfl) (fun w hSw => ?_) ?_
  rotate_left
  · simp only [pickOp]; go_simp; try with_reducible rfl
  try simp only [pickOp, Act.put, List.setIfInBounds_toArray, List.set_cons_zero, List.set_cons_succ]
  refine T_done (NoPanic.normal ?_)
  cases r1 with
  | false =>
    go_wp2
    go_ret
    exact ⟨rfl, K10.out, Q10.out⟩
  | true =>
    replace D2 := Lib.hid (D2.out rfl)
    go_wp2_with fail
    rw [rounds_succ]
    go_upto_region 14 with fail
    obtain ⟨wd10, hwd⟩ : ∃ x, x = w10.drew := ⟨_, rfl⟩
    have hb := (Below.refl w10.heap.size w10).drew
    rw [← hwd] at hb
    have HWD := Lib.hid hwd
    clear hwd
    have Yd := Lib.hid (Y10.out.on hb)
    have Zd := Lib.hid (Z10.out.on hb)
    have Qd := Lib.hid (H2.out _ _ Q10.out hb)
    have Kd := Lib.hid (kp_below K10.out hb)
    clear hb Y10 Z10 Q10 K10
    refine wp_region_noPanic ?_
    refine wp_region_alongT (S := fun w' => (w'.cell? ⟨b10, 0, none⟩ = some (.int .i64 (x0 : Nat)) ∧ w'.cell? ⟨b10, 1, none⟩ = some (.int .i64 (x1 : Nat))) ∧ (w'.cell? ⟨b11, 0, none⟩ = some (.int .i64 (y0 : Nat)) ∧ w'.cell? ⟨b11, 1, none⟩ = some (.int .i64 (y1 : Nat)))) (.pure 0 (.pure 1 (.pure 2 (.pure 3 (.pure 4 (.pure 5 (.pure 6 (.pure 7 (.pure 8 (.b1 9 (.pure 10 .done))))))))))) (by kernel_rfl) (by as_aux_lemma => kernel_rfl) (by decide) (by as_aux_lemma => kernel_rfl) (fun _ _ _ _ _ h => h) (by rw [← HWD.out]; exact ⟨cells2 Yd.out, cells2 Zd.out⟩) (fun _ => ?_)
    rw [← HWD.out]
    clear HWD
    iterate 9 (refine T_pure ?_ (by rfl) (fun w hSw => ?_) ?_; rotate_left; (obtain ⟨⟨s_0, s_1⟩, s_2, s_3⟩ := hSw; simp only [pickOp]; go_simp; try with_reducible rfl); try simp only [pickOp, Act.put, List.setIfInBounds_toArray, List.set_cons_zero, List.set_cons_succ])
    refine T_b1 (fun K hK => ?_)
    simp only [pickOp]
    go_simp
    refine (D2.out wd10 Qd.out).mono ?_
    rintro e w11 ⟨rfl, hQ, hk⟩
    try go_wp2_with fail
    have Y11 := Lib.hid (kp_blk hk Yd.out NB.out.1)
    have Z11 := Lib.hid (kp_blk hk Zd.out NB.out.2)
    have Q11 := Lib.hid hQ
    have K11 := Lib.hid (kp_trans Kd.out hk)
    refine hK.out _ _ ⟨cells2 Y11.out, cells2 Z11.out⟩ (fun _ => ?_)
    clear hK K hQ hk Yd Zd Qd Kd D2
    try simp only [pickOp, Act.put, List.setIfInBounds_toArray, List.set_cons_zero, List.set_cons_succ]
    refine T_pure ?_ (by rfl) (fun w hSw => ?_) ?_
    rotate_left
    · simp only [pickOp]; go_simp; try with_reducible rfl
    try simp only [pickOp, Act.put, List.setIfInBounds_toArray, List.set_cons_zero, List.set_cons_succ]
    refine T_done (NoPanic.normal ?_)
    cases r2 with
    | false =>
      go_wp2
      go_ret
      exact ⟨rfl, K11.out, Q11.out⟩
    | true =>
      go_wp2_with fail
      rw [rounds_succ]
      go_wp2
      go_ret
      exact ⟨rfl, K11.out, Q11.out⟩
end Go.Proofs.Yteiemcnjcdjglaa
