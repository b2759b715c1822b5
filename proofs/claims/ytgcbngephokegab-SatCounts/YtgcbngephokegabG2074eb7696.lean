/- Texts joined, in their order: S5, S6. -/
import Derived.Test.YtgcbngephokegabG82324f0dfe
import Derived.Test.YtgcbngephokegabGc9f63fa7b2
import Derived.Test.YtgcbngephokegabGe7cc0695f7
import Derived.Test.YtgcbngephokegabGc388192ded
/- In how many ways the bits from a set's first one on can be set: the walk (typed by gen/mks5.py). -/
namespace Go.Proofs.Ytgcbngephokegab
open Go.RowKit Wd
set_option linter.unusedVariables false
set_option linter.unusedSimpArgs false

theorem zeroCnt (w : World) : (zeroValue 39).run Try.prog w = .ok (.agg #[.int .u64 0, .int .u64 0]) w := by kernel_rfl
theorem cells2 {w : World} {b : Nat} {x y : Value} (h : Blk w b [x, y]) : w.cell? ⟨b, 0, none⟩ = some x ∧ w.cell? ⟨b, 1, none⟩ = some y := ⟨h.1 0 _ rfl, h.1 1 _ rfl⟩
theorem Sta.kept {Z : Nat → Prop} {p : Nat} {w w' : World} {most : Nat} {ns : List Nd} {b : Nat} (h : Sta Z p w most ns) (k : Keep (fun i => i = b) w w') (hb : Z b) : Sta Z p w' most ns := by
  obtain ⟨a, h1, h2, h3, h4, h5⟩ := h
  exact ⟨a, h1, h2.keep k (fun i hi e => h4 i hi (by rw [e]; exact hb)), h3, h4, fun i hi => Nat.lt_of_lt_of_le (h5 i hi) k.size⟩
/-- A piece of code whose ways meet again, all in one frame. -/
theorem wp_via {P : Program} {c : Code} {Q : Exit → Act → World → Prop} {a : Act} {w : World} (F : World → Prop) (h : ∃ A : Act, c.wp P (fun e a' w' => e = .normal ∧ a' = A ∧ F w') a w ∧ ∀ w', F w' → Q .normal A w') : c.wp P Q a w := by
  obtain ⟨A, h1, h2⟩ := h
  exact Code.wp_mono (fun e a' w' q => by obtain ⟨rfl, rfl, q⟩ := q; exact h2 w' q) h1
/-- Beside a block that turns. -/
theorem kp_blk {w w' : World} {db b : Nat} {c : Value} {cs : List Value} (k : Keep (fun i => i = db) w w') (h : Blk w b (c :: cs)) (hne : b ≠ db) : Blk w' b (c :: cs) := k.blk h hne
theorem kp_trans {db : Nat} {a b c : World} (h : Keep (fun i => i = db) a b) (k : Keep (fun i => i = db) b c) : Keep (fun i => i = db) a c := h.trans k (fun _ _ e => e)
theorem kp_below {db : Nat} {a b c : World} (h : Keep (fun i => i = db) a b) (k : Below b.heap.size b c) : Keep (fun i => i = db) a c := kp_trans h (Keep.of k)

set_option maxRecDepth 100000 in
set_option maxHeartbeats 8000000 in
theorem count_core (W : World) (p : Value) (f v l h a b db : Nat) (x y x' y' s : Nat) (P : World → List (Nat × Nat) → Prop)
    (HP : Hid (∀ w w' m, P w m → Below w.heap.size w w' → P w' m)) (PS : Hid (∀ w m b u u', W.heap.size ≤ b → P w m → P ((w.setCell ⟨b, 0, none⟩ u).setCell ⟨b, 1, none⟩ u') m)) (c1 : ¬ (f : Int) ≤ 1)
    (CL : Hid (∀ w m, P w m → Calls Try.prog 27 #[p, .int .i64 (f : Nat)] w fun e w' => e = .returned (.int .i64 (v : Nat)) ∧ Below w.heap.size w w'))
    (Cl : Hid (∀ w m, P w m → Calls Try.prog 27 #[p, .int .i64 (l : Nat)] w fun e w' => e = .returned (.int .i64 (a : Nat)) ∧ Below w.heap.size w w'))
    (Ch : Hid (∀ w m, P w m → Calls Try.prog 27 #[p, .int .i64 (h : Nat)] w fun e w' => e = .returned (.int .i64 (b : Nat)) ∧ Below w.heap.size w w'))
    (CP : Hid (∀ w m, P w m → Calls Try.prog 47 #[p, .int .i64 (f : Nat), .int .i64 (v : Nat)] w fun e w' => e = .returned (.agg #[.int .i64 (l : Nat), .int .i64 (h : Nat)]) ∧ Below w.heap.size w w'))
    (Dl : Hid (∀ w m, P w m → Calls Try.prog 25 #[p, .int .i64 (l : Nat), .map (some db)] w fun e w' => e = .returned (cn x) ∧ (∃ m', P w' m') ∧ Keep (fun i => i = db) w w'))
    (Dh : Hid (∀ w m, P w m → Calls Try.prog 25 #[p, .int .i64 (h : Nat), .map (some db)] w fun e w' => e = .returned (cn y) ∧ (∃ m', P w' m') ∧ Keep (fun i => i = db) w w'))
    (UP : Hid (∀ w m, P w m → ∃ w', (Instr.mapUpdate 70 (.map (some db)) (.int .i64 (f : Nat)) (.agg #[.int .u64 (hi s), .int .u64 (lo s)])).run Try.prog w = .ok () w' ∧ (∃ m', P w' m') ∧ Only db w w'))
    (q1 : IntKind.i64.wrap ((a : Int) - (v : Int)) = ((a - v : Nat) : Int)) (q2 : IntKind.i64.wrap (((a - v : Nat) : Int) - 1) = ((a - v - 1 : Nat) : Int))
    (r1 : IntKind.i64.wrap ((b : Int) - (v : Int)) = ((b - v : Nat) : Int)) (r2 : IntKind.i64.wrap (((b - v : Nat) : Int) - 1) = ((b - v - 1 : Nat) : Int))
    (U1 : Hid (∀ w, Calls Try.prog 26 #[cn x, .int .i64 ((a - v - 1 : Nat) : Int)] w fun e w' => e = .returned (cn x') ∧ Below w.heap.size w w'))
    (U2 : Hid (∀ w, Calls Try.prog 26 #[cn y, .int .i64 ((b - v - 1 : Nat) : Int)] w fun e w' => e = .returned (cn y') ∧ Below w.heap.size w w'))
    (A1 : Hid (∀ w, Calls Try.prog 48 #[cn 0, cn x'] w fun e w' => e = .returned (cn x') ∧ Below w.heap.size w w'))
    (A2 : Hid (∀ w, Calls Try.prog 48 #[cn x', cn y'] w fun e w' => e = .returned (cn s) ∧ Below w.heap.size w w'))
    (m : List (Nat × Nat)) (hP : P W m) (hlt : db < W.heap.size)
    (LK : Hid (∀ w, P w m → (Instr.lookup 70 (.map (some db)) (.int .i64 (f : Nat)) true).run Try.prog w = .ok (.tuple #[.agg #[.int .u64 0, .int .u64 0], .bool false]) w)) :
    Calls Try.prog 25 #[p, .int .i64 (f : Nat), .map (some db)] W fun e w' => e = .returned (cn s) ∧ (∃ m', P w' m') ∧ Keep (fun i => i = db) W w' := by
  have P0 := Lib.hid hP
  have LT := Lib.hid hlt
  have x0 : ∀ w : World, (Instr.index 89 (.agg #[.int .i64 (l : Nat), .int .i64 (h : Nat)]) (.int .i64 0)).run Try.prog w = .ok (.int .i64 (l : Nat)) w := fun _ => by kernel_rfl
  have x1 : ∀ w : World, (Instr.index 89 (.agg #[.int .i64 (l : Nat), .int .i64 (h : Nat)]) (.int .i64 1)).run Try.prog w = .ok (.int .i64 (h : Nat)) w := fun _ => by kernel_rfl
  clear hP hlt
  go_enter Try.func25, Try.ntmps25
  go_upto_region 1 with fail
  refine at_code (S := fun w1 => Blk w1 W.heap.size [.int .u64 0, .int .u64 0] ∧ Below W.heap.size W w1) ⟨Blk.new _ _ _, bel_al (Below.refl _ _) _⟩ (fun W1 hW => ?_)
  obtain ⟨hX, hb⟩ := hW
  have X1 := Lib.hid hX
  have P1 := Lib.hid (HP.out _ _ _ P0.out hb)
  have K1 := Lib.hid (show Keep (fun i => i = db) W W1 from Keep.of hb)
  have LK1 := LK.out W1 P1.out
  clear hX hb P0 LK
  go_wp2_with fail
  refine at_calls2 (S := fun w => Below W1.heap.size W1 w) (bel_al (Below.refl _ _) _) (fun W2 hb => ?_)
  have X2 := Lib.hid (X1.out.on hb)
  have P2 := Lib.hid (HP.out _ _ _ P1.out hb)
  have K2 := Lib.hid (kp_below K1.out hb)
  clear hb LK1 X1 P1 K1
  refine (CL.out W2 m P2.out).mono ?_
  rintro e w3 ⟨rfl, hb⟩
  have X3 := Lib.hid (X2.out.on hb)
  have P3 := Lib.hid (HP.out _ _ _ P2.out hb)
  have K3 := Lib.hid (kp_below K2.out hb)
  clear hb X2 P2 K2 CL
  go_upto_region 7 with fail
  refine at_code (S := fun w => Blk w w3.heap.size [.int .u64 (hi 0), .int .u64 (lo 0)] ∧ Below w3.heap.size w3 w) ⟨?_, ?_⟩ (fun W4 hW => ?_)
  · rw [hi_zero, lo_zero]
    exact Blk.new w3 _ [.int .u64 0, .int .u64 0]
  · exact bel_al (Below.refl _ _) _
  obtain ⟨hY, hb⟩ := hW
  have Y4 := Lib.hid hY
  have X4 := Lib.hid (X3.out.on hb)
  have P4 := Lib.hid (HP.out _ _ _ P3.out hb)
  have K4 := Lib.hid (kp_below K3.out hb)
  have NE := Lib.hid (show W.heap.size ≠ db ∧ w3.heap.size ≠ db ∧ W.heap.size ≠ w3.heap.size by have a1 := LT.out; have a2 := X3.out.lt; have a3 := K3.out.size; exact ⟨by omega, by omega, by omega⟩)
  have N3 := Lib.hid (show W.heap.size ≤ w3.heap.size from K3.out.size)
  generalize w3.heap.size = b9 at *
  clear hY hb X3 P3 K3
  go_wp2_with fail
  refine (CP.out W4 m P4.out).mono ?_
  rintro e w5 ⟨rfl, hb⟩
  have X5 := Lib.hid (X4.out.on hb)
  have Y5 := Lib.hid (Y4.out.on hb)
  have P5 := Lib.hid (HP.out _ _ _ P4.out hb)
  have K5 := Lib.hid (kp_below K4.out hb)
  clear hb X4 Y4 P4 K4 CP
  go_wp2_with fail
  refine wp_loop_rounds 3 ?_
  rw [rounds_succ]
  go_wp2_with fail
  refine (Cl.out w5 m P5.out).mono ?_
  rintro e w6 ⟨rfl, hb⟩
  have X6 := Lib.hid (X5.out.on hb)
  have Y6 := Lib.hid (Y5.out.on hb)
  have P6 := Lib.hid (HP.out _ _ _ P5.out hb)
  have K6 := Lib.hid (kp_below K5.out hb)
  clear hb X5 Y5 P5 K5
  clear Cl
  go_upto_region 11 with fail
  refine wp_via (F := fun wx => ∃ m1 : List (Nat × Nat), Blk wx W.heap.size [.int .u64 0, .int .u64 0] ∧ Blk wx b9 [.int .u64 (hi x'), .int .u64 (lo x')] ∧ P wx m1 ∧ Keep (fun i => i = db) W wx) ?_
  apply Exists.intro
  refine ⟨?_, ?_⟩
  · skip
    refine wp_region_noPanic ?_
    refine wp_region_alongT (S := fun _ => True) (.pure 1 (.pure 2 (.pure 3 (.pure 5 (.b2 0 (.b1 4 (.b1 6 (.b1 7 (.b1 8 .done)))) 4 (.b2 0 (.b1 6 (.b1 7 (.b1 8 .done))) 6 (.b1 0 (.b1 7 (.b1 8 .done))))))))) (by kernel_rfl) (by as_aux_lemma => kernel_rfl) (by decide) (by as_aux_lemma => kernel_rfl) (fun _ _ _ _ _ h => h) trivial (fun _ => ?_)
    iterate 4 (refine T_pure ?_ (by rfl) (fun w hSw => ?_) ?_; rotate_left; (simp only [pickOp]; go_simp; try with_reducible rfl); try simp only [Act.put, List.setIfInBounds_toArray, List.set_cons_zero, List.set_cons_succ])
    obtain ⟨wd, hwd⟩ : ∃ x, x = w6.drew := ⟨_, rfl⟩
    have hb := (Below.refl w6.heap.size w6).drew
    rw [← hwd] at hb ⊢
    clear hwd
    have X7 := Lib.hid (X6.out.on hb)
    have Y7 := Lib.hid (Y6.out.on hb)
    have P7 := Lib.hid (HP.out _ _ _ P6.out hb)
    have K7 := Lib.hid (kp_below K6.out hb)
    clear hb
    refine T_b2 (fun K hK => ?_) (fun K hK => ?_)
    · skip
      simp only [pickOp]
      obtain ⟨y_0, y_1⟩ := cells2 Y7.out
      go_simp
      refine hK.out _ _ trivial (fun _ => ?_)
      clear hK K y_0 y_1
      try simp only [Act.put, List.setIfInBounds_toArray, List.set_cons_zero, List.set_cons_succ]
      refine T_b1 (fun K hK => ?_)
      skip
      simp only [pickOp]
      go_simp
      refine (Dl.out _ m P7.out).mono ?_
      rintro e w8 ⟨rfl, ⟨m1, hP⟩, hk⟩
      try go_wp2_with fail
      have X8 := Lib.hid (kp_blk hk X7.out NE.out.1)
      have Y8 := Lib.hid (kp_blk hk Y7.out NE.out.2.1)
      have P8 := Lib.hid hP
      have K8 := Lib.hid (kp_trans K7.out hk)
      clear hP hk X7 Y7 P7 K7
      refine hK.out _ _ trivial (fun _ => ?_)
      clear hK K
      try simp only [Act.put, List.setIfInBounds_toArray, List.set_cons_zero, List.set_cons_succ]
      refine T_b1 (fun K hK => ?_)
      skip
      simp only [pickOp]
      go_simp
      refine (U1.out _).mono ?_
      rintro e w9 ⟨rfl, hb⟩
      try go_wp2_with fail
      have X9 := Lib.hid (X8.out.on hb)
      have Y9 := Lib.hid (Y8.out.on hb)
      have P9 := Lib.hid (HP.out _ _ _ P8.out hb)
      have K9 := Lib.hid (kp_below K8.out hb)
      clear hb X8 Y8 P8 K8
      refine hK.out _ _ trivial (fun _ => ?_)
      clear hK K
      try simp only [Act.put, List.setIfInBounds_toArray, List.set_cons_zero, List.set_cons_succ]
      refine T_b1 (fun K hK => ?_)
      skip
      simp only [pickOp]
      go_simp
      refine (A1.out _).mono ?_
      rintro e w10 ⟨rfl, hb⟩
      try go_wp2_with fail
      have X10 := Lib.hid (X9.out.on hb)
      have Y10 := Lib.hid (Y9.out.on hb)
      have P10 := Lib.hid (HP.out _ _ _ P9.out hb)
      have K10 := Lib.hid (kp_below K9.out hb)
      clear hb X9 Y9 P9 K9
      refine hK.out _ _ trivial (fun _ => ?_)
      clear hK K
      try simp only [Act.put, List.setIfInBounds_toArray, List.set_cons_zero, List.set_cons_succ]
      refine T_b1 (fun K hK => ?_)
      skip
      simp only [pickOp]
      obtain ⟨y_0, y_1⟩ := cells2 Y10.out
      have yz_0 := Y10.out.2 0 _ rfl
      have yz_1 := Y10.out.2 1 _ rfl
      go_simp
      refine hK.out _ _ trivial (fun _ => ?_)
      clear hK K y_0 y_1 yz_0 yz_1
      try simp only [Act.put, List.setIfInBounds_toArray, List.set_cons_zero, List.set_cons_succ]
      refine T_done (NoPanic.normal ?_)
      have Yn := Lib.hid (Blk.set (Blk.set Y10.out 0 (.int .u64 (hi x')) (by simp)) 1 (.int .u64 (lo x')) (by simp))
      have Xn := Lib.hid ((X10.out.far ⟨b9, 0, none⟩ (.int .u64 (hi x')) (fun e => NE.out.2.2 e.symm)).far ⟨b9, 1, none⟩ (.int .u64 (lo x')) (fun e => NE.out.2.2 e.symm))
      have Pn := Lib.hid (PS.out _ _ b9 (.int .u64 (hi x')) (.int .u64 (lo x')) N3.out P10.out)
      have Kn := Lib.hid ((K10.out.set ⟨b9, 0, none⟩ (.int .u64 (hi x')) (fun q => absurd q (by have := N3.out; simp; omega))).set ⟨b9, 1, none⟩ (.int .u64 (lo x')) (fun q => absurd q (by have := N3.out; simp; omega)))
      exact ⟨rfl, rfl, m1, Xn.out, Yn.out, Pn.out, Kn.out⟩
    · skip
      simp only [pickOp]
      go_simp
      refine (Dl.out _ m P7.out).mono ?_
      rintro e w8 ⟨rfl, ⟨m1, hP⟩, hk⟩
      try go_wp2_with fail
      have X8 := Lib.hid (kp_blk hk X7.out NE.out.1)
      have Y8 := Lib.hid (kp_blk hk Y7.out NE.out.2.1)
      have P8 := Lib.hid hP
      have K8 := Lib.hid (kp_trans K7.out hk)
      clear hP hk X7 Y7 P7 K7
      refine hK.out _ _ trivial (fun _ => ?_)
      clear hK K
      try simp only [Act.put, List.setIfInBounds_toArray, List.set_cons_zero, List.set_cons_succ]
      refine T_b2 (fun K hK => ?_) (fun K hK => ?_)
      · skip
        simp only [pickOp]
        obtain ⟨y_0, y_1⟩ := cells2 Y8.out
        go_simp
        refine hK.out _ _ trivial (fun _ => ?_)
        clear hK K y_0 y_1
        try simp only [Act.put, List.setIfInBounds_toArray, List.set_cons_zero, List.set_cons_succ]
        refine T_b1 (fun K hK => ?_)
        skip
        simp only [pickOp]
        go_simp
        refine (U1.out _).mono ?_
        rintro e w9 ⟨rfl, hb⟩
        try go_wp2_with fail
        have X9 := Lib.hid (X8.out.on hb)
        have Y9 := Lib.hid (Y8.out.on hb)
        have P9 := Lib.hid (HP.out _ _ _ P8.out hb)
        have K9 := Lib.hid (kp_below K8.out hb)
        clear hb X8 Y8 P8 K8
        refine hK.out _ _ trivial (fun _ => ?_)
        clear hK K
        try simp only [Act.put, List.setIfInBounds_toArray, List.set_cons_zero, List.set_cons_succ]
        refine T_b1 (fun K hK => ?_)
        skip
        simp only [pickOp]
        go_simp
        refine (A1.out _).mono ?_
        rintro e w10 ⟨rfl, hb⟩
        try go_wp2_with fail
        have X10 := Lib.hid (X9.out.on hb)
        have Y10 := Lib.hid (Y9.out.on hb)
        have P10 := Lib.hid (HP.out _ _ _ P9.out hb)
        have K10 := Lib.hid (kp_below K9.out hb)
        clear hb X9 Y9 P9 K9
        refine hK.out _ _ trivial (fun _ => ?_)
        clear hK K
        try simp only [Act.put, List.setIfInBounds_toArray, List.set_cons_zero, List.set_cons_succ]
        refine T_b1 (fun K hK => ?_)
        skip
        simp only [pickOp]
        obtain ⟨y_0, y_1⟩ := cells2 Y10.out
        have yz_0 := Y10.out.2 0 _ rfl
        have yz_1 := Y10.out.2 1 _ rfl
        go_simp
        refine hK.out _ _ trivial (fun _ => ?_)
        clear hK K y_0 y_1 yz_0 yz_1
        try simp only [Act.put, List.setIfInBounds_toArray, List.set_cons_zero, List.set_cons_succ]
        refine T_done (NoPanic.normal ?_)
        have Yn := Lib.hid (Blk.set (Blk.set Y10.out 0 (.int .u64 (hi x')) (by simp)) 1 (.int .u64 (lo x')) (by simp))
        have Xn := Lib.hid ((X10.out.far ⟨b9, 0, none⟩ (.int .u64 (hi x')) (fun e => NE.out.2.2 e.symm)).far ⟨b9, 1, none⟩ (.int .u64 (lo x')) (fun e => NE.out.2.2 e.symm))
        have Pn := Lib.hid (PS.out _ _ b9 (.int .u64 (hi x')) (.int .u64 (lo x')) N3.out P10.out)
        have Kn := Lib.hid ((K10.out.set ⟨b9, 0, none⟩ (.int .u64 (hi x')) (fun q => absurd q (by have := N3.out; simp; omega))).set ⟨b9, 1, none⟩ (.int .u64 (lo x')) (fun q => absurd q (by have := N3.out; simp; omega)))
        exact ⟨rfl, rfl, m1, Xn.out, Yn.out, Pn.out, Kn.out⟩
      · skip
        simp only [pickOp]
        go_simp
        refine (U1.out _).mono ?_
        rintro e w9 ⟨rfl, hb⟩
        try go_wp2_with fail
        have X9 := Lib.hid (X8.out.on hb)
        have Y9 := Lib.hid (Y8.out.on hb)
        have P9 := Lib.hid (HP.out _ _ _ P8.out hb)
        have K9 := Lib.hid (kp_below K8.out hb)
        clear hb X8 Y8 P8 K8
        refine hK.out _ _ trivial (fun _ => ?_)
        clear hK K
        try simp only [Act.put, List.setIfInBounds_toArray, List.set_cons_zero, List.set_cons_succ]
        refine T_b1 (fun K hK => ?_)
        skip
        simp only [pickOp]
        obtain ⟨y_0, y_1⟩ := cells2 Y9.out
        go_simp
        refine hK.out _ _ trivial (fun _ => ?_)
        clear hK K y_0 y_1
        try simp only [Act.put, List.setIfInBounds_toArray, List.set_cons_zero, List.set_cons_succ]
        refine T_b1 (fun K hK => ?_)
        skip
        simp only [pickOp]
        go_simp
        refine (A1.out _).mono ?_
        rintro e w10 ⟨rfl, hb⟩
        try go_wp2_with fail
        have X10 := Lib.hid (X9.out.on hb)
        have Y10 := Lib.hid (Y9.out.on hb)
        have P10 := Lib.hid (HP.out _ _ _ P9.out hb)
        have K10 := Lib.hid (kp_below K9.out hb)
        clear hb X9 Y9 P9 K9
        refine hK.out _ _ trivial (fun _ => ?_)
        clear hK K
        try simp only [Act.put, List.setIfInBounds_toArray, List.set_cons_zero, List.set_cons_succ]
        refine T_b1 (fun K hK => ?_)
        skip
        simp only [pickOp]
        obtain ⟨y_0, y_1⟩ := cells2 Y10.out
        have yz_0 := Y10.out.2 0 _ rfl
        have yz_1 := Y10.out.2 1 _ rfl
        go_simp
        refine hK.out _ _ trivial (fun _ => ?_)
        clear hK K y_0 y_1 yz_0 yz_1
        try simp only [Act.put, List.setIfInBounds_toArray, List.set_cons_zero, List.set_cons_succ]
        refine T_done (NoPanic.normal ?_)
        have Yn := Lib.hid (Blk.set (Blk.set Y10.out 0 (.int .u64 (hi x')) (by simp)) 1 (.int .u64 (lo x')) (by simp))
        have Xn := Lib.hid ((X10.out.far ⟨b9, 0, none⟩ (.int .u64 (hi x')) (fun e => NE.out.2.2 e.symm)).far ⟨b9, 1, none⟩ (.int .u64 (lo x')) (fun e => NE.out.2.2 e.symm))
        have Pn := Lib.hid (PS.out _ _ b9 (.int .u64 (hi x')) (.int .u64 (lo x')) N3.out P10.out)
        have Kn := Lib.hid ((K10.out.set ⟨b9, 0, none⟩ (.int .u64 (hi x')) (fun q => absurd q (by have := N3.out; simp; omega))).set ⟨b9, 1, none⟩ (.int .u64 (lo x')) (fun q => absurd q (by have := N3.out; simp; omega)))
        exact ⟨rfl, rfl, m1, Xn.out, Yn.out, Pn.out, Kn.out⟩
  rintro w10 ⟨m1, hX, hY, hP, hk⟩
  have X10 := Lib.hid hX
  have Y10 := Lib.hid hY
  have P10 := Lib.hid hP
  have K10 := Lib.hid hk
  clear hX hY hP hk X6 Y6 P6 K6 Dl U1 A1
  go_wp2_with fail
  rw [rounds_succ]
  go_wp2_with fail
  refine (Ch.out w10 m1 P10.out).mono ?_
  rintro e w11 ⟨rfl, hb⟩
  have X11 := Lib.hid (X10.out.on hb)
  have Y11 := Lib.hid (Y10.out.on hb)
  have P11 := Lib.hid (HP.out _ _ _ P10.out hb)
  have K11 := Lib.hid (kp_below K10.out hb)
  clear hb X10 Y10 P10 K10
  clear Ch
  go_upto_region 11 with fail
  refine wp_via (F := fun wx => ∃ m2 : List (Nat × Nat), Blk wx W.heap.size [.int .u64 0, .int .u64 0] ∧ Blk wx b9 [.int .u64 (hi s), .int .u64 (lo s)] ∧ P wx m2 ∧ Keep (fun i => i = db) W wx) ?_
  apply Exists.intro
  refine ⟨?_, ?_⟩
  · skip
    refine wp_region_noPanic ?_
    refine wp_region_alongT (S := fun _ => True) (.pure 1 (.pure 2 (.pure 3 (.pure 5 (.b2 0 (.b1 4 (.b1 6 (.b1 7 (.b1 8 .done)))) 4 (.b2 0 (.b1 6 (.b1 7 (.b1 8 .done))) 6 (.b1 0 (.b1 7 (.b1 8 .done))))))))) (by kernel_rfl) (by as_aux_lemma => kernel_rfl) (by decide) (by as_aux_lemma => kernel_rfl) (fun _ _ _ _ _ h => h) trivial (fun _ => ?_)
    iterate 4 (refine T_pure ?_ (by rfl) (fun w hSw => ?_) ?_; rotate_left; (simp only [pickOp]; go_simp; try with_reducible rfl); try simp only [Act.put, List.setIfInBounds_toArray, List.set_cons_zero, List.set_cons_succ])
    obtain ⟨wd, hwd⟩ : ∃ x, x = w11.drew := ⟨_, rfl⟩
    have hb := (Below.refl w11.heap.size w11).drew
    rw [← hwd] at hb ⊢
    clear hwd
    have X12 := Lib.hid (X11.out.on hb)
    have Y12 := Lib.hid (Y11.out.on hb)
    have P12 := Lib.hid (HP.out _ _ _ P11.out hb)
    have K12 := Lib.hid (kp_below K11.out hb)
    clear hb
    refine T_b2 (fun K hK => ?_) (fun K hK => ?_)
    · skip
      simp only [pickOp]
      obtain ⟨y_0, y_1⟩ := cells2 Y12.out
      go_simp
      refine hK.out _ _ trivial (fun _ => ?_)
      clear hK K y_0 y_1
      try simp only [Act.put, List.setIfInBounds_toArray, List.set_cons_zero, List.set_cons_succ]
      refine T_b1 (fun K hK => ?_)
      skip
      simp only [pickOp]
      go_simp
      refine (Dh.out _ m1 P12.out).mono ?_
      rintro e w13 ⟨rfl, ⟨m2, hP⟩, hk⟩
      try go_wp2_with fail
      have X13 := Lib.hid (kp_blk hk X12.out NE.out.1)
      have Y13 := Lib.hid (kp_blk hk Y12.out NE.out.2.1)
      have P13 := Lib.hid hP
      have K13 := Lib.hid (kp_trans K12.out hk)
      clear hP hk X12 Y12 P12 K12
      refine hK.out _ _ trivial (fun _ => ?_)
      clear hK K
      try simp only [Act.put, List.setIfInBounds_toArray, List.set_cons_zero, List.set_cons_succ]
      refine T_b1 (fun K hK => ?_)
      skip
      simp only [pickOp]
      go_simp
      refine (U2.out _).mono ?_
      rintro e w14 ⟨rfl, hb⟩
      try go_wp2_with fail
      have X14 := Lib.hid (X13.out.on hb)
      have Y14 := Lib.hid (Y13.out.on hb)
      have P14 := Lib.hid (HP.out _ _ _ P13.out hb)
      have K14 := Lib.hid (kp_below K13.out hb)
      clear hb X13 Y13 P13 K13
      refine hK.out _ _ trivial (fun _ => ?_)
      clear hK K
      try simp only [Act.put, List.setIfInBounds_toArray, List.set_cons_zero, List.set_cons_succ]
      refine T_b1 (fun K hK => ?_)
      skip
      simp only [pickOp]
      go_simp
      refine (A2.out _).mono ?_
      rintro e w15 ⟨rfl, hb⟩
      try go_wp2_with fail
      have X15 := Lib.hid (X14.out.on hb)
      have Y15 := Lib.hid (Y14.out.on hb)
      have P15 := Lib.hid (HP.out _ _ _ P14.out hb)
      have K15 := Lib.hid (kp_below K14.out hb)
      clear hb X14 Y14 P14 K14
      refine hK.out _ _ trivial (fun _ => ?_)
      clear hK K
      try simp only [Act.put, List.setIfInBounds_toArray, List.set_cons_zero, List.set_cons_succ]
      refine T_b1 (fun K hK => ?_)
      skip
      simp only [pickOp]
      obtain ⟨y_0, y_1⟩ := cells2 Y15.out
      have yz_0 := Y15.out.2 0 _ rfl
      have yz_1 := Y15.out.2 1 _ rfl
      go_simp
      refine hK.out _ _ trivial (fun _ => ?_)
      clear hK K y_0 y_1 yz_0 yz_1
      try simp only [Act.put, List.setIfInBounds_toArray, List.set_cons_zero, List.set_cons_succ]
      refine T_done (NoPanic.normal ?_)
      have Yn := Lib.hid (Blk.set (Blk.set Y15.out 0 (.int .u64 (hi s)) (by simp)) 1 (.int .u64 (lo s)) (by simp))
      have Xn := Lib.hid ((X15.out.far ⟨b9, 0, none⟩ (.int .u64 (hi s)) (fun e => NE.out.2.2 e.symm)).far ⟨b9, 1, none⟩ (.int .u64 (lo s)) (fun e => NE.out.2.2 e.symm))
      have Pn := Lib.hid (PS.out _ _ b9 (.int .u64 (hi s)) (.int .u64 (lo s)) N3.out P15.out)
      have Kn := Lib.hid ((K15.out.set ⟨b9, 0, none⟩ (.int .u64 (hi s)) (fun q => absurd q (by have := N3.out; simp; omega))).set ⟨b9, 1, none⟩ (.int .u64 (lo s)) (fun q => absurd q (by have := N3.out; simp; omega)))
      exact ⟨rfl, rfl, m2, Xn.out, Yn.out, Pn.out, Kn.out⟩
    · skip
      simp only [pickOp]
      go_simp
      refine (Dh.out _ m1 P12.out).mono ?_
      rintro e w13 ⟨rfl, ⟨m2, hP⟩, hk⟩
      try go_wp2_with fail
      have X13 := Lib.hid (kp_blk hk X12.out NE.out.1)
      have Y13 := Lib.hid (kp_blk hk Y12.out NE.out.2.1)
      have P13 := Lib.hid hP
      have K13 := Lib.hid (kp_trans K12.out hk)
      clear hP hk X12 Y12 P12 K12
      refine hK.out _ _ trivial (fun _ => ?_)
      clear hK K
      try simp only [Act.put, List.setIfInBounds_toArray, List.set_cons_zero, List.set_cons_succ]
      refine T_b2 (fun K hK => ?_) (fun K hK => ?_)
      · skip
        simp only [pickOp]
        obtain ⟨y_0, y_1⟩ := cells2 Y13.out
        go_simp
        refine hK.out _ _ trivial (fun _ => ?_)
        clear hK K y_0 y_1
        try simp only [Act.put, List.setIfInBounds_toArray, List.set_cons_zero, List.set_cons_succ]
        refine T_b1 (fun K hK => ?_)
        skip
        simp only [pickOp]
        go_simp
        refine (U2.out _).mono ?_
        rintro e w14 ⟨rfl, hb⟩
        try go_wp2_with fail
        have X14 := Lib.hid (X13.out.on hb)
        have Y14 := Lib.hid (Y13.out.on hb)
        have P14 := Lib.hid (HP.out _ _ _ P13.out hb)
        have K14 := Lib.hid (kp_below K13.out hb)
        clear hb X13 Y13 P13 K13
        refine hK.out _ _ trivial (fun _ => ?_)
        clear hK K
        try simp only [Act.put, List.setIfInBounds_toArray, List.set_cons_zero, List.set_cons_succ]
        refine T_b1 (fun K hK => ?_)
        skip
        simp only [pickOp]
        go_simp
        refine (A2.out _).mono ?_
        rintro e w15 ⟨rfl, hb⟩
        try go_wp2_with fail
        have X15 := Lib.hid (X14.out.on hb)
        have Y15 := Lib.hid (Y14.out.on hb)
        have P15 := Lib.hid (HP.out _ _ _ P14.out hb)
        have K15 := Lib.hid (kp_below K14.out hb)
        clear hb X14 Y14 P14 K14
        refine hK.out _ _ trivial (fun _ => ?_)
        clear hK K
        try simp only [Act.put, List.setIfInBounds_toArray, List.set_cons_zero, List.set_cons_succ]
        refine T_b1 (fun K hK => ?_)
        skip
        simp only [pickOp]
        obtain ⟨y_0, y_1⟩ := cells2 Y15.out
        have yz_0 := Y15.out.2 0 _ rfl
        have yz_1 := Y15.out.2 1 _ rfl
        go_simp
        refine hK.out _ _ trivial (fun _ => ?_)
        clear hK K y_0 y_1 yz_0 yz_1
        try simp only [Act.put, List.setIfInBounds_toArray, List.set_cons_zero, List.set_cons_succ]
        refine T_done (NoPanic.normal ?_)
        have Yn := Lib.hid (Blk.set (Blk.set Y15.out 0 (.int .u64 (hi s)) (by simp)) 1 (.int .u64 (lo s)) (by simp))
        have Xn := Lib.hid ((X15.out.far ⟨b9, 0, none⟩ (.int .u64 (hi s)) (fun e => NE.out.2.2 e.symm)).far ⟨b9, 1, none⟩ (.int .u64 (lo s)) (fun e => NE.out.2.2 e.symm))
        have Pn := Lib.hid (PS.out _ _ b9 (.int .u64 (hi s)) (.int .u64 (lo s)) N3.out P15.out)
        have Kn := Lib.hid ((K15.out.set ⟨b9, 0, none⟩ (.int .u64 (hi s)) (fun q => absurd q (by have := N3.out; simp; omega))).set ⟨b9, 1, none⟩ (.int .u64 (lo s)) (fun q => absurd q (by have := N3.out; simp; omega)))
        exact ⟨rfl, rfl, m2, Xn.out, Yn.out, Pn.out, Kn.out⟩
      · skip
        simp only [pickOp]
        go_simp
        refine (U2.out _).mono ?_
        rintro e w14 ⟨rfl, hb⟩
        try go_wp2_with fail
        have X14 := Lib.hid (X13.out.on hb)
        have Y14 := Lib.hid (Y13.out.on hb)
        have P14 := Lib.hid (HP.out _ _ _ P13.out hb)
        have K14 := Lib.hid (kp_below K13.out hb)
        clear hb X13 Y13 P13 K13
        refine hK.out _ _ trivial (fun _ => ?_)
        clear hK K
        try simp only [Act.put, List.setIfInBounds_toArray, List.set_cons_zero, List.set_cons_succ]
        refine T_b1 (fun K hK => ?_)
        skip
        simp only [pickOp]
        obtain ⟨y_0, y_1⟩ := cells2 Y14.out
        go_simp
        refine hK.out _ _ trivial (fun _ => ?_)
        clear hK K y_0 y_1
        try simp only [Act.put, List.setIfInBounds_toArray, List.set_cons_zero, List.set_cons_succ]
        refine T_b1 (fun K hK => ?_)
        skip
        simp only [pickOp]
        go_simp
        refine (A2.out _).mono ?_
        rintro e w15 ⟨rfl, hb⟩
        try go_wp2_with fail
        have X15 := Lib.hid (X14.out.on hb)
        have Y15 := Lib.hid (Y14.out.on hb)
        have P15 := Lib.hid (HP.out _ _ _ P14.out hb)
        have K15 := Lib.hid (kp_below K14.out hb)
        clear hb X14 Y14 P14 K14
        refine hK.out _ _ trivial (fun _ => ?_)
        clear hK K
        try simp only [Act.put, List.setIfInBounds_toArray, List.set_cons_zero, List.set_cons_succ]
        refine T_b1 (fun K hK => ?_)
        skip
        simp only [pickOp]
        obtain ⟨y_0, y_1⟩ := cells2 Y15.out
        have yz_0 := Y15.out.2 0 _ rfl
        have yz_1 := Y15.out.2 1 _ rfl
        go_simp
        refine hK.out _ _ trivial (fun _ => ?_)
        clear hK K y_0 y_1 yz_0 yz_1
        try simp only [Act.put, List.setIfInBounds_toArray, List.set_cons_zero, List.set_cons_succ]
        refine T_done (NoPanic.normal ?_)
        have Yn := Lib.hid (Blk.set (Blk.set Y15.out 0 (.int .u64 (hi s)) (by simp)) 1 (.int .u64 (lo s)) (by simp))
        have Xn := Lib.hid ((X15.out.far ⟨b9, 0, none⟩ (.int .u64 (hi s)) (fun e => NE.out.2.2 e.symm)).far ⟨b9, 1, none⟩ (.int .u64 (lo s)) (fun e => NE.out.2.2 e.symm))
        have Pn := Lib.hid (PS.out _ _ b9 (.int .u64 (hi s)) (.int .u64 (lo s)) N3.out P15.out)
        have Kn := Lib.hid ((K15.out.set ⟨b9, 0, none⟩ (.int .u64 (hi s)) (fun q => absurd q (by have := N3.out; simp; omega))).set ⟨b9, 1, none⟩ (.int .u64 (lo s)) (fun q => absurd q (by have := N3.out; simp; omega)))
        exact ⟨rfl, rfl, m2, Xn.out, Yn.out, Pn.out, Kn.out⟩
  rintro w15 ⟨m2, hX, hY, hP, hk⟩
  have X15 := Lib.hid hX
  have Y15 := Lib.hid hY
  have P15 := Lib.hid hP
  have K15 := Lib.hid hk
  clear hX hY hP hk X11 Y11 P11 K11 Dh U2 A2
  go_wp2_with fail
  rw [rounds_succ]
  obtain ⟨wu, hup, ⟨m3, hP3⟩, hO⟩ := UP.out w15 m2 P15.out
  have ku := Lib.hid (show Keep (fun i => i = db) w15 wu from (Keep.refl _ _).only hO (fun _ => rfl))
  have Xu := Lib.hid (kp_blk ku.out X15.out NE.out.1)
  have Yu := Lib.hid (kp_blk ku.out Y15.out NE.out.2.1)
  have Pu := Lib.hid hP3
  have Ku := Lib.hid (kp_trans K15.out ku.out)
  obtain ⟨y_0, y_1⟩ := cells2 Y15.out
  obtain ⟨yu_0, yu_1⟩ := cells2 Yu.out
  obtain ⟨xu_0, xu_1⟩ := cells2 Xu.out
  have xz_0 := Xu.out.2 0 _ rfl
  have xz_1 := Xu.out.2 1 _ rfl
  clear hP3 hO ku X15 Y15 P15 K15 UP x0 x1
  go_wp2
  refine bodyPost_ret (v := cn s) (by simp [results, Try.results25, go_sem, xu_0, xu_1]) rfl ⟨rfl, ⟨m3, PS.out _ _ W.heap.size (.int .u64 (hi s)) (.int .u64 (lo s)) (Nat.le_refl _) Pu.out⟩, ?_⟩
  exact (Ku.out.set ⟨W.heap.size, 0, none⟩ (.int .u64 (hi s)) (fun q => absurd q (by simp))).set ⟨W.heap.size, 1, none⟩ (.int .u64 (lo s)) (fun q => absurd q (by simp))
end Go.Proofs.Ytgcbngephokegab
/- How many headers a set has: the calls' contracts. -/
namespace Go.Proofs.Ytgcbngephokegab
open Go.RowKit Go.Maps Go.MapKept Go.ChangeMaps Go.WideElems Go.Joins Wd
set_option linter.unusedVariables false
set_option linter.unusedSimpArgs false

abbrev cnv : Nat → Value := fun n => cn n
/-- What was counted is so. -/
structure MW (ns : List Nd) (m : List (Nat × Nat)) : Prop where
  ok : ∀ p ∈ m, p.1 < ns.length ∧ p.2 = wy ns p.1
  one : (m.map (·.1)).Nodup
theorem MW.few {ns : List Nd} {m : List (Nat × Nat)} (h : MW ns m) : m.length ≤ ns.length := by
  have := nodup_sub _ (List.range ns.length) h.one (fun v hv => by
    obtain ⟨x, hx, rfl⟩ := List.mem_map.1 hv
    rw [List.mem_range]; exact (h.ok x hx).1)
  rwa [List.length_map, List.length_range] at this
/-- An arena and what was counted beside it, all ahead of block n. -/
structure Cst (p most db n : Nat) (ns : List Nd) (w : World) (m : List (Nat × Nat)) : Prop where
  dlt : db < n
  nle : n ≤ w.heap.size
  arn : ∃ a : AL, a.p = p ∧ Ar w a most ns ∧ WF ns ∧ ∀ k, a.has k → k < n ∧ k ≠ db
  mp : MapV Try.prog 3 ikv cnv w db m
  mv : MW ns m
section
variable {p most db n : Nat} {ns : List Nd} {w w' : World} {m : List (Nat × Nat)}
theorem Cst.sta (h : Cst p most db n ns w m) : Sta (fun k => k = db) p w most ns := by
  obtain ⟨h1, h2, ⟨a, a1, a2, a3, a4⟩, -, -⟩ := h
  exact ⟨a, a1, a2, a3, fun k hk q => (a4 k hk).2 q, fun k hk => by omega⟩
theorem Cst.on (h : Cst p most db n ns w m) (hb : Below w.heap.size w w') : Cst p most db n ns w' m := by
  obtain ⟨h1, h2, ⟨a, a1, a2, a3, a4⟩, h4, h5⟩ := h
  exact ⟨h1, by have := hb.size; omega, ⟨a, a1, a2.on hb, a3, a4⟩, h4.on hb, h5⟩
theorem Cst.here (h : Cst p most db n ns w m) : Cst p most db w.heap.size ns w m := by
  obtain ⟨h1, h2, ⟨a, a1, a2, a3, a4⟩, h4, h5⟩ := h
  exact ⟨by omega, Nat.le_refl _, ⟨a, a1, a2, a3, fun k hk => ⟨by have := (a4 k hk).1; omega, (a4 k hk).2⟩⟩, h4, h5⟩
theorem Cst.kept {m' : List (Nat × Nat)} (h : Cst p most db n ns w m) (k : Keep (fun i => i = db) w w') (hm : MapV Try.prog 3 ikv cnv w' db m') (hv : MW ns m') : Cst p most db n ns w' m' := by
  obtain ⟨h1, h2, ⟨a, a1, a2, a3, a4⟩, h4, h5⟩ := h
  exact ⟨h1, by have := k.size; omega, ⟨a, a1, a2.keep k (fun i hi e => (a4 i hi).2 e), a3, a4⟩, hm, hv⟩
theorem Cst.set2 (h : Cst p most db n ns w m) {b : Nat} (hb : n ≤ b) (u u' : Value) : Cst p most db n ns ((w.setCell ⟨b, 0, none⟩ u).setCell ⟨b, 1, none⟩ u') m := by
  obtain ⟨h1, h2, ⟨a, a1, a2, a3, a4⟩, h4, h5⟩ := h
  have k := ((Keep.refl (fun i => i = b) w).set ⟨b, 0, none⟩ u (fun _ => rfl)).set ⟨b, 1, none⟩ u' (fun _ => rfl)
  exact ⟨h1, by have := k.size; omega, ⟨a, a1, a2.keep k (fun i hi e => by have := (a4 i hi).1; omega), a3, a4⟩, h4.same (k.block _ h4.lt (by omega)), h5⟩
end
theorem keyI (k : Nat) (h : k ≤ 262144) : keyOf Try.prog 3 (ikv k) = some (.int .i64 (k : Nat)) := key_int k (by omega)
set_option maxRecDepth 100000 in
set_option maxHeartbeats 1000000 in
theorem count_end (p d : Value) (f : Nat) (hf : f ≤ 1) (W : World) : Calls Try.prog 25 #[p, .int .i64 (f : Nat), d] W fun e w' => e = .returned (cn f) ∧ Below W.heap.size W w' := by
  have C : Hid (∀ w, Calls Try.prog 30 #[.int .u64 (f : Nat)] w fun e w' => e = .returned (cn f) ∧ Below w.heap.size w w') := Lib.hid (fun w => by
    have := of_any (f : Nat) w
    rw [cv_cn (n := f) (hi_small f (by omega)).symm (lo_small f (by omega)).symm] at this
    exact this)
  have c1 : (f : Int) ≤ 1 := by omega
  have c2 : IntKind.u64.wrap (f : Int) = (f : Int) := by rw [wrap_m64]; unfold m64; omega
  clear hf
  go_enter Try.func25, Try.ntmps25
  go_upto_region 1 with fail
  refine at_code (S := fun w1 => Blk w1 W.heap.size [.int .u64 0, .int .u64 0] ∧ Below W.heap.size W w1) ⟨Blk.new _ _ _, bel_al (Below.refl _ _) _⟩ (fun W1 hW => ?_)
  obtain ⟨hX, hb⟩ := hW
  have X1 := Lib.hid hX
  have B1 := Lib.hid hb
  clear hX hb
  go_wp2_with fail
  refine (C.out W1).mono ?_
  rintro e w2 ⟨rfl, hb⟩
  have X2 := Lib.hid (X1.out.on hb)
  have B2 := Lib.hid (bel_on' B1.out hb)
  clear hb C X1 B1
  obtain ⟨x_0, x_1⟩ := cells2 X2.out
  have z_0 := X2.out.2 0 _ rfl
  have z_1 := X2.out.2 1 _ rfl
  go_wp2
  refine bodyPost_ret (v := cn f) (by simp [results, Try.results25, go_sem, x_0, x_1]) rfl ⟨rfl, ?_⟩
  exact (B2.out.setCell (Nat.le_refl _) _).setCell (Nat.le_refl _) _
set_option maxRecDepth 100000 in
set_option maxHeartbeats 1000000 in
theorem count_known (p : Value) (f db s : Nat) (hf : ¬ (f : Int) ≤ 1) (W : World)
    (LK : Hid (∀ w, Below W.heap.size W w → (Instr.lookup 70 (.map (some db)) (.int .i64 (f : Nat)) true).run Try.prog w = .ok (.tuple #[.agg #[.int .u64 (hi s), .int .u64 (lo s)], .bool true]) w)) :
    Calls Try.prog 25 #[p, .int .i64 (f : Nat), .map (some db)] W fun e w' => e = .returned (cn s) ∧ Below W.heap.size W w' := by
  go_enter Try.func25, Try.ntmps25
  go_upto_region 1 with fail
  refine at_code (S := fun w1 => Blk w1 W.heap.size [.int .u64 0, .int .u64 0] ∧ Below W.heap.size W w1) ⟨Blk.new _ _ _, bel_al (Below.refl _ _) _⟩ (fun W1 hW => ?_)
  obtain ⟨hX, hb⟩ := hW
  have X1 := Lib.hid hX
  have B1 := Lib.hid hb
  have lk := LK.out W1 hb
  clear hX hb LK
  go_upto_region 5 with fail
  refine at_code (S := fun w => Blk w W1.heap.size [.int .u64 (hi s), .int .u64 (lo s)] ∧ Below W1.heap.size W1 w) ⟨Blk.new _ _ _, bel_al (Below.refl _ _) _⟩ (fun W2 hW => ?_)
  obtain ⟨hY, hb⟩ := hW
  have X2 := Lib.hid (X1.out.on hb)
  have B2 := Lib.hid (bel_on' B1.out hb)
  have ne := Nat.ne_of_lt X1.out.lt
  obtain ⟨y_0, y_1⟩ := cells2 hY
  obtain ⟨x_0, x_1⟩ := cells2 X2.out
  have z_0 := X2.out.2 0 _ rfl
  have z_1 := X2.out.2 1 _ rfl
  clear hb hY X1 B1 lk
  go_wp2
  refine bodyPost_ret (v := cn s) (by simp [results, Try.results25, go_sem, x_0, x_1]) rfl ⟨rfl, ?_⟩
  exact (B2.out.setCell (Nat.le_refl _) _).setCell (Nat.le_refl _) _
theorem wrap_sub (a b : Nat) (hab : b ≤ a) (ha : a ≤ 104) : IntKind.i64.wrap ((a : Int) - (b : Int)) = ((a - b : Nat) : Int) := by
  rw [IntKind.wrap_i64]; omega
theorem wrap_one (a : Nat) (h1 : 1 ≤ a) (ha : a ≤ 104) : IntKind.i64.wrap ((a : Int) - 1) = ((a - 1 : Nat) : Int) := by
  rw [IntKind.wrap_i64]; omega
theorem MM_pow : MM = 2 ^ 128 := by decide
theorem lt_MM {a k : Nat} (h : a ≤ 2 ^ k) (hk : k ≤ 105) : a < MM := by
  rw [MM_pow]
  exact Nat.lt_of_le_of_lt (Nat.le_trans h (Nat.pow_le_pow_right (by omega) hk)) (Nat.pow_lt_pow_right (by omega) (by omega))
theorem up_to (a n k : Nat) (hn : n ≤ 104) (h : a * 2 ^ n ≤ 2 ^ k) (hk : k ≤ 105) : upI a ((n : Nat) : Int) = a * 2 ^ n := by
  rw [upI_in a n (by omega)]; unfold upN; rw [Nat.mod_eq_of_lt (lt_MM h hk)]
theorem scount_f (p most db : Nat) (ns : List Nd) (hlen : ns.length ≤ 262144) : ∀ (k f : Nat) (w : World) (m : List (Nat × Nat)), f < k → f < ns.length → Cst p most db w.heap.size ns w m →
    Calls Try.prog 25 #[.pointer (some ⟨p, 0, none⟩), .int .i64 (f : Nat), .map (some db)] w fun e w' => e = .returned (cn (wy ns f)) ∧ (∃ m', MapV Try.prog 3 ikv cnv w' db m' ∧ MW ns m') ∧ Keep (fun i => i = db) w w' := by
  intro k
  induction k with
  | zero => intro f w m h; omega
  | succ k ih =>
    intro f w m hk hf hP
    rcases Nat.lt_or_ge f 2 with q | q
    · refine (count_end _ _ f (by omega) w).mono ?_
      rintro e w' ⟨rfl, hb⟩
      rw [wy_end ns (by omega)]
      exact ⟨rfl, ⟨m, hP.mp.on hb, hP.mv⟩, Keep.of hb⟩
    have c1 : ¬ (f : Int) ≤ 1 := by omega
    have K : Keyed Try.prog 3 := keyedInt
    have hkey := keyI f (by omega)
    by_cases hm : f ∈ m.map (·.1)
    · obtain ⟨⟨f', v⟩, hx, rfl⟩ := List.mem_map.1 hm
      have hv := (hP.mv.ok _ hx).2
      simp only at hv hkey hf hk q c1
      subst hv
      refine (count_known _ f' db (wy ns f') c1 w (Lib.hid (fun w' hb => ?_))).mono ?_
      · exact mapV_some keyedInt Try.underlying70 zeroCnt ikv_inj true (hP.mp.on hb) hkey hx hP.mv.one
      · rintro e w' ⟨rfl, hb⟩
        exact ⟨rfl, ⟨m, hP.mp.on hb, hP.mv⟩, Keep.of hb⟩
    obtain ⟨h, -⟩ := show WF ns ∧ True from ⟨hP.sta.wf, trivial⟩
    obtain ⟨a1, a2, -, a3, a4, a5⟩ := h.parts q hf
    have b1 := wy_le h _ (show (ns.getD f bot).l < ns.length by omega)
    have b2 := wy_le h _ (show (ns.getD f bot).h < ns.length by omega)
    have b3 := wy_le h f hf
    have l1 := lv_le h (f := (ns.getD f bot).l)
    have l2 := lv_le h (f := (ns.getD f bot).h)
    have e0 := wy_node h q hf
    obtain ⟨l, hl⟩ : ∃ l, (ns.getD f bot).l = l := ⟨_, rfl⟩
    obtain ⟨g, hg⟩ : ∃ g, (ns.getD f bot).h = g := ⟨_, rfl⟩
    rw [hl, hg] at e0
    rw [hl] at a1 a3 b1 l1
    rw [hg] at a2 a4 b2 l2
    have u1 : wy ns l * 2 ^ (lv ns l - lv ns f - 1) ≤ 2 ^ (104 - lv ns f) := by omega
    have u2 : wy ns g * 2 ^ (lv ns g - lv ns f - 1) ≤ 2 ^ (104 - lv ns f) := by omega
    have T1 := up_to (wy ns l) (lv ns l - lv ns f - 1) _ (by omega) u1 (by omega)
    have T2 := up_to (wy ns g) (lv ns g - lv ns f - 1) _ (by omega) u2 (by omega)
    have X1 := lt_MM u1 (by omega)
    have X2 := lt_MM u2 (by omega)
    have S1 := lt_MM b1 (by omega)
    have S2 := lt_MM b2 (by omega)
    have S3 := lt_MM b3 (by omega)
    have spt : ∀ (w : World) (m : List (Nat × Nat)), Cst p most db w.heap.size ns w m → Calls Try.prog _ #[.pointer (some ⟨p, 0, none⟩), .int .i64 (f : Nat), .int .i64 (lv ns f : Nat)] w fun e w' => e = .returned (.agg #[.int .i64 (l : Nat), .int .i64 (g : Nat)]) ∧ Below w.heap.size w w' := fun w m hP => by
      have := sparts hP.sta f (lv ns f) hf
      rw [ptF_at rfl, hl, hg] at this
      exact this
    have fin : ∀ (e : Ending) (w' : World), (e = .returned (cn (wy ns f)) ∧ (∃ m', Cst p most db w.heap.size ns w' m') ∧ Keep (fun i => i = db) w w') → (e = .returned (cn (wy ns f)) ∧ (∃ m', MapV Try.prog 3 ikv cnv w' db m' ∧ MW ns m') ∧ Keep (fun i => i = db) w w') := fun e w' q => ⟨q.1, by obtain ⟨m', hm'⟩ := q.2.1; exact ⟨m', hm'.mp, hm'.mv⟩, q.2.2⟩
    refine (count_core w (.pointer (some ⟨p, 0, none⟩)) f (lv ns f) l g (lv ns l) (lv ns g) db (wy ns l) (wy ns g) (wy ns l * 2 ^ (lv ns l - lv ns f - 1)) (wy ns g * 2 ^ (lv ns g - lv ns f - 1)) (wy ns f) (Cst p most db w.heap.size ns)
      (Lib.hid (fun _ _ _ hc hb => hc.on hb)) (Lib.hid (fun _ _ b u u' hb hc => hc.set2 hb u u')) c1 (Lib.hid (fun w m hc => slevel hc.sta f hf)) (Lib.hid (fun w m hc => slevel hc.sta l (by omega))) (Lib.hid (fun w m hc => slevel hc.sta g (by omega)))
      (Lib.hid (fun w m hc => spt w m hc.here)) (Lib.hid (fun w' m' hc => ?_)) (Lib.hid (fun w' m' hc => ?_)) (Lib.hid (fun w' m' hc => ?_)) (wrap_sub _ _ (by omega) (by omega)) (wrap_one _ (by omega) (by omega)) (wrap_sub _ _ (by omega) (by omega)) (wrap_one _ (by omega) (by omega))
      (Lib.hid (fun w => ?_)) (Lib.hid (fun w => ?_)) (Lib.hid (fun w => ?_)) (Lib.hid (fun w => ?_)) m hP hP.dlt (Lib.hid (fun w' hc => ?_))).mono (fun e w' q => fin e w' q)
    · refine (ih l w' m' (by omega) (by omega) hc.here).mono ?_
      rintro e w2 ⟨rfl, ⟨m2, k1, k2⟩, k3⟩
      exact ⟨rfl, ⟨m2, hc.kept k3 k1 k2⟩, k3⟩
    · refine (ih g w' m' (by omega) (by omega) hc.here).mono ?_
      rintro e w2 ⟨rfl, ⟨m2, k1, k2⟩, k3⟩
      exact ⟨rfl, ⟨m2, hc.kept k3 k1 k2⟩, k3⟩
    · have hfew := hc.mv.few
      obtain ⟨w2, k1, k2, k3⟩ := mapV_store (m' := (f, wy ns f) :: m'.filter (fun p => p.1 != f)) (vv := cnv) keyedInt Try.underlying70 ikv_inj hc.mp (v := wy ns f) hkey (by unfold maxLen; omega) (fun p => by
        rw [List.mem_cons, List.mem_filter]; simp)
      refine ⟨w2, k1, ⟨_, hc.kept ((Keep.refl _ _).only k3 (fun _ => rfl)) k2 ⟨fun p hp => ?_, ?_⟩⟩, k3⟩
      · rcases List.mem_cons.1 hp with rfl | hp
        · exact ⟨hf, rfl⟩
        · exact hc.mv.ok p (List.mem_filter.1 hp).1
      · rw [List.map_cons, List.nodup_cons]
        refine ⟨fun q => ?_, List.Pairwise.sublist (List.Sublist.map _ List.filter_sublist) hc.mv.one⟩
        obtain ⟨x, hx, e⟩ := List.mem_map.1 q
        have := (List.mem_filter.1 hx).2
        simp [e] at this
    · have := up_any (wy ns l) ((lv ns l - lv ns f - 1 : Nat) : Int) S1 w
      rw [T1] at this
      exact this
    · have := up_any (wy ns g) ((lv ns g - lv ns f - 1 : Nat) : Int) S2 w
      rw [T2] at this
      exact this
    · have := add_any 0 (wy ns l * 2 ^ (lv ns l - lv ns f - 1)) MM_pos X1 w
      rw [Nat.zero_add, Nat.mod_eq_of_lt X1] at this
      exact this
    · have := add_any (wy ns l * 2 ^ (lv ns l - lv ns f - 1)) (wy ns g * 2 ^ (lv ns g - lv ns f - 1)) X1 X2 w
      rw [← e0, Nat.mod_eq_of_lt S3] at this
      exact this
    · exact mapV_none keyedInt Try.underlying70 zeroCnt ikv_inj true hc.mp hkey hm
end Go.Proofs.Ytgcbngephokegab
