/- Two sets joined, bit by bit: the walk. -/
import Derived.Test.YtgcbngephokegabG292254fd1d
namespace Go.Proofs.Ytgcbngephokegab
open Go.RowKit Go.Maps Go.MapKept Go.ChangeMaps Go.WideElems Go.Joins
set_option linter.unusedVariables false

set_option maxRecDepth 100000 in
set_option maxHeartbeats 8000000 in
theorem pair_any (kind most jb db : Nat) : ∀ (k : Nat) (ns : List Nd) (m : Memo) (f g : Nat) (w : World) (a : AL), Ar w a most ns → WF ns → MV kind ns m → Jn w a jb db kind m → f < ns.length → g < ns.length → 105 ≤ k + min (lv ns f) (lv ns g) →
    Calls Try.prog 54 #[.pointer (some ⟨jb, 0, none⟩), .int .i64 (f : Nat), .int .i64 (g : Nat)] w fun e w' => e = .returned (.tuple #[.int .i64 (rv (pairF kind most k ns m f g).1 : Nat), .int .i64 (er (pairF kind most k ns m f g).1)]) ∧ ∃ a', Ar w' a' most (pairF kind most k ns m f g).2.1 ∧ Jn w' a' jb db kind (pairF kind most k ns m f g).2.2 ∧ Tr (fun i => i = db) w a w' a' := by
  intro k
  induction k with
  | zero => intro ns m f g w a _ h _ _ _ _ hk; have := lv_le h (f := f); omega
  | succ k ih =>
    intro ns m f g w a hA hW hM hJ hf hg hk
    have IH := Lib.hid ih
    clear ih
    obtain ⟨R, hR⟩ : ∃ R, pairF kind most (k + 1) ns m f g = R := ⟨_, rfl⟩
    rw [hR]
    have HR := Lib.hid hR
    have A0 := Lib.hid hA
    have J0 := Lib.hid hJ
    have HW := Lib.hid hW
    have HM := Lib.hid hM
    have hk0 := Lib.hid hk
    have hlen := hA.len
    obtain ⟨KL, hKL⟩ := key_pair (f, g) (by show f ≤ _; omega) (by show g ≤ _; omega)
    have HK := Lib.hid hKL
    clear hR hA hW hM hJ hk hKL
    obtain ⟨j_0, j_1, j_2⟩ : _ ∧ _ ∧ _ := ⟨J0.out.s.1 0 _ rfl, J0.out.s.1 1 _ rfl, J0.out.s.1 2 _ rfl⟩
    cases hp : plainF kind f g with
    | some r =>
      have hz : R = (some r, ns, m) := by rw [← HR.out]; unfold pairF; rw [hp]
      subst hz
      have CP := Lib.hid (plain_any kind f g w)
      rw [hp] at CP
      replace CP : Hid (Calls Try.prog _ _ w fun e w' => e = .returned (.tuple #[.int .i64 (r : Nat), .bool true]) ∧ w = w') := CP
      go_enter Try.func54, Try.ntmps54
      go_wp2_with fail
      refine CP.out.mono ?_
      rintro e w' ⟨rfl, rfl⟩
      go_wp2
      go_ret2
      exact ⟨rfl, a, A0.out, J0.out, Tr.refl _ _ _⟩
    | none =>
      have CP := Lib.hid (plain_any kind f g w)
      rw [hp] at CP
      replace CP : Hid (Calls Try.prog _ _ w fun e w' => e = .returned (.tuple #[.int .i64 0, .bool false]) ∧ w = w') := CP
      cases hl : lookM (f, g) m with
      | some r =>
        have hz : R = (some r, ns, m) := by rw [← HR.out]; unfold pairF; rw [hp]; simp only; rw [hl]
        subst hz
        have hlk : (Instr.lookup 97 (.map (some db)) (.agg #[.int .i64 (f : Nat), .int .i64 (g : Nat)]) true).run Try.prog w = .ok (.tuple #[.int .i64 (r : Nat), .bool true]) w := mapG_some keyedPair Try.underlying97 zeroInt pkv_inj true J0.out.d (k := (f, g)) HK.out (lookM_some hl) HM.out.one
        go_enter Try.func54, Try.ntmps54
        go_wp2_with fail
        refine CP.out.mono ?_
        rintro e w' ⟨rfl, rfl⟩
        go_wp2
        go_ret2
        exact ⟨rfl, a, A0.out, J0.out, Tr.refl _ _ _⟩
      | none =>
        have hlk : (Instr.lookup 97 (.map (some db)) (.agg #[.int .i64 (f : Nat), .int .i64 (g : Nat)]) true).run Try.prog w = .ok (.tuple #[.int .i64 0, .bool false]) w := mapG_none keyedPair Try.underlying97 zeroInt pkv_inj true J0.out.d (k := (f, g)) HK.out (lookM_none hl)
        obtain ⟨L, hL⟩ : ∃ L, min (lv ns f) (lv ns g) = L := ⟨_, rfl⟩
        obtain ⟨x, hx⟩ : ∃ x, partF ns f L = x := ⟨_, rfl⟩
        obtain ⟨y, hy⟩ : ∃ y, partF ns g L = y := ⟨_, rfl⟩
        have ST := Lib.hid (pairF_step (most := most) HW.out HM.out hf hg (by have := hk0.out; omega) hp hl hL hx hy)
        obtain ⟨vf, hvf⟩ : ∃ v, lv ns f = v := ⟨_, rfl⟩
        obtain ⟨vg, hvg⟩ : ∃ v, lv ns g = v := ⟨_, rfl⟩
        have f_0 : w.cell? ⟨a.q, f * 3, none⟩ = some (.int .i64 (vf : Nat)) := A0.out.node (j := 0) hf (by rw [← hvf]; rfl)
        have g_0 : w.cell? ⟨a.q, g * 3, none⟩ = some (.int .i64 (vg : Nat)) := A0.out.node (j := 0) hg (by rw [← hvg]; rfl)
        have hmin : (if vg < vf then ((vg : Nat) : Int) else ((vf : Nat) : Int)) = ((L : Nat) : Int) := by split <;> omega
        obtain ⟨a_0, a_1, a_2⟩ : _ ∧ _ ∧ _ := ⟨A0.out.s.1 0 _ rfl, A0.out.s.1 1 _ rfl, A0.out.s.1 2 _ rfl⟩
        have CX : Hid (∀ W, Ar W a most ns → Calls Try.prog _ #[.pointer (some ⟨a.p, 0, none⟩), .int .i64 (f : Nat), .int .i64 (L : Nat)] W fun e w' => e = .returned (.agg #[.int .i64 (x.v : Nat), .int .i64 (x.l : Nat), .int .i64 (x.h : Nat)]) ∧ Below W.heap.size W w') := fun W h => by have := parts_any a most ns f L W h hf; rw [hx] at this; exact this
        have CY : Hid (∀ W, Ar W a most ns → Calls Try.prog _ #[.pointer (some ⟨a.p, 0, none⟩), .int .i64 (g : Nat), .int .i64 (L : Nat)] W fun e w' => e = .returned (.agg #[.int .i64 (y.v : Nat), .int .i64 (y.l : Nat), .int .i64 (y.h : Nat)]) ∧ Below W.heap.size W w') := fun W h => by have := parts_any a most ns g L W h hg; rw [hy] at this; exact this
        have HX := Lib.hid hx
        have HY := Lib.hid hy
        clear hx hy hL hvf hvg hp hl
        go_enter Try.func54, Try.ntmps54
        go_wp2_with fail
        refine CP.out.mono ?_
        rintro e w' ⟨rfl, rfl⟩
        go_upto_region 7 with fail
        refine wp_region_noPanic ?_
        refine wp_region_along (S := fun w' => w' = w.drew) ([(0, true), (1, true), (2, true), (3, true), (4, true), (5, true), (6, true), (7, true), (8, true), (9, true), (10, true), (11, true), (12, true), (13, true), (14, true), (15, true)] ++ ([(16, true), (17, true), (18, true), (19, true), (20, true), (21, true), (22, true), (23, true)])) (by kernel_rfl) (by as_aux_lemma => kernel_rfl) (by kernel_rfl) (by kernel_rfl) (alongPre_append _ _ _ (by as_aux_lemma => kernel_rfl) (by as_aux_lemma => kernel_rfl)) (by as_aux_lemma => kernel_rfl) (fun _ _ _ _ _ h => h) rfl (fun hH => ?_)
        simp only [List.cons_append, List.nil_append, stepsOf, pickOp]
        iterate 24 (first | (refine along_skip (by rfl) ?_; try simp only [Act.put, List.setIfInBounds_toArray, List.set_cons_zero, List.set_cons_succ]) | (refine along_pure ?_ (by rfl) (fun w hSw => ?_) ?_; rotate_left; (obtain rfl := hSw; go_simp; try with_reducible rfl); try simp only [Act.put, List.setIfInBounds_toArray, List.set_cons_zero, List.set_cons_succ]))
        refine along_end (NoPanic.normal ?_)
        clear hH
        try rw [hmin]
        clear f_0 g_0 hmin hlk CP
        obtain ⟨W1, hW1⟩ : ∃ W, W = w.drew := ⟨_, rfl⟩
        have A1 := Lib.hid (show Ar W1 a most ns by rw [hW1]; exact A0.out.on (Below.refl _ _).drew)
        have J1 := Lib.hid (show Jn W1 a jb db kind m by rw [hW1]; exact J0.out.on (Below.refl _ _).drew)
        have B1 := Lib.hid (show Below w.heap.size w W1 by rw [hW1]; exact (Below.refl _ _).drew)
        rw [← hW1]
        clear hW1 a_0 a_1 a_2 j_0 j_1 j_2
        obtain ⟨j_0, j_1, j_2⟩ : _ ∧ _ ∧ _ := ⟨J1.out.s.1 0 _ rfl, J1.out.s.1 1 _ rfl, J1.out.s.1 2 _ rfl⟩
        go_upto_region 8 with fail
        go_cut [13, 14] (fun u v wx => ∃ bx bY : Nat, u = .pointer (some ⟨bx, 0, none⟩) ∧ v = .pointer (some ⟨bY, 0, none⟩) ∧ Below W1.heap.size W1 wx ∧ Blk wx bx [.int .i64 (x.v : Nat), .int .i64 (x.l : Nat), .int .i64 (x.h : Nat)] ∧ Blk wx bY [.int .i64 (y.v : Nat), .int .i64 (y.l : Nat), .int .i64 (y.h : Nat)] ∧ W1.heap.size ≤ bx ∧ W1.heap.size ≤ bY)
        case first =>
         as_aux_lemma =>
          refine wp_region_noPanic ?_
          refine wp_region_alongT (S := fun w' => Below W1.heap.size W1 w' ∧ ∀ b o, (W1.cell? ⟨b, o, none⟩).isSome = true → w'.cell? ⟨b, o, none⟩ = W1.cell? ⟨b, o, none⟩) (.pure 0 (.pure 1 (.pure 2 (.pure 3 (.pure 4 (.pure 5 (.pure 7 (.pure 8 (.pure 9 (.pure 10 (.pure 11 (.pure 12 (.b3 6 (.b3 13 (.b2 14 (.b1 15 (.b1 16 (.b1 17 .done))) 15 (.b1 14 (.b1 16 (.b1 17 .done)))) 14 (.b2 13 (.b1 15 (.b1 16 (.b1 17 .done))) 15 (.b1 13 (.b1 16 (.b1 17 .done)))) 15 (.b2 13 (.b1 14 (.b1 16 (.b1 17 .done))) 14 (.b1 13 (.b1 16 (.b1 17 .done))))) 14 (.b2 6 (.b2 13 (.b1 15 (.b1 16 (.b1 17 .done))) 15 (.b1 13 (.b1 16 (.b1 17 .done)))) 15 (.b1 6 (.b1 13 (.b1 16 (.b1 17 .done))))) 15 (.b2 6 (.b2 13 (.b1 14 (.b1 16 (.b1 17 .done))) 14 (.b1 13 (.b1 16 (.b1 17 .done)))) 14 (.b1 6 (.b1 13 (.b1 16 (.b1 17 .done)))))))))))))))))) (by kernel_rfl) (by as_aux_lemma => kernel_rfl) (by decide) (by as_aux_lemma => kernel_rfl) (fun _ _ _ _ _ h => h) (bkeep (Below.refl _ _).drew) (fun hH => ?_)
          iterate 12 (refine T_pure ?_ (by rfl) (fun w hSw => ?_) ?_; rotate_left; ((try dsimp only at hSw); simp only [pickOp]; go_simp; try with_reducible rfl); try simp only [pickOp, Act.put, List.setIfInBounds_toArray, List.set_cons_zero, List.set_cons_succ])
          obtain ⟨wd, hwd⟩ : ∃ x, x = W1.drew := ⟨_, rfl⟩
          rw [← hwd] at hH ⊢
          clear hwd
          refine T_b3 (fun K hK => ?_) (fun K hK => ?_) (fun K hK => ?_)
          · simp only [pickOp]
            go_simp
            refine (CX.out _ (A1.out.on hH.1)).mono ?_
            rintro e wdc ⟨rfl, hbx⟩
            try go_wp2_with fail
            refine hK.out _ _ (bkeep (bel_on' hH.1 hbx)) (fun hH' => ?_)
            clear hK K hH
            have hH := hH'
            clear hH'
            clear hbx
            try simp only [pickOp, Act.put, List.setIfInBounds_toArray, List.set_cons_zero, List.set_cons_succ]
            refine T_b3 (fun K hK => ?_) (fun K hK => ?_) (fun K hK => ?_)
            · simp only [pickOp]
              go_simp
              refine (CY.out _ (A1.out.on hH.1)).mono ?_
              rintro e wdcc ⟨rfl, hbx⟩
              try go_wp2_with fail
              refine hK.out _ _ (bkeep (bel_on' hH.1 hbx)) (fun hH' => ?_)
              clear hK K hH
              have hH := hH'
              clear hH'
              clear hbx
              try simp only [pickOp, Act.put, List.setIfInBounds_toArray, List.set_cons_zero, List.set_cons_succ]
              refine T_b2 (fun K hK => ?_) (fun K hK => ?_)
              · simp only [pickOp]
                go_simp
                refine hK.out _ _ (bkeep (bel_al hH.1 _)) (fun hH' => ?_)
                clear hK K
                have LX := Lib.hid hH.1.size
                clear hH
                have X := Lib.hid (Blk.new wdcc 53 [.int .i64 0, .int .i64 0, .int .i64 0])
                try simp only [pickOp, Act.put, List.setIfInBounds_toArray, List.set_cons_zero, List.set_cons_succ]
                obtain ⟨wdccx, hwn⟩ : ∃ x, x = wdcc.alloc (Obj.cells #[.int .i64 0, .int .i64 0, .int .i64 0] 53) := ⟨_, rfl⟩
                rw [← hwn] at hH' X ⊢
                have hH := hH'
                clear hH' hwn
                refine T_b1 (fun K hK => ?_)
                · simp only [pickOp]
                  go_simp
                  refine hK.out _ _ (bkeep (bel_al hH.1 _)) (fun hH' => ?_)
                  clear hK K
                  have LY := Lib.hid hH.1.size
                  clear hH
                  have Y := Lib.hid (Blk.new wdccx 53 [.int .i64 0, .int .i64 0, .int .i64 0])
                  have NEXY := Lib.hid (Nat.ne_of_lt X.out.lt)
                  have X' := Lib.hid (X.out.on (bel_al (Below.refl _ _) (Obj.cells #[.int .i64 0, .int .i64 0, .int .i64 0] 53)))
                  clear X
                  have X := X'
                  clear X'
                  try simp only [pickOp, Act.put, List.setIfInBounds_toArray, List.set_cons_zero, List.set_cons_succ]
                  obtain ⟨wdccxy, hwn⟩ : ∃ x, x = wdccx.alloc (Obj.cells #[.int .i64 0, .int .i64 0, .int .i64 0] 53) := ⟨_, rfl⟩
                  rw [← hwn] at hH' X Y ⊢
                  have hH := hH'
                  clear hH' hwn
                  obtain ⟨p0, p1, p2⟩ : _ ∧ _ ∧ _ := ⟨X.out.1 0 _ rfl, X.out.1 1 _ rfl, X.out.1 2 _ rfl⟩
                  obtain ⟨z0, z1, z2⟩ : _ ∧ _ ∧ _ := ⟨X.out.2 0 _ rfl, X.out.2 1 _ rfl, X.out.2 2 _ rfl⟩
                  refine T_b1 (fun K hK => ?_)
                  simp only [pickOp]
                  go_simp
                  refine hK.out _ _ (bkeep (bel_put3 hH.1 LX.out _ _ _)) (fun hH' => ?_)
                  clear hK K hH
                  have X' := Lib.hid (X.out.put3 (.int .i64 (x.v : Nat)) (.int .i64 (x.l : Nat)) (.int .i64 (x.h : Nat)))
                  have Y' := Lib.hid (Y.out.far3 (NEXY.out) (.int .i64 (x.v : Nat)) (.int .i64 (x.l : Nat)) (.int .i64 (x.h : Nat)))
                  clear p0 z0 p1 z1 p2 z2 X Y
                  try simp only [pickOp, Act.put, List.setIfInBounds_toArray, List.set_cons_zero, List.set_cons_succ]
                  obtain ⟨ws0, hws⟩ : ∃ ws, ws = (((wdccxy.setCell ⟨wdcc.heap.size, 0, none⟩ (.int .i64 (x.v : Nat))).setCell ⟨wdcc.heap.size, 1, none⟩ (.int .i64 (x.l : Nat))).setCell ⟨wdcc.heap.size, 2, none⟩ (.int .i64 (x.h : Nat))) := ⟨_, rfl⟩
                  rw [← hws] at hH' X' Y' ⊢
                  have hH := hH'
                  have X := X'
                  have Y := Y'
                  clear hws hH' X' Y'
                  obtain ⟨p0, p1, p2⟩ : _ ∧ _ ∧ _ := ⟨Y.out.1 0 _ rfl, Y.out.1 1 _ rfl, Y.out.1 2 _ rfl⟩
                  obtain ⟨z0, z1, z2⟩ : _ ∧ _ ∧ _ := ⟨Y.out.2 0 _ rfl, Y.out.2 1 _ rfl, Y.out.2 2 _ rfl⟩
                  refine T_b1 (fun K hK => ?_)
                  simp only [pickOp]
                  go_simp
                  refine hK.out _ _ (bkeep (bel_put3 hH.1 LY.out _ _ _)) (fun hH' => ?_)
                  clear hK K hH
                  have Y' := Lib.hid (Y.out.put3 (.int .i64 (y.v : Nat)) (.int .i64 (y.l : Nat)) (.int .i64 (y.h : Nat)))
                  have X' := Lib.hid (X.out.far3 (NEXY.out.symm) (.int .i64 (y.v : Nat)) (.int .i64 (y.l : Nat)) (.int .i64 (y.h : Nat)))
                  clear p0 z0 p1 z1 p2 z2 X Y
                  try simp only [pickOp, Act.put, List.setIfInBounds_toArray, List.set_cons_zero, List.set_cons_succ]
                  obtain ⟨ws1, hws⟩ : ∃ ws, ws = (((ws0.setCell ⟨wdccx.heap.size, 0, none⟩ (.int .i64 (y.v : Nat))).setCell ⟨wdccx.heap.size, 1, none⟩ (.int .i64 (y.l : Nat))).setCell ⟨wdccx.heap.size, 2, none⟩ (.int .i64 (y.h : Nat))) := ⟨_, rfl⟩
                  rw [← hws] at hH' X' Y' ⊢
                  have hH := hH'
                  have X := X'
                  have Y := Y'
                  clear hws hH' X' Y'
                  refine T_done (NoPanic.normal ?_)
                  have HBz := Lib.hid hH.1
                  clear hH
                  go_wp2_with fail
                  go_meet
                  exact ⟨_, _, rfl, rfl, HBz.out, X.out, Y.out, Nat.le_trans (Nat.le_refl _) LX.out, LY.out⟩
              · simp only [pickOp]
                go_simp
                refine hK.out _ _ (bkeep (bel_al hH.1 _)) (fun hH' => ?_)
                clear hK K
                have LY := Lib.hid hH.1.size
                clear hH
                have Y := Lib.hid (Blk.new wdcc 53 [.int .i64 0, .int .i64 0, .int .i64 0])
                try simp only [pickOp, Act.put, List.setIfInBounds_toArray, List.set_cons_zero, List.set_cons_succ]
                obtain ⟨wdccy, hwn⟩ : ∃ x, x = wdcc.alloc (Obj.cells #[.int .i64 0, .int .i64 0, .int .i64 0] 53) := ⟨_, rfl⟩
                rw [← hwn] at hH' Y ⊢
                have hH := hH'
                clear hH' hwn
                refine T_b1 (fun K hK => ?_)
                · simp only [pickOp]
                  go_simp
                  refine hK.out _ _ (bkeep (bel_al hH.1 _)) (fun hH' => ?_)
                  clear hK K
                  have LX := Lib.hid hH.1.size
                  clear hH
                  have X := Lib.hid (Blk.new wdccy 53 [.int .i64 0, .int .i64 0, .int .i64 0])
                  have NEYX := Lib.hid (Nat.ne_of_lt Y.out.lt)
                  have Y' := Lib.hid (Y.out.on (bel_al (Below.refl _ _) (Obj.cells #[.int .i64 0, .int .i64 0, .int .i64 0] 53)))
                  clear Y
                  have Y := Y'
                  clear Y'
                  try simp only [pickOp, Act.put, List.setIfInBounds_toArray, List.set_cons_zero, List.set_cons_succ]
                  obtain ⟨wdccyx, hwn⟩ : ∃ x, x = wdccy.alloc (Obj.cells #[.int .i64 0, .int .i64 0, .int .i64 0] 53) := ⟨_, rfl⟩
                  rw [← hwn] at hH' Y X ⊢
                  have hH := hH'
                  clear hH' hwn
                  obtain ⟨p0, p1, p2⟩ : _ ∧ _ ∧ _ := ⟨X.out.1 0 _ rfl, X.out.1 1 _ rfl, X.out.1 2 _ rfl⟩
                  obtain ⟨z0, z1, z2⟩ : _ ∧ _ ∧ _ := ⟨X.out.2 0 _ rfl, X.out.2 1 _ rfl, X.out.2 2 _ rfl⟩
                  refine T_b1 (fun K hK => ?_)
                  simp only [pickOp]
                  go_simp
                  refine hK.out _ _ (bkeep (bel_put3 hH.1 LX.out _ _ _)) (fun hH' => ?_)
                  clear hK K hH
                  have X' := Lib.hid (X.out.put3 (.int .i64 (x.v : Nat)) (.int .i64 (x.l : Nat)) (.int .i64 (x.h : Nat)))
                  have Y' := Lib.hid (Y.out.far3 (NEYX.out.symm) (.int .i64 (x.v : Nat)) (.int .i64 (x.l : Nat)) (.int .i64 (x.h : Nat)))
                  clear p0 z0 p1 z1 p2 z2 X Y
                  try simp only [pickOp, Act.put, List.setIfInBounds_toArray, List.set_cons_zero, List.set_cons_succ]
                  obtain ⟨ws0, hws⟩ : ∃ ws, ws = (((wdccyx.setCell ⟨wdccy.heap.size, 0, none⟩ (.int .i64 (x.v : Nat))).setCell ⟨wdccy.heap.size, 1, none⟩ (.int .i64 (x.l : Nat))).setCell ⟨wdccy.heap.size, 2, none⟩ (.int .i64 (x.h : Nat))) := ⟨_, rfl⟩
                  rw [← hws] at hH' X' Y' ⊢
                  have hH := hH'
                  have X := X'
                  have Y := Y'
                  clear hws hH' X' Y'
                  obtain ⟨p0, p1, p2⟩ : _ ∧ _ ∧ _ := ⟨Y.out.1 0 _ rfl, Y.out.1 1 _ rfl, Y.out.1 2 _ rfl⟩
                  obtain ⟨z0, z1, z2⟩ : _ ∧ _ ∧ _ := ⟨Y.out.2 0 _ rfl, Y.out.2 1 _ rfl, Y.out.2 2 _ rfl⟩
                  refine T_b1 (fun K hK => ?_)
                  simp only [pickOp]
                  go_simp
                  refine hK.out _ _ (bkeep (bel_put3 hH.1 LY.out _ _ _)) (fun hH' => ?_)
                  clear hK K hH
                  have Y' := Lib.hid (Y.out.put3 (.int .i64 (y.v : Nat)) (.int .i64 (y.l : Nat)) (.int .i64 (y.h : Nat)))
                  have X' := Lib.hid (X.out.far3 (NEYX.out) (.int .i64 (y.v : Nat)) (.int .i64 (y.l : Nat)) (.int .i64 (y.h : Nat)))
                  clear p0 z0 p1 z1 p2 z2 X Y
                  try simp only [pickOp, Act.put, List.setIfInBounds_toArray, List.set_cons_zero, List.set_cons_succ]
                  obtain ⟨ws1, hws⟩ : ∃ ws, ws = (((ws0.setCell ⟨wdcc.heap.size, 0, none⟩ (.int .i64 (y.v : Nat))).setCell ⟨wdcc.heap.size, 1, none⟩ (.int .i64 (y.l : Nat))).setCell ⟨wdcc.heap.size, 2, none⟩ (.int .i64 (y.h : Nat))) := ⟨_, rfl⟩
                  rw [← hws] at hH' X' Y' ⊢
                  have hH := hH'
                  have X := X'
                  have Y := Y'
                  clear hws hH' X' Y'
                  refine T_done (NoPanic.normal ?_)
                  have HBz := Lib.hid hH.1
                  clear hH
                  go_wp2_with fail
                  go_meet
                  exact ⟨_, _, rfl, rfl, HBz.out, X.out, Y.out, Nat.le_trans (Nat.le_refl _) LX.out, LY.out⟩
            · simp only [pickOp]
              go_simp
              refine hK.out _ _ (bkeep (bel_al hH.1 _)) (fun hH' => ?_)
              clear hK K
              have LX := Lib.hid hH.1.size
              clear hH
              have X := Lib.hid (Blk.new wdc 53 [.int .i64 0, .int .i64 0, .int .i64 0])
              try simp only [pickOp, Act.put, List.setIfInBounds_toArray, List.set_cons_zero, List.set_cons_succ]
              obtain ⟨wdcx, hwn⟩ : ∃ x, x = wdc.alloc (Obj.cells #[.int .i64 0, .int .i64 0, .int .i64 0] 53) := ⟨_, rfl⟩
              rw [← hwn] at hH' X ⊢
              have hH := hH'
              clear hH' hwn
              refine T_b2 (fun K hK => ?_) (fun K hK => ?_)
              · simp only [pickOp]
                go_simp
                refine (CY.out _ (A1.out.on hH.1)).mono ?_
                rintro e wdcxc ⟨rfl, hbx⟩
                try go_wp2_with fail
                refine hK.out _ _ (bkeep (bel_on' hH.1 hbx)) (fun hH' => ?_)
                clear hK K hH
                have hH := hH'
                clear hH'
                have X' := Lib.hid (X.out.on hbx)
                clear X
                have X := X'
                clear X'
                clear hbx
                try simp only [pickOp, Act.put, List.setIfInBounds_toArray, List.set_cons_zero, List.set_cons_succ]
                refine T_b1 (fun K hK => ?_)
                · simp only [pickOp]
                  go_simp
                  refine hK.out _ _ (bkeep (bel_al hH.1 _)) (fun hH' => ?_)
                  clear hK K
                  have LY := Lib.hid hH.1.size
                  clear hH
                  have Y := Lib.hid (Blk.new wdcxc 53 [.int .i64 0, .int .i64 0, .int .i64 0])
                  have NEXY := Lib.hid (Nat.ne_of_lt X.out.lt)
                  have X' := Lib.hid (X.out.on (bel_al (Below.refl _ _) (Obj.cells #[.int .i64 0, .int .i64 0, .int .i64 0] 53)))
                  clear X
                  have X := X'
                  clear X'
                  try simp only [pickOp, Act.put, List.setIfInBounds_toArray, List.set_cons_zero, List.set_cons_succ]
                  obtain ⟨wdcxcy, hwn⟩ : ∃ x, x = wdcxc.alloc (Obj.cells #[.int .i64 0, .int .i64 0, .int .i64 0] 53) := ⟨_, rfl⟩
                  rw [← hwn] at hH' X Y ⊢
                  have hH := hH'
                  clear hH' hwn
                  obtain ⟨p0, p1, p2⟩ : _ ∧ _ ∧ _ := ⟨X.out.1 0 _ rfl, X.out.1 1 _ rfl, X.out.1 2 _ rfl⟩
                  obtain ⟨z0, z1, z2⟩ : _ ∧ _ ∧ _ := ⟨X.out.2 0 _ rfl, X.out.2 1 _ rfl, X.out.2 2 _ rfl⟩
                  refine T_b1 (fun K hK => ?_)
                  simp only [pickOp]
                  go_simp
                  refine hK.out _ _ (bkeep (bel_put3 hH.1 LX.out _ _ _)) (fun hH' => ?_)
                  clear hK K hH
                  have X' := Lib.hid (X.out.put3 (.int .i64 (x.v : Nat)) (.int .i64 (x.l : Nat)) (.int .i64 (x.h : Nat)))
                  have Y' := Lib.hid (Y.out.far3 (NEXY.out) (.int .i64 (x.v : Nat)) (.int .i64 (x.l : Nat)) (.int .i64 (x.h : Nat)))
                  clear p0 z0 p1 z1 p2 z2 X Y
                  try simp only [pickOp, Act.put, List.setIfInBounds_toArray, List.set_cons_zero, List.set_cons_succ]
                  obtain ⟨ws0, hws⟩ : ∃ ws, ws = (((wdcxcy.setCell ⟨wdc.heap.size, 0, none⟩ (.int .i64 (x.v : Nat))).setCell ⟨wdc.heap.size, 1, none⟩ (.int .i64 (x.l : Nat))).setCell ⟨wdc.heap.size, 2, none⟩ (.int .i64 (x.h : Nat))) := ⟨_, rfl⟩
                  rw [← hws] at hH' X' Y' ⊢
                  have hH := hH'
                  have X := X'
                  have Y := Y'
                  clear hws hH' X' Y'
                  obtain ⟨p0, p1, p2⟩ : _ ∧ _ ∧ _ := ⟨Y.out.1 0 _ rfl, Y.out.1 1 _ rfl, Y.out.1 2 _ rfl⟩
                  obtain ⟨z0, z1, z2⟩ : _ ∧ _ ∧ _ := ⟨Y.out.2 0 _ rfl, Y.out.2 1 _ rfl, Y.out.2 2 _ rfl⟩
                  refine T_b1 (fun K hK => ?_)
                  simp only [pickOp]
                  go_simp
                  refine hK.out _ _ (bkeep (bel_put3 hH.1 LY.out _ _ _)) (fun hH' => ?_)
                  clear hK K hH
                  have Y' := Lib.hid (Y.out.put3 (.int .i64 (y.v : Nat)) (.int .i64 (y.l : Nat)) (.int .i64 (y.h : Nat)))
                  have X' := Lib.hid (X.out.far3 (NEXY.out.symm) (.int .i64 (y.v : Nat)) (.int .i64 (y.l : Nat)) (.int .i64 (y.h : Nat)))
                  clear p0 z0 p1 z1 p2 z2 X Y
                  try simp only [pickOp, Act.put, List.setIfInBounds_toArray, List.set_cons_zero, List.set_cons_succ]
                  obtain ⟨ws1, hws⟩ : ∃ ws, ws = (((ws0.setCell ⟨wdcxc.heap.size, 0, none⟩ (.int .i64 (y.v : Nat))).setCell ⟨wdcxc.heap.size, 1, none⟩ (.int .i64 (y.l : Nat))).setCell ⟨wdcxc.heap.size, 2, none⟩ (.int .i64 (y.h : Nat))) := ⟨_, rfl⟩
                  rw [← hws] at hH' X' Y' ⊢
                  have hH := hH'
                  have X := X'
                  have Y := Y'
                  clear hws hH' X' Y'
                  refine T_done (NoPanic.normal ?_)
                  have HBz := Lib.hid hH.1
                  clear hH
                  go_wp2_with fail
                  go_meet
                  exact ⟨_, _, rfl, rfl, HBz.out, X.out, Y.out, Nat.le_trans (Nat.le_refl _) LX.out, LY.out⟩
              · simp only [pickOp]
                go_simp
                refine hK.out _ _ (bkeep (bel_al hH.1 _)) (fun hH' => ?_)
                clear hK K
                have LY := Lib.hid hH.1.size
                clear hH
                have Y := Lib.hid (Blk.new wdcx 53 [.int .i64 0, .int .i64 0, .int .i64 0])
                have NEXY := Lib.hid (Nat.ne_of_lt X.out.lt)
                have X' := Lib.hid (X.out.on (bel_al (Below.refl _ _) (Obj.cells #[.int .i64 0, .int .i64 0, .int .i64 0] 53)))
                clear X
                have X := X'
                clear X'
                try simp only [pickOp, Act.put, List.setIfInBounds_toArray, List.set_cons_zero, List.set_cons_succ]
                obtain ⟨wdcxy, hwn⟩ : ∃ x, x = wdcx.alloc (Obj.cells #[.int .i64 0, .int .i64 0, .int .i64 0] 53) := ⟨_, rfl⟩
                rw [← hwn] at hH' X Y ⊢
                have hH := hH'
                clear hH' hwn
                refine T_b1 (fun K hK => ?_)
                · simp only [pickOp]
                  go_simp
                  refine (CY.out _ (A1.out.on hH.1)).mono ?_
                  rintro e wdcxyc ⟨rfl, hbx⟩
                  try go_wp2_with fail
                  refine hK.out _ _ (bkeep (bel_on' hH.1 hbx)) (fun hH' => ?_)
                  clear hK K hH
                  have hH := hH'
                  clear hH'
                  have X' := Lib.hid (X.out.on hbx)
                  clear X
                  have X := X'
                  clear X'
                  have Y' := Lib.hid (Y.out.on hbx)
                  clear Y
                  have Y := Y'
                  clear Y'
                  clear hbx
                  try simp only [pickOp, Act.put, List.setIfInBounds_toArray, List.set_cons_zero, List.set_cons_succ]
                  obtain ⟨p0, p1, p2⟩ : _ ∧ _ ∧ _ := ⟨X.out.1 0 _ rfl, X.out.1 1 _ rfl, X.out.1 2 _ rfl⟩
                  obtain ⟨z0, z1, z2⟩ : _ ∧ _ ∧ _ := ⟨X.out.2 0 _ rfl, X.out.2 1 _ rfl, X.out.2 2 _ rfl⟩
                  refine T_b1 (fun K hK => ?_)
                  simp only [pickOp]
                  go_simp
                  refine hK.out _ _ (bkeep (bel_put3 hH.1 LX.out _ _ _)) (fun hH' => ?_)
                  clear hK K hH
                  have X' := Lib.hid (X.out.put3 (.int .i64 (x.v : Nat)) (.int .i64 (x.l : Nat)) (.int .i64 (x.h : Nat)))
                  have Y' := Lib.hid (Y.out.far3 (NEXY.out) (.int .i64 (x.v : Nat)) (.int .i64 (x.l : Nat)) (.int .i64 (x.h : Nat)))
                  clear p0 z0 p1 z1 p2 z2 X Y
                  try simp only [pickOp, Act.put, List.setIfInBounds_toArray, List.set_cons_zero, List.set_cons_succ]
                  obtain ⟨ws0, hws⟩ : ∃ ws, ws = (((wdcxyc.setCell ⟨wdc.heap.size, 0, none⟩ (.int .i64 (x.v : Nat))).setCell ⟨wdc.heap.size, 1, none⟩ (.int .i64 (x.l : Nat))).setCell ⟨wdc.heap.size, 2, none⟩ (.int .i64 (x.h : Nat))) := ⟨_, rfl⟩
                  rw [← hws] at hH' X' Y' ⊢
                  have hH := hH'
                  have X := X'
                  have Y := Y'
                  clear hws hH' X' Y'
                  obtain ⟨p0, p1, p2⟩ : _ ∧ _ ∧ _ := ⟨Y.out.1 0 _ rfl, Y.out.1 1 _ rfl, Y.out.1 2 _ rfl⟩
                  obtain ⟨z0, z1, z2⟩ : _ ∧ _ ∧ _ := ⟨Y.out.2 0 _ rfl, Y.out.2 1 _ rfl, Y.out.2 2 _ rfl⟩
                  refine T_b1 (fun K hK => ?_)
                  simp only [pickOp]
                  go_simp
                  refine hK.out _ _ (bkeep (bel_put3 hH.1 LY.out _ _ _)) (fun hH' => ?_)
                  clear hK K hH
                  have Y' := Lib.hid (Y.out.put3 (.int .i64 (y.v : Nat)) (.int .i64 (y.l : Nat)) (.int .i64 (y.h : Nat)))
                  have X' := Lib.hid (X.out.far3 (NEXY.out.symm) (.int .i64 (y.v : Nat)) (.int .i64 (y.l : Nat)) (.int .i64 (y.h : Nat)))
                  clear p0 z0 p1 z1 p2 z2 X Y
                  try simp only [pickOp, Act.put, List.setIfInBounds_toArray, List.set_cons_zero, List.set_cons_succ]
                  obtain ⟨ws1, hws⟩ : ∃ ws, ws = (((ws0.setCell ⟨wdcx.heap.size, 0, none⟩ (.int .i64 (y.v : Nat))).setCell ⟨wdcx.heap.size, 1, none⟩ (.int .i64 (y.l : Nat))).setCell ⟨wdcx.heap.size, 2, none⟩ (.int .i64 (y.h : Nat))) := ⟨_, rfl⟩
                  rw [← hws] at hH' X' Y' ⊢
                  have hH := hH'
                  have X := X'
                  have Y := Y'
                  clear hws hH' X' Y'
                  refine T_done (NoPanic.normal ?_)
                  have HBz := Lib.hid hH.1
                  clear hH
                  go_wp2_with fail
                  go_meet
                  exact ⟨_, _, rfl, rfl, HBz.out, X.out, Y.out, Nat.le_trans (Nat.le_refl _) LX.out, LY.out⟩
            · simp only [pickOp]
              go_simp
              refine hK.out _ _ (bkeep (bel_al hH.1 _)) (fun hH' => ?_)
              clear hK K
              have LY := Lib.hid hH.1.size
              clear hH
              have Y := Lib.hid (Blk.new wdc 53 [.int .i64 0, .int .i64 0, .int .i64 0])
              try simp only [pickOp, Act.put, List.setIfInBounds_toArray, List.set_cons_zero, List.set_cons_succ]
              obtain ⟨wdcy, hwn⟩ : ∃ x, x = wdc.alloc (Obj.cells #[.int .i64 0, .int .i64 0, .int .i64 0] 53) := ⟨_, rfl⟩
              rw [← hwn] at hH' Y ⊢
              have hH := hH'
              clear hH' hwn
              refine T_b2 (fun K hK => ?_) (fun K hK => ?_)
              · simp only [pickOp]
                go_simp
                refine (CY.out _ (A1.out.on hH.1)).mono ?_
                rintro e wdcyc ⟨rfl, hbx⟩
                try go_wp2_with fail
                refine hK.out _ _ (bkeep (bel_on' hH.1 hbx)) (fun hH' => ?_)
                clear hK K hH
                have hH := hH'
                clear hH'
                have Y' := Lib.hid (Y.out.on hbx)
                clear Y
                have Y := Y'
                clear Y'
                clear hbx
                try simp only [pickOp, Act.put, List.setIfInBounds_toArray, List.set_cons_zero, List.set_cons_succ]
                refine T_b1 (fun K hK => ?_)
                · simp only [pickOp]
                  go_simp
                  refine hK.out _ _ (bkeep (bel_al hH.1 _)) (fun hH' => ?_)
                  clear hK K
                  have LX := Lib.hid hH.1.size
                  clear hH
                  have X := Lib.hid (Blk.new wdcyc 53 [.int .i64 0, .int .i64 0, .int .i64 0])
                  have NEYX := Lib.hid (Nat.ne_of_lt Y.out.lt)
                  have Y' := Lib.hid (Y.out.on (bel_al (Below.refl _ _) (Obj.cells #[.int .i64 0, .int .i64 0, .int .i64 0] 53)))
                  clear Y
                  have Y := Y'
                  clear Y'
                  try simp only [pickOp, Act.put, List.setIfInBounds_toArray, List.set_cons_zero, List.set_cons_succ]
                  obtain ⟨wdcycx, hwn⟩ : ∃ x, x = wdcyc.alloc (Obj.cells #[.int .i64 0, .int .i64 0, .int .i64 0] 53) := ⟨_, rfl⟩
                  rw [← hwn] at hH' Y X ⊢
                  have hH := hH'
                  clear hH' hwn
                  obtain ⟨p0, p1, p2⟩ : _ ∧ _ ∧ _ := ⟨X.out.1 0 _ rfl, X.out.1 1 _ rfl, X.out.1 2 _ rfl⟩
                  obtain ⟨z0, z1, z2⟩ : _ ∧ _ ∧ _ := ⟨X.out.2 0 _ rfl, X.out.2 1 _ rfl, X.out.2 2 _ rfl⟩
                  refine T_b1 (fun K hK => ?_)
                  simp only [pickOp]
                  go_simp
                  refine hK.out _ _ (bkeep (bel_put3 hH.1 LX.out _ _ _)) (fun hH' => ?_)
                  clear hK K hH
                  have X' := Lib.hid (X.out.put3 (.int .i64 (x.v : Nat)) (.int .i64 (x.l : Nat)) (.int .i64 (x.h : Nat)))
                  have Y' := Lib.hid (Y.out.far3 (NEYX.out.symm) (.int .i64 (x.v : Nat)) (.int .i64 (x.l : Nat)) (.int .i64 (x.h : Nat)))
                  clear p0 z0 p1 z1 p2 z2 X Y
                  try simp only [pickOp, Act.put, List.setIfInBounds_toArray, List.set_cons_zero, List.set_cons_succ]
                  obtain ⟨ws0, hws⟩ : ∃ ws, ws = (((wdcycx.setCell ⟨wdcyc.heap.size, 0, none⟩ (.int .i64 (x.v : Nat))).setCell ⟨wdcyc.heap.size, 1, none⟩ (.int .i64 (x.l : Nat))).setCell ⟨wdcyc.heap.size, 2, none⟩ (.int .i64 (x.h : Nat))) := ⟨_, rfl⟩
                  rw [← hws] at hH' X' Y' ⊢
                  have hH := hH'
                  have X := X'
                  have Y := Y'
                  clear hws hH' X' Y'
                  obtain ⟨p0, p1, p2⟩ : _ ∧ _ ∧ _ := ⟨Y.out.1 0 _ rfl, Y.out.1 1 _ rfl, Y.out.1 2 _ rfl⟩
                  obtain ⟨z0, z1, z2⟩ : _ ∧ _ ∧ _ := ⟨Y.out.2 0 _ rfl, Y.out.2 1 _ rfl, Y.out.2 2 _ rfl⟩
                  refine T_b1 (fun K hK => ?_)
                  simp only [pickOp]
                  go_simp
                  refine hK.out _ _ (bkeep (bel_put3 hH.1 LY.out _ _ _)) (fun hH' => ?_)
                  clear hK K hH
                  have Y' := Lib.hid (Y.out.put3 (.int .i64 (y.v : Nat)) (.int .i64 (y.l : Nat)) (.int .i64 (y.h : Nat)))
                  have X' := Lib.hid (X.out.far3 (NEYX.out) (.int .i64 (y.v : Nat)) (.int .i64 (y.l : Nat)) (.int .i64 (y.h : Nat)))
                  clear p0 z0 p1 z1 p2 z2 X Y
                  try simp only [pickOp, Act.put, List.setIfInBounds_toArray, List.set_cons_zero, List.set_cons_succ]
                  obtain ⟨ws1, hws⟩ : ∃ ws, ws = (((ws0.setCell ⟨wdc.heap.size, 0, none⟩ (.int .i64 (y.v : Nat))).setCell ⟨wdc.heap.size, 1, none⟩ (.int .i64 (y.l : Nat))).setCell ⟨wdc.heap.size, 2, none⟩ (.int .i64 (y.h : Nat))) := ⟨_, rfl⟩
                  rw [← hws] at hH' X' Y' ⊢
                  have hH := hH'
                  have X := X'
                  have Y := Y'
                  clear hws hH' X' Y'
                  refine T_done (NoPanic.normal ?_)
                  have HBz := Lib.hid hH.1
                  clear hH
                  go_wp2_with fail
                  go_meet
                  exact ⟨_, _, rfl, rfl, HBz.out, X.out, Y.out, Nat.le_trans (Nat.le_refl _) LX.out, LY.out⟩
              · simp only [pickOp]
                go_simp
                refine hK.out _ _ (bkeep (bel_al hH.1 _)) (fun hH' => ?_)
                clear hK K
                have LX := Lib.hid hH.1.size
                clear hH
                have X := Lib.hid (Blk.new wdcy 53 [.int .i64 0, .int .i64 0, .int .i64 0])
                have NEYX := Lib.hid (Nat.ne_of_lt Y.out.lt)
                have Y' := Lib.hid (Y.out.on (bel_al (Below.refl _ _) (Obj.cells #[.int .i64 0, .int .i64 0, .int .i64 0] 53)))
                clear Y
                have Y := Y'
                clear Y'
                try simp only [pickOp, Act.put, List.setIfInBounds_toArray, List.set_cons_zero, List.set_cons_succ]
                obtain ⟨wdcyx, hwn⟩ : ∃ x, x = wdcy.alloc (Obj.cells #[.int .i64 0, .int .i64 0, .int .i64 0] 53) := ⟨_, rfl⟩
                rw [← hwn] at hH' Y X ⊢
                have hH := hH'
                clear hH' hwn
                refine T_b1 (fun K hK => ?_)
                · simp only [pickOp]
                  go_simp
                  refine (CY.out _ (A1.out.on hH.1)).mono ?_
                  rintro e wdcyxc ⟨rfl, hbx⟩
                  try go_wp2_with fail
                  refine hK.out _ _ (bkeep (bel_on' hH.1 hbx)) (fun hH' => ?_)
                  clear hK K hH
                  have hH := hH'
                  clear hH'
                  have Y' := Lib.hid (Y.out.on hbx)
                  clear Y
                  have Y := Y'
                  clear Y'
                  have X' := Lib.hid (X.out.on hbx)
                  clear X
                  have X := X'
                  clear X'
                  clear hbx
                  try simp only [pickOp, Act.put, List.setIfInBounds_toArray, List.set_cons_zero, List.set_cons_succ]
                  obtain ⟨p0, p1, p2⟩ : _ ∧ _ ∧ _ := ⟨X.out.1 0 _ rfl, X.out.1 1 _ rfl, X.out.1 2 _ rfl⟩
                  obtain ⟨z0, z1, z2⟩ : _ ∧ _ ∧ _ := ⟨X.out.2 0 _ rfl, X.out.2 1 _ rfl, X.out.2 2 _ rfl⟩
                  refine T_b1 (fun K hK => ?_)
                  simp only [pickOp]
                  go_simp
                  refine hK.out _ _ (bkeep (bel_put3 hH.1 LX.out _ _ _)) (fun hH' => ?_)
                  clear hK K hH
                  have X' := Lib.hid (X.out.put3 (.int .i64 (x.v : Nat)) (.int .i64 (x.l : Nat)) (.int .i64 (x.h : Nat)))
                  have Y' := Lib.hid (Y.out.far3 (NEYX.out.symm) (.int .i64 (x.v : Nat)) (.int .i64 (x.l : Nat)) (.int .i64 (x.h : Nat)))
                  clear p0 z0 p1 z1 p2 z2 X Y
                  try simp only [pickOp, Act.put, List.setIfInBounds_toArray, List.set_cons_zero, List.set_cons_succ]
                  obtain ⟨ws0, hws⟩ : ∃ ws, ws = (((wdcyxc.setCell ⟨wdcy.heap.size, 0, none⟩ (.int .i64 (x.v : Nat))).setCell ⟨wdcy.heap.size, 1, none⟩ (.int .i64 (x.l : Nat))).setCell ⟨wdcy.heap.size, 2, none⟩ (.int .i64 (x.h : Nat))) := ⟨_, rfl⟩
                  rw [← hws] at hH' X' Y' ⊢
                  have hH := hH'
                  have X := X'
                  have Y := Y'
                  clear hws hH' X' Y'
                  obtain ⟨p0, p1, p2⟩ : _ ∧ _ ∧ _ := ⟨Y.out.1 0 _ rfl, Y.out.1 1 _ rfl, Y.out.1 2 _ rfl⟩
                  obtain ⟨z0, z1, z2⟩ : _ ∧ _ ∧ _ := ⟨Y.out.2 0 _ rfl, Y.out.2 1 _ rfl, Y.out.2 2 _ rfl⟩
                  refine T_b1 (fun K hK => ?_)
                  simp only [pickOp]
                  go_simp
                  refine hK.out _ _ (bkeep (bel_put3 hH.1 LY.out _ _ _)) (fun hH' => ?_)
                  clear hK K hH
                  have Y' := Lib.hid (Y.out.put3 (.int .i64 (y.v : Nat)) (.int .i64 (y.l : Nat)) (.int .i64 (y.h : Nat)))
                  have X' := Lib.hid (X.out.far3 (NEYX.out) (.int .i64 (y.v : Nat)) (.int .i64 (y.l : Nat)) (.int .i64 (y.h : Nat)))
                  clear p0 z0 p1 z1 p2 z2 X Y
                  try simp only [pickOp, Act.put, List.setIfInBounds_toArray, List.set_cons_zero, List.set_cons_succ]
                  obtain ⟨ws1, hws⟩ : ∃ ws, ws = (((ws0.setCell ⟨wdc.heap.size, 0, none⟩ (.int .i64 (y.v : Nat))).setCell ⟨wdc.heap.size, 1, none⟩ (.int .i64 (y.l : Nat))).setCell ⟨wdc.heap.size, 2, none⟩ (.int .i64 (y.h : Nat))) := ⟨_, rfl⟩
                  rw [← hws] at hH' X' Y' ⊢
                  have hH := hH'
                  have X := X'
                  have Y := Y'
                  clear hws hH' X' Y'
                  refine T_done (NoPanic.normal ?_)
                  have HBz := Lib.hid hH.1
                  clear hH
                  go_wp2_with fail
                  go_meet
                  exact ⟨_, _, rfl, rfl, HBz.out, X.out, Y.out, Nat.le_trans (Nat.le_refl _) LX.out, LY.out⟩
          · simp only [pickOp]
            go_simp
            refine hK.out _ _ (bkeep (bel_al hH.1 _)) (fun hH' => ?_)
            clear hK K
            have LX := Lib.hid hH.1.size
            clear hH
            have X := Lib.hid (Blk.new wd 53 [.int .i64 0, .int .i64 0, .int .i64 0])
            try simp only [pickOp, Act.put, List.setIfInBounds_toArray, List.set_cons_zero, List.set_cons_succ]
            obtain ⟨wdx, hwn⟩ : ∃ x, x = wd.alloc (Obj.cells #[.int .i64 0, .int .i64 0, .int .i64 0] 53) := ⟨_, rfl⟩
            rw [← hwn] at hH' X ⊢
            have hH := hH'
            clear hH' hwn
            refine T_b2 (fun K hK => ?_) (fun K hK => ?_)
            · simp only [pickOp]
              go_simp
              refine (CX.out _ (A1.out.on hH.1)).mono ?_
              rintro e wdxc ⟨rfl, hbx⟩
              try go_wp2_with fail
              refine hK.out _ _ (bkeep (bel_on' hH.1 hbx)) (fun hH' => ?_)
              clear hK K hH
              have hH := hH'
              clear hH'
              have X' := Lib.hid (X.out.on hbx)
              clear X
              have X := X'
              clear X'
              clear hbx
              try simp only [pickOp, Act.put, List.setIfInBounds_toArray, List.set_cons_zero, List.set_cons_succ]
              refine T_b2 (fun K hK => ?_) (fun K hK => ?_)
              · simp only [pickOp]
                go_simp
                refine (CY.out _ (A1.out.on hH.1)).mono ?_
                rintro e wdxcc ⟨rfl, hbx⟩
                try go_wp2_with fail
                refine hK.out _ _ (bkeep (bel_on' hH.1 hbx)) (fun hH' => ?_)
                clear hK K hH
                have hH := hH'
                clear hH'
                have X' := Lib.hid (X.out.on hbx)
                clear X
                have X := X'
                clear X'
                clear hbx
                try simp only [pickOp, Act.put, List.setIfInBounds_toArray, List.set_cons_zero, List.set_cons_succ]
                refine T_b1 (fun K hK => ?_)
                · simp only [pickOp]
                  go_simp
                  refine hK.out _ _ (bkeep (bel_al hH.1 _)) (fun hH' => ?_)
                  clear hK K
                  have LY := Lib.hid hH.1.size
                  clear hH
                  have Y := Lib.hid (Blk.new wdxcc 53 [.int .i64 0, .int .i64 0, .int .i64 0])
                  have NEXY := Lib.hid (Nat.ne_of_lt X.out.lt)
                  have X' := Lib.hid (X.out.on (bel_al (Below.refl _ _) (Obj.cells #[.int .i64 0, .int .i64 0, .int .i64 0] 53)))
                  clear X
                  have X := X'
                  clear X'
                  try simp only [pickOp, Act.put, List.setIfInBounds_toArray, List.set_cons_zero, List.set_cons_succ]
                  obtain ⟨wdxccy, hwn⟩ : ∃ x, x = wdxcc.alloc (Obj.cells #[.int .i64 0, .int .i64 0, .int .i64 0] 53) := ⟨_, rfl⟩
                  rw [← hwn] at hH' X Y ⊢
                  have hH := hH'
                  clear hH' hwn
                  obtain ⟨p0, p1, p2⟩ : _ ∧ _ ∧ _ := ⟨X.out.1 0 _ rfl, X.out.1 1 _ rfl, X.out.1 2 _ rfl⟩
                  obtain ⟨z0, z1, z2⟩ : _ ∧ _ ∧ _ := ⟨X.out.2 0 _ rfl, X.out.2 1 _ rfl, X.out.2 2 _ rfl⟩
                  refine T_b1 (fun K hK => ?_)
                  simp only [pickOp]
                  go_simp
                  refine hK.out _ _ (bkeep (bel_put3 hH.1 LX.out _ _ _)) (fun hH' => ?_)
                  clear hK K hH
                  have X' := Lib.hid (X.out.put3 (.int .i64 (x.v : Nat)) (.int .i64 (x.l : Nat)) (.int .i64 (x.h : Nat)))
                  have Y' := Lib.hid (Y.out.far3 (NEXY.out) (.int .i64 (x.v : Nat)) (.int .i64 (x.l : Nat)) (.int .i64 (x.h : Nat)))
                  clear p0 z0 p1 z1 p2 z2 X Y
                  try simp only [pickOp, Act.put, List.setIfInBounds_toArray, List.set_cons_zero, List.set_cons_succ]
                  obtain ⟨ws0, hws⟩ : ∃ ws, ws = (((wdxccy.setCell ⟨wd.heap.size, 0, none⟩ (.int .i64 (x.v : Nat))).setCell ⟨wd.heap.size, 1, none⟩ (.int .i64 (x.l : Nat))).setCell ⟨wd.heap.size, 2, none⟩ (.int .i64 (x.h : Nat))) := ⟨_, rfl⟩
                  rw [← hws] at hH' X' Y' ⊢
                  have hH := hH'
                  have X := X'
                  have Y := Y'
                  clear hws hH' X' Y'
                  obtain ⟨p0, p1, p2⟩ : _ ∧ _ ∧ _ := ⟨Y.out.1 0 _ rfl, Y.out.1 1 _ rfl, Y.out.1 2 _ rfl⟩
                  obtain ⟨z0, z1, z2⟩ : _ ∧ _ ∧ _ := ⟨Y.out.2 0 _ rfl, Y.out.2 1 _ rfl, Y.out.2 2 _ rfl⟩
                  refine T_b1 (fun K hK => ?_)
                  simp only [pickOp]
                  go_simp
                  refine hK.out _ _ (bkeep (bel_put3 hH.1 LY.out _ _ _)) (fun hH' => ?_)
                  clear hK K hH
                  have Y' := Lib.hid (Y.out.put3 (.int .i64 (y.v : Nat)) (.int .i64 (y.l : Nat)) (.int .i64 (y.h : Nat)))
                  have X' := Lib.hid (X.out.far3 (NEXY.out.symm) (.int .i64 (y.v : Nat)) (.int .i64 (y.l : Nat)) (.int .i64 (y.h : Nat)))
                  clear p0 z0 p1 z1 p2 z2 X Y
                  try simp only [pickOp, Act.put, List.setIfInBounds_toArray, List.set_cons_zero, List.set_cons_succ]
                  obtain ⟨ws1, hws⟩ : ∃ ws, ws = (((ws0.setCell ⟨wdxcc.heap.size, 0, none⟩ (.int .i64 (y.v : Nat))).setCell ⟨wdxcc.heap.size, 1, none⟩ (.int .i64 (y.l : Nat))).setCell ⟨wdxcc.heap.size, 2, none⟩ (.int .i64 (y.h : Nat))) := ⟨_, rfl⟩
                  rw [← hws] at hH' X' Y' ⊢
                  have hH := hH'
                  have X := X'
                  have Y := Y'
                  clear hws hH' X' Y'
                  refine T_done (NoPanic.normal ?_)
                  have HBz := Lib.hid hH.1
                  clear hH
                  go_wp2_with fail
                  go_meet
                  exact ⟨_, _, rfl, rfl, HBz.out, X.out, Y.out, Nat.le_trans (Nat.le_refl _) LX.out, LY.out⟩
              · simp only [pickOp]
                go_simp
                refine hK.out _ _ (bkeep (bel_al hH.1 _)) (fun hH' => ?_)
                clear hK K
                have LY := Lib.hid hH.1.size
                clear hH
                have Y := Lib.hid (Blk.new wdxc 53 [.int .i64 0, .int .i64 0, .int .i64 0])
                have NEXY := Lib.hid (Nat.ne_of_lt X.out.lt)
                have X' := Lib.hid (X.out.on (bel_al (Below.refl _ _) (Obj.cells #[.int .i64 0, .int .i64 0, .int .i64 0] 53)))
                clear X
                have X := X'
                clear X'
                try simp only [pickOp, Act.put, List.setIfInBounds_toArray, List.set_cons_zero, List.set_cons_succ]
                obtain ⟨wdxcy, hwn⟩ : ∃ x, x = wdxc.alloc (Obj.cells #[.int .i64 0, .int .i64 0, .int .i64 0] 53) := ⟨_, rfl⟩
                rw [← hwn] at hH' X Y ⊢
                have hH := hH'
                clear hH' hwn
                refine T_b1 (fun K hK => ?_)
                · simp only [pickOp]
                  go_simp
                  refine (CY.out _ (A1.out.on hH.1)).mono ?_
                  rintro e wdxcyc ⟨rfl, hbx⟩
                  try go_wp2_with fail
                  refine hK.out _ _ (bkeep (bel_on' hH.1 hbx)) (fun hH' => ?_)
                  clear hK K hH
                  have hH := hH'
                  clear hH'
                  have X' := Lib.hid (X.out.on hbx)
                  clear X
                  have X := X'
                  clear X'
                  have Y' := Lib.hid (Y.out.on hbx)
                  clear Y
                  have Y := Y'
                  clear Y'
                  clear hbx
                  try simp only [pickOp, Act.put, List.setIfInBounds_toArray, List.set_cons_zero, List.set_cons_succ]
                  obtain ⟨p0, p1, p2⟩ : _ ∧ _ ∧ _ := ⟨X.out.1 0 _ rfl, X.out.1 1 _ rfl, X.out.1 2 _ rfl⟩
                  obtain ⟨z0, z1, z2⟩ : _ ∧ _ ∧ _ := ⟨X.out.2 0 _ rfl, X.out.2 1 _ rfl, X.out.2 2 _ rfl⟩
                  refine T_b1 (fun K hK => ?_)
                  simp only [pickOp]
                  go_simp
                  refine hK.out _ _ (bkeep (bel_put3 hH.1 LX.out _ _ _)) (fun hH' => ?_)
                  clear hK K hH
                  have X' := Lib.hid (X.out.put3 (.int .i64 (x.v : Nat)) (.int .i64 (x.l : Nat)) (.int .i64 (x.h : Nat)))
                  have Y' := Lib.hid (Y.out.far3 (NEXY.out) (.int .i64 (x.v : Nat)) (.int .i64 (x.l : Nat)) (.int .i64 (x.h : Nat)))
                  clear p0 z0 p1 z1 p2 z2 X Y
                  try simp only [pickOp, Act.put, List.setIfInBounds_toArray, List.set_cons_zero, List.set_cons_succ]
                  obtain ⟨ws0, hws⟩ : ∃ ws, ws = (((wdxcyc.setCell ⟨wd.heap.size, 0, none⟩ (.int .i64 (x.v : Nat))).setCell ⟨wd.heap.size, 1, none⟩ (.int .i64 (x.l : Nat))).setCell ⟨wd.heap.size, 2, none⟩ (.int .i64 (x.h : Nat))) := ⟨_, rfl⟩
                  rw [← hws] at hH' X' Y' ⊢
                  have hH := hH'
                  have X := X'
                  have Y := Y'
                  clear hws hH' X' Y'
                  obtain ⟨p0, p1, p2⟩ : _ ∧ _ ∧ _ := ⟨Y.out.1 0 _ rfl, Y.out.1 1 _ rfl, Y.out.1 2 _ rfl⟩
                  obtain ⟨z0, z1, z2⟩ : _ ∧ _ ∧ _ := ⟨Y.out.2 0 _ rfl, Y.out.2 1 _ rfl, Y.out.2 2 _ rfl⟩
                  refine T_b1 (fun K hK => ?_)
                  simp only [pickOp]
                  go_simp
                  refine hK.out _ _ (bkeep (bel_put3 hH.1 LY.out _ _ _)) (fun hH' => ?_)
                  clear hK K hH
                  have Y' := Lib.hid (Y.out.put3 (.int .i64 (y.v : Nat)) (.int .i64 (y.l : Nat)) (.int .i64 (y.h : Nat)))
                  have X' := Lib.hid (X.out.far3 (NEXY.out.symm) (.int .i64 (y.v : Nat)) (.int .i64 (y.l : Nat)) (.int .i64 (y.h : Nat)))
                  clear p0 z0 p1 z1 p2 z2 X Y
                  try simp only [pickOp, Act.put, List.setIfInBounds_toArray, List.set_cons_zero, List.set_cons_succ]
                  obtain ⟨ws1, hws⟩ : ∃ ws, ws = (((ws0.setCell ⟨wdxc.heap.size, 0, none⟩ (.int .i64 (y.v : Nat))).setCell ⟨wdxc.heap.size, 1, none⟩ (.int .i64 (y.l : Nat))).setCell ⟨wdxc.heap.size, 2, none⟩ (.int .i64 (y.h : Nat))) := ⟨_, rfl⟩
                  rw [← hws] at hH' X' Y' ⊢
                  have hH := hH'
                  have X := X'
                  have Y := Y'
                  clear hws hH' X' Y'
                  refine T_done (NoPanic.normal ?_)
                  have HBz := Lib.hid hH.1
                  clear hH
                  go_wp2_with fail
                  go_meet
                  exact ⟨_, _, rfl, rfl, HBz.out, X.out, Y.out, Nat.le_trans (Nat.le_refl _) LX.out, LY.out⟩
            · simp only [pickOp]
              go_simp
              refine hK.out _ _ (bkeep (bel_al hH.1 _)) (fun hH' => ?_)
              clear hK K
              have LY := Lib.hid hH.1.size
              clear hH
              have Y := Lib.hid (Blk.new wdx 53 [.int .i64 0, .int .i64 0, .int .i64 0])
              have NEXY := Lib.hid (Nat.ne_of_lt X.out.lt)
              have X' := Lib.hid (X.out.on (bel_al (Below.refl _ _) (Obj.cells #[.int .i64 0, .int .i64 0, .int .i64 0] 53)))
              clear X
              have X := X'
              clear X'
              try simp only [pickOp, Act.put, List.setIfInBounds_toArray, List.set_cons_zero, List.set_cons_succ]
              obtain ⟨wdxy, hwn⟩ : ∃ x, x = wdx.alloc (Obj.cells #[.int .i64 0, .int .i64 0, .int .i64 0] 53) := ⟨_, rfl⟩
              rw [← hwn] at hH' X Y ⊢
              have hH := hH'
              clear hH' hwn
              refine T_b1 (fun K hK => ?_)
              · simp only [pickOp]
                go_simp
                refine (CX.out _ (A1.out.on hH.1)).mono ?_
                rintro e wdxyc ⟨rfl, hbx⟩
                try go_wp2_with fail
                refine hK.out _ _ (bkeep (bel_on' hH.1 hbx)) (fun hH' => ?_)
                clear hK K hH
                have hH := hH'
                clear hH'
                have X' := Lib.hid (X.out.on hbx)
                clear X
                have X := X'
                clear X'
                have Y' := Lib.hid (Y.out.on hbx)
                clear Y
                have Y := Y'
                clear Y'
                clear hbx
                try simp only [pickOp, Act.put, List.setIfInBounds_toArray, List.set_cons_zero, List.set_cons_succ]
                refine T_b1 (fun K hK => ?_)
                · simp only [pickOp]
                  go_simp
                  refine (CY.out _ (A1.out.on hH.1)).mono ?_
                  rintro e wdxycc ⟨rfl, hbx⟩
                  try go_wp2_with fail
                  refine hK.out _ _ (bkeep (bel_on' hH.1 hbx)) (fun hH' => ?_)
                  clear hK K hH
                  have hH := hH'
                  clear hH'
                  have X' := Lib.hid (X.out.on hbx)
                  clear X
                  have X := X'
                  clear X'
                  have Y' := Lib.hid (Y.out.on hbx)
                  clear Y
                  have Y := Y'
                  clear Y'
                  clear hbx
                  try simp only [pickOp, Act.put, List.setIfInBounds_toArray, List.set_cons_zero, List.set_cons_succ]
                  obtain ⟨p0, p1, p2⟩ : _ ∧ _ ∧ _ := ⟨X.out.1 0 _ rfl, X.out.1 1 _ rfl, X.out.1 2 _ rfl⟩
                  obtain ⟨z0, z1, z2⟩ : _ ∧ _ ∧ _ := ⟨X.out.2 0 _ rfl, X.out.2 1 _ rfl, X.out.2 2 _ rfl⟩
                  refine T_b1 (fun K hK => ?_)
                  simp only [pickOp]
                  go_simp
                  refine hK.out _ _ (bkeep (bel_put3 hH.1 LX.out _ _ _)) (fun hH' => ?_)
                  clear hK K hH
                  have X' := Lib.hid (X.out.put3 (.int .i64 (x.v : Nat)) (.int .i64 (x.l : Nat)) (.int .i64 (x.h : Nat)))
                  have Y' := Lib.hid (Y.out.far3 (NEXY.out) (.int .i64 (x.v : Nat)) (.int .i64 (x.l : Nat)) (.int .i64 (x.h : Nat)))
                  clear p0 z0 p1 z1 p2 z2 X Y
                  try simp only [pickOp, Act.put, List.setIfInBounds_toArray, List.set_cons_zero, List.set_cons_succ]
                  obtain ⟨ws0, hws⟩ : ∃ ws, ws = (((wdxycc.setCell ⟨wd.heap.size, 0, none⟩ (.int .i64 (x.v : Nat))).setCell ⟨wd.heap.size, 1, none⟩ (.int .i64 (x.l : Nat))).setCell ⟨wd.heap.size, 2, none⟩ (.int .i64 (x.h : Nat))) := ⟨_, rfl⟩
                  rw [← hws] at hH' X' Y' ⊢
                  have hH := hH'
                  have X := X'
                  have Y := Y'
                  clear hws hH' X' Y'
                  obtain ⟨p0, p1, p2⟩ : _ ∧ _ ∧ _ := ⟨Y.out.1 0 _ rfl, Y.out.1 1 _ rfl, Y.out.1 2 _ rfl⟩
                  obtain ⟨z0, z1, z2⟩ : _ ∧ _ ∧ _ := ⟨Y.out.2 0 _ rfl, Y.out.2 1 _ rfl, Y.out.2 2 _ rfl⟩
                  refine T_b1 (fun K hK => ?_)
                  simp only [pickOp]
                  go_simp
                  refine hK.out _ _ (bkeep (bel_put3 hH.1 LY.out _ _ _)) (fun hH' => ?_)
                  clear hK K hH
                  have Y' := Lib.hid (Y.out.put3 (.int .i64 (y.v : Nat)) (.int .i64 (y.l : Nat)) (.int .i64 (y.h : Nat)))
                  have X' := Lib.hid (X.out.far3 (NEXY.out.symm) (.int .i64 (y.v : Nat)) (.int .i64 (y.l : Nat)) (.int .i64 (y.h : Nat)))
                  clear p0 z0 p1 z1 p2 z2 X Y
                  try simp only [pickOp, Act.put, List.setIfInBounds_toArray, List.set_cons_zero, List.set_cons_succ]
                  obtain ⟨ws1, hws⟩ : ∃ ws, ws = (((ws0.setCell ⟨wdx.heap.size, 0, none⟩ (.int .i64 (y.v : Nat))).setCell ⟨wdx.heap.size, 1, none⟩ (.int .i64 (y.l : Nat))).setCell ⟨wdx.heap.size, 2, none⟩ (.int .i64 (y.h : Nat))) := ⟨_, rfl⟩
                  rw [← hws] at hH' X' Y' ⊢
                  have hH := hH'
                  have X := X'
                  have Y := Y'
                  clear hws hH' X' Y'
                  refine T_done (NoPanic.normal ?_)
                  have HBz := Lib.hid hH.1
                  clear hH
                  go_wp2_with fail
                  go_meet
                  exact ⟨_, _, rfl, rfl, HBz.out, X.out, Y.out, Nat.le_trans (Nat.le_refl _) LX.out, LY.out⟩
          · simp only [pickOp]
            go_simp
            refine hK.out _ _ (bkeep (bel_al hH.1 _)) (fun hH' => ?_)
            clear hK K
            have LY := Lib.hid hH.1.size
            clear hH
            have Y := Lib.hid (Blk.new wd 53 [.int .i64 0, .int .i64 0, .int .i64 0])
            try simp only [pickOp, Act.put, List.setIfInBounds_toArray, List.set_cons_zero, List.set_cons_succ]
            obtain ⟨wdy, hwn⟩ : ∃ x, x = wd.alloc (Obj.cells #[.int .i64 0, .int .i64 0, .int .i64 0] 53) := ⟨_, rfl⟩
            rw [← hwn] at hH' Y ⊢
            have hH := hH'
            clear hH' hwn
            refine T_b2 (fun K hK => ?_) (fun K hK => ?_)
            · simp only [pickOp]
              go_simp
              refine (CX.out _ (A1.out.on hH.1)).mono ?_
              rintro e wdyc ⟨rfl, hbx⟩
              try go_wp2_with fail
              refine hK.out _ _ (bkeep (bel_on' hH.1 hbx)) (fun hH' => ?_)
              clear hK K hH
              have hH := hH'
              clear hH'
              have Y' := Lib.hid (Y.out.on hbx)
              clear Y
              have Y := Y'
              clear Y'
              clear hbx
              try simp only [pickOp, Act.put, List.setIfInBounds_toArray, List.set_cons_zero, List.set_cons_succ]
              refine T_b2 (fun K hK => ?_) (fun K hK => ?_)
              · simp only [pickOp]
                go_simp
                refine (CY.out _ (A1.out.on hH.1)).mono ?_
                rintro e wdycc ⟨rfl, hbx⟩
                try go_wp2_with fail
                refine hK.out _ _ (bkeep (bel_on' hH.1 hbx)) (fun hH' => ?_)
                clear hK K hH
                have hH := hH'
                clear hH'
                have Y' := Lib.hid (Y.out.on hbx)
                clear Y
                have Y := Y'
                clear Y'
                clear hbx
                try simp only [pickOp, Act.put, List.setIfInBounds_toArray, List.set_cons_zero, List.set_cons_succ]
                refine T_b1 (fun K hK => ?_)
                · simp only [pickOp]
                  go_simp
                  refine hK.out _ _ (bkeep (bel_al hH.1 _)) (fun hH' => ?_)
                  clear hK K
                  have LX := Lib.hid hH.1.size
                  clear hH
                  have X := Lib.hid (Blk.new wdycc 53 [.int .i64 0, .int .i64 0, .int .i64 0])
                  have NEYX := Lib.hid (Nat.ne_of_lt Y.out.lt)
                  have Y' := Lib.hid (Y.out.on (bel_al (Below.refl _ _) (Obj.cells #[.int .i64 0, .int .i64 0, .int .i64 0] 53)))
                  clear Y
                  have Y := Y'
                  clear Y'
                  try simp only [pickOp, Act.put, List.setIfInBounds_toArray, List.set_cons_zero, List.set_cons_succ]
                  obtain ⟨wdyccx, hwn⟩ : ∃ x, x = wdycc.alloc (Obj.cells #[.int .i64 0, .int .i64 0, .int .i64 0] 53) := ⟨_, rfl⟩
                  rw [← hwn] at hH' Y X ⊢
                  have hH := hH'
                  clear hH' hwn
                  obtain ⟨p0, p1, p2⟩ : _ ∧ _ ∧ _ := ⟨X.out.1 0 _ rfl, X.out.1 1 _ rfl, X.out.1 2 _ rfl⟩
                  obtain ⟨z0, z1, z2⟩ : _ ∧ _ ∧ _ := ⟨X.out.2 0 _ rfl, X.out.2 1 _ rfl, X.out.2 2 _ rfl⟩
                  refine T_b1 (fun K hK => ?_)
                  simp only [pickOp]
                  go_simp
                  refine hK.out _ _ (bkeep (bel_put3 hH.1 LX.out _ _ _)) (fun hH' => ?_)
                  clear hK K hH
                  have X' := Lib.hid (X.out.put3 (.int .i64 (x.v : Nat)) (.int .i64 (x.l : Nat)) (.int .i64 (x.h : Nat)))
                  have Y' := Lib.hid (Y.out.far3 (NEYX.out.symm) (.int .i64 (x.v : Nat)) (.int .i64 (x.l : Nat)) (.int .i64 (x.h : Nat)))
                  clear p0 z0 p1 z1 p2 z2 X Y
                  try simp only [pickOp, Act.put, List.setIfInBounds_toArray, List.set_cons_zero, List.set_cons_succ]
                  obtain ⟨ws0, hws⟩ : ∃ ws, ws = (((wdyccx.setCell ⟨wdycc.heap.size, 0, none⟩ (.int .i64 (x.v : Nat))).setCell ⟨wdycc.heap.size, 1, none⟩ (.int .i64 (x.l : Nat))).setCell ⟨wdycc.heap.size, 2, none⟩ (.int .i64 (x.h : Nat))) := ⟨_, rfl⟩
                  rw [← hws] at hH' X' Y' ⊢
                  have hH := hH'
                  have X := X'
                  have Y := Y'
                  clear hws hH' X' Y'
                  obtain ⟨p0, p1, p2⟩ : _ ∧ _ ∧ _ := ⟨Y.out.1 0 _ rfl, Y.out.1 1 _ rfl, Y.out.1 2 _ rfl⟩
                  obtain ⟨z0, z1, z2⟩ : _ ∧ _ ∧ _ := ⟨Y.out.2 0 _ rfl, Y.out.2 1 _ rfl, Y.out.2 2 _ rfl⟩
                  refine T_b1 (fun K hK => ?_)
                  simp only [pickOp]
                  go_simp
                  refine hK.out _ _ (bkeep (bel_put3 hH.1 LY.out _ _ _)) (fun hH' => ?_)
                  clear hK K hH
                  have Y' := Lib.hid (Y.out.put3 (.int .i64 (y.v : Nat)) (.int .i64 (y.l : Nat)) (.int .i64 (y.h : Nat)))
                  have X' := Lib.hid (X.out.far3 (NEYX.out) (.int .i64 (y.v : Nat)) (.int .i64 (y.l : Nat)) (.int .i64 (y.h : Nat)))
                  clear p0 z0 p1 z1 p2 z2 X Y
                  try simp only [pickOp, Act.put, List.setIfInBounds_toArray, List.set_cons_zero, List.set_cons_succ]
                  obtain ⟨ws1, hws⟩ : ∃ ws, ws = (((ws0.setCell ⟨wd.heap.size, 0, none⟩ (.int .i64 (y.v : Nat))).setCell ⟨wd.heap.size, 1, none⟩ (.int .i64 (y.l : Nat))).setCell ⟨wd.heap.size, 2, none⟩ (.int .i64 (y.h : Nat))) := ⟨_, rfl⟩
                  rw [← hws] at hH' X' Y' ⊢
                  have hH := hH'
                  have X := X'
                  have Y := Y'
                  clear hws hH' X' Y'
                  refine T_done (NoPanic.normal ?_)
                  have HBz := Lib.hid hH.1
                  clear hH
                  go_wp2_with fail
                  go_meet
                  exact ⟨_, _, rfl, rfl, HBz.out, X.out, Y.out, Nat.le_trans (Nat.le_refl _) LX.out, LY.out⟩
              · simp only [pickOp]
                go_simp
                refine hK.out _ _ (bkeep (bel_al hH.1 _)) (fun hH' => ?_)
                clear hK K
                have LX := Lib.hid hH.1.size
                clear hH
                have X := Lib.hid (Blk.new wdyc 53 [.int .i64 0, .int .i64 0, .int .i64 0])
                have NEYX := Lib.hid (Nat.ne_of_lt Y.out.lt)
                have Y' := Lib.hid (Y.out.on (bel_al (Below.refl _ _) (Obj.cells #[.int .i64 0, .int .i64 0, .int .i64 0] 53)))
                clear Y
                have Y := Y'
                clear Y'
                try simp only [pickOp, Act.put, List.setIfInBounds_toArray, List.set_cons_zero, List.set_cons_succ]
                obtain ⟨wdycx, hwn⟩ : ∃ x, x = wdyc.alloc (Obj.cells #[.int .i64 0, .int .i64 0, .int .i64 0] 53) := ⟨_, rfl⟩
                rw [← hwn] at hH' Y X ⊢
                have hH := hH'
                clear hH' hwn
                refine T_b1 (fun K hK => ?_)
                · simp only [pickOp]
                  go_simp
                  refine (CY.out _ (A1.out.on hH.1)).mono ?_
                  rintro e wdycxc ⟨rfl, hbx⟩
                  try go_wp2_with fail
                  refine hK.out _ _ (bkeep (bel_on' hH.1 hbx)) (fun hH' => ?_)
                  clear hK K hH
                  have hH := hH'
                  clear hH'
                  have Y' := Lib.hid (Y.out.on hbx)
                  clear Y
                  have Y := Y'
                  clear Y'
                  have X' := Lib.hid (X.out.on hbx)
                  clear X
                  have X := X'
                  clear X'
                  clear hbx
                  try simp only [pickOp, Act.put, List.setIfInBounds_toArray, List.set_cons_zero, List.set_cons_succ]
                  obtain ⟨p0, p1, p2⟩ : _ ∧ _ ∧ _ := ⟨X.out.1 0 _ rfl, X.out.1 1 _ rfl, X.out.1 2 _ rfl⟩
                  obtain ⟨z0, z1, z2⟩ : _ ∧ _ ∧ _ := ⟨X.out.2 0 _ rfl, X.out.2 1 _ rfl, X.out.2 2 _ rfl⟩
                  refine T_b1 (fun K hK => ?_)
                  simp only [pickOp]
                  go_simp
                  refine hK.out _ _ (bkeep (bel_put3 hH.1 LX.out _ _ _)) (fun hH' => ?_)
                  clear hK K hH
                  have X' := Lib.hid (X.out.put3 (.int .i64 (x.v : Nat)) (.int .i64 (x.l : Nat)) (.int .i64 (x.h : Nat)))
                  have Y' := Lib.hid (Y.out.far3 (NEYX.out.symm) (.int .i64 (x.v : Nat)) (.int .i64 (x.l : Nat)) (.int .i64 (x.h : Nat)))
                  clear p0 z0 p1 z1 p2 z2 X Y
                  try simp only [pickOp, Act.put, List.setIfInBounds_toArray, List.set_cons_zero, List.set_cons_succ]
                  obtain ⟨ws0, hws⟩ : ∃ ws, ws = (((wdycxc.setCell ⟨wdyc.heap.size, 0, none⟩ (.int .i64 (x.v : Nat))).setCell ⟨wdyc.heap.size, 1, none⟩ (.int .i64 (x.l : Nat))).setCell ⟨wdyc.heap.size, 2, none⟩ (.int .i64 (x.h : Nat))) := ⟨_, rfl⟩
                  rw [← hws] at hH' X' Y' ⊢
                  have hH := hH'
                  have X := X'
                  have Y := Y'
                  clear hws hH' X' Y'
                  obtain ⟨p0, p1, p2⟩ : _ ∧ _ ∧ _ := ⟨Y.out.1 0 _ rfl, Y.out.1 1 _ rfl, Y.out.1 2 _ rfl⟩
                  obtain ⟨z0, z1, z2⟩ : _ ∧ _ ∧ _ := ⟨Y.out.2 0 _ rfl, Y.out.2 1 _ rfl, Y.out.2 2 _ rfl⟩
                  refine T_b1 (fun K hK => ?_)
                  simp only [pickOp]
                  go_simp
                  refine hK.out _ _ (bkeep (bel_put3 hH.1 LY.out _ _ _)) (fun hH' => ?_)
                  clear hK K hH
                  have Y' := Lib.hid (Y.out.put3 (.int .i64 (y.v : Nat)) (.int .i64 (y.l : Nat)) (.int .i64 (y.h : Nat)))
                  have X' := Lib.hid (X.out.far3 (NEYX.out) (.int .i64 (y.v : Nat)) (.int .i64 (y.l : Nat)) (.int .i64 (y.h : Nat)))
                  clear p0 z0 p1 z1 p2 z2 X Y
                  try simp only [pickOp, Act.put, List.setIfInBounds_toArray, List.set_cons_zero, List.set_cons_succ]
                  obtain ⟨ws1, hws⟩ : ∃ ws, ws = (((ws0.setCell ⟨wd.heap.size, 0, none⟩ (.int .i64 (y.v : Nat))).setCell ⟨wd.heap.size, 1, none⟩ (.int .i64 (y.l : Nat))).setCell ⟨wd.heap.size, 2, none⟩ (.int .i64 (y.h : Nat))) := ⟨_, rfl⟩
                  rw [← hws] at hH' X' Y' ⊢
                  have hH := hH'
                  have X := X'
                  have Y := Y'
                  clear hws hH' X' Y'
                  refine T_done (NoPanic.normal ?_)
                  have HBz := Lib.hid hH.1
                  clear hH
                  go_wp2_with fail
                  go_meet
                  exact ⟨_, _, rfl, rfl, HBz.out, X.out, Y.out, Nat.le_trans (Nat.le_refl _) LX.out, LY.out⟩
            · simp only [pickOp]
              go_simp
              refine hK.out _ _ (bkeep (bel_al hH.1 _)) (fun hH' => ?_)
              clear hK K
              have LX := Lib.hid hH.1.size
              clear hH
              have X := Lib.hid (Blk.new wdy 53 [.int .i64 0, .int .i64 0, .int .i64 0])
              have NEYX := Lib.hid (Nat.ne_of_lt Y.out.lt)
              have Y' := Lib.hid (Y.out.on (bel_al (Below.refl _ _) (Obj.cells #[.int .i64 0, .int .i64 0, .int .i64 0] 53)))
              clear Y
              have Y := Y'
              clear Y'
              try simp only [pickOp, Act.put, List.setIfInBounds_toArray, List.set_cons_zero, List.set_cons_succ]
              obtain ⟨wdyx, hwn⟩ : ∃ x, x = wdy.alloc (Obj.cells #[.int .i64 0, .int .i64 0, .int .i64 0] 53) := ⟨_, rfl⟩
              rw [← hwn] at hH' Y X ⊢
              have hH := hH'
              clear hH' hwn
              refine T_b1 (fun K hK => ?_)
              · simp only [pickOp]
                go_simp
                refine (CX.out _ (A1.out.on hH.1)).mono ?_
                rintro e wdyxc ⟨rfl, hbx⟩
                try go_wp2_with fail
                refine hK.out _ _ (bkeep (bel_on' hH.1 hbx)) (fun hH' => ?_)
                clear hK K hH
                have hH := hH'
                clear hH'
                have Y' := Lib.hid (Y.out.on hbx)
                clear Y
                have Y := Y'
                clear Y'
                have X' := Lib.hid (X.out.on hbx)
                clear X
                have X := X'
                clear X'
                clear hbx
                try simp only [pickOp, Act.put, List.setIfInBounds_toArray, List.set_cons_zero, List.set_cons_succ]
                refine T_b1 (fun K hK => ?_)
                · simp only [pickOp]
                  go_simp
                  refine (CY.out _ (A1.out.on hH.1)).mono ?_
                  rintro e wdyxcc ⟨rfl, hbx⟩
                  try go_wp2_with fail
                  refine hK.out _ _ (bkeep (bel_on' hH.1 hbx)) (fun hH' => ?_)
                  clear hK K hH
                  have hH := hH'
                  clear hH'
                  have Y' := Lib.hid (Y.out.on hbx)
                  clear Y
                  have Y := Y'
                  clear Y'
                  have X' := Lib.hid (X.out.on hbx)
                  clear X
                  have X := X'
                  clear X'
                  clear hbx
                  try simp only [pickOp, Act.put, List.setIfInBounds_toArray, List.set_cons_zero, List.set_cons_succ]
                  obtain ⟨p0, p1, p2⟩ : _ ∧ _ ∧ _ := ⟨X.out.1 0 _ rfl, X.out.1 1 _ rfl, X.out.1 2 _ rfl⟩
                  obtain ⟨z0, z1, z2⟩ : _ ∧ _ ∧ _ := ⟨X.out.2 0 _ rfl, X.out.2 1 _ rfl, X.out.2 2 _ rfl⟩
                  refine T_b1 (fun K hK => ?_)
                  simp only [pickOp]
                  go_simp
                  refine hK.out _ _ (bkeep (bel_put3 hH.1 LX.out _ _ _)) (fun hH' => ?_)
                  clear hK K hH
                  have X' := Lib.hid (X.out.put3 (.int .i64 (x.v : Nat)) (.int .i64 (x.l : Nat)) (.int .i64 (x.h : Nat)))
                  have Y' := Lib.hid (Y.out.far3 (NEYX.out.symm) (.int .i64 (x.v : Nat)) (.int .i64 (x.l : Nat)) (.int .i64 (x.h : Nat)))
                  clear p0 z0 p1 z1 p2 z2 X Y
                  try simp only [pickOp, Act.put, List.setIfInBounds_toArray, List.set_cons_zero, List.set_cons_succ]
                  obtain ⟨ws0, hws⟩ : ∃ ws, ws = (((wdyxcc.setCell ⟨wdy.heap.size, 0, none⟩ (.int .i64 (x.v : Nat))).setCell ⟨wdy.heap.size, 1, none⟩ (.int .i64 (x.l : Nat))).setCell ⟨wdy.heap.size, 2, none⟩ (.int .i64 (x.h : Nat))) := ⟨_, rfl⟩
                  rw [← hws] at hH' X' Y' ⊢
                  have hH := hH'
                  have X := X'
                  have Y := Y'
                  clear hws hH' X' Y'
                  obtain ⟨p0, p1, p2⟩ : _ ∧ _ ∧ _ := ⟨Y.out.1 0 _ rfl, Y.out.1 1 _ rfl, Y.out.1 2 _ rfl⟩
                  obtain ⟨z0, z1, z2⟩ : _ ∧ _ ∧ _ := ⟨Y.out.2 0 _ rfl, Y.out.2 1 _ rfl, Y.out.2 2 _ rfl⟩
                  refine T_b1 (fun K hK => ?_)
                  simp only [pickOp]
                  go_simp
                  refine hK.out _ _ (bkeep (bel_put3 hH.1 LY.out _ _ _)) (fun hH' => ?_)
                  clear hK K hH
                  have Y' := Lib.hid (Y.out.put3 (.int .i64 (y.v : Nat)) (.int .i64 (y.l : Nat)) (.int .i64 (y.h : Nat)))
                  have X' := Lib.hid (X.out.far3 (NEYX.out) (.int .i64 (y.v : Nat)) (.int .i64 (y.l : Nat)) (.int .i64 (y.h : Nat)))
                  clear p0 z0 p1 z1 p2 z2 X Y
                  try simp only [pickOp, Act.put, List.setIfInBounds_toArray, List.set_cons_zero, List.set_cons_succ]
                  obtain ⟨ws1, hws⟩ : ∃ ws, ws = (((ws0.setCell ⟨wd.heap.size, 0, none⟩ (.int .i64 (y.v : Nat))).setCell ⟨wd.heap.size, 1, none⟩ (.int .i64 (y.l : Nat))).setCell ⟨wd.heap.size, 2, none⟩ (.int .i64 (y.h : Nat))) := ⟨_, rfl⟩
                  rw [← hws] at hH' X' Y' ⊢
                  have hH := hH'
                  have X := X'
                  have Y := Y'
                  clear hws hH' X' Y'
                  refine T_done (NoPanic.normal ?_)
                  have HBz := Lib.hid hH.1
                  clear hH
                  go_wp2_with fail
                  go_meet
                  exact ⟨_, _, rfl, rfl, HBz.out, X.out, Y.out, Nat.le_trans (Nat.le_refl _) LX.out, LY.out⟩
        case rest =>
          obtain ⟨bx, bY, rfl, rfl, hb, hX, hY, lx, ly⟩ := hcut
          obtain ⟨W2, rfl⟩ : ∃ W2 : World, W2 = wc := ⟨_, rfl⟩
          have A2 := Lib.hid (A1.out.on hb)
          have J2 := Lib.hid (J1.out.on hb)
          have B2 := Lib.hid (bel_on' B1.out hb)
          have X2 := Lib.hid hX
          have Y2 := Lib.hid hY
          have OX := Lib.hid (show Off (fun i => i = db) a bx from ⟨by have := A1.out.pl; omega, by have := A1.out.ql; omega, by have := A1.out.ml; omega, by have := J1.out.d.lt; omega⟩)
          have OY := Lib.hid (show Off (fun i => i = db) a bY from ⟨by have := A1.out.pl; omega, by have := A1.out.ql; omega, by have := A1.out.ml; omega, by have := J1.out.d.lt; omega⟩)
          clear hb hX hY lx ly A1 J1 B1 CX CY j_0 j_1 j_2
          obtain ⟨x_0, x_1, x_2⟩ : _ ∧ _ ∧ _ := ⟨X2.out.1 0 _ rfl, X2.out.1 1 _ rfl, X2.out.1 2 _ rfl⟩
          obtain ⟨y_0, y_1, y_2⟩ : _ ∧ _ ∧ _ := ⟨Y2.out.1 0 _ rfl, Y2.out.1 1 _ rfl, Y2.out.1 2 _ rfl⟩
          obtain ⟨s1, s2, s3, s4, ST'⟩ := ST.out
          obtain ⟨r1, ns1, m1, e1⟩ : ∃ r1 ns1 m1, pairF kind most k ns m x.l y.l = (r1, ns1, m1) := ⟨_, _, _, rfl⟩
          have C1 := Lib.hid (IH.out ns m x.l y.l W2 a A2.out HW.out HM.out J2.out s1 s2 s3)
          rw [e1] at C1
          have ST1 := Lib.hid (ST' r1 ns1 m1 e1)
          have h104 := Lib.hid s4
          clear s1 s2 s3 s4 ST' ST e1
          cases r1 with
          | none =>
            have hz : R = (none, ns1, m1) := by rw [← HR.out]; exact ST1.out.2.2.1 rfl
            subst hz
            replace C1 : Hid (Calls Try.prog _ _ W2 fun e w' => e = .returned (.tuple #[.int .i64 0, .int .i64 20]) ∧ ∃ a', Ar w' a' most ns1 ∧ Jn w' a' jb db kind m1 ∧ Tr (fun i => i = db) W2 a w' a') := C1
            go_wp2_with fail
            refine C1.out.mono ?_
            rintro e w3 ⟨rfl, a1, hA, hJ, hT⟩
            have F := Lib.hid (And.intro hA (And.intro hJ hT))
            clear hA hJ hT
            go_wp2
            go_ret2
            exact ⟨rfl, a1, F.out.1, F.out.2.1, Tr.ahead B2.out F.out.2.2⟩
          | some lo =>
            replace C1 : Hid (Calls Try.prog _ _ W2 fun e w' => e = .returned (.tuple #[.int .i64 (lo : Nat), .int .i64 0]) ∧ ∃ a', Ar w' a' most ns1 ∧ Jn w' a' jb db kind m1 ∧ Tr (fun i => i = db) W2 a w' a') := C1
            go_wp2_with fail
            refine C1.out.mono ?_
            rintro e w3 ⟨rfl, a1, hA, hJ, hT⟩
            have A3 := Lib.hid hA
            have J3 := Lib.hid hJ
            have T3 := Lib.hid (Tr.ahead B2.out hT)
            have X3 := Lib.hid (X2.out.tr hT OX.out)
            have Y3 := Lib.hid (Y2.out.tr hT OY.out)
            have OX3 := Lib.hid (OX.out.on hT X2.out.lt)
            have OY3 := Lib.hid (OY.out.on hT Y2.out.lt)
            clear hA hJ hT A2 J2 B2 X2 Y2 OX OY C1 x_0 x_1 x_2 y_0 y_1 y_2
            obtain ⟨x_0, x_1, x_2⟩ : _ ∧ _ ∧ _ := ⟨X3.out.1 0 _ rfl, X3.out.1 1 _ rfl, X3.out.1 2 _ rfl⟩
            obtain ⟨y_0, y_1, y_2⟩ : _ ∧ _ ∧ _ := ⟨Y3.out.1 0 _ rfl, Y3.out.1 1 _ rfl, Y3.out.1 2 _ rfl⟩
            obtain ⟨w1, v1, -, ST1'⟩ := ST1.out
            obtain ⟨s1, s2, s3, s4, ST2'⟩ := ST1' lo rfl
            obtain ⟨r2, ns2, m2, e2⟩ : ∃ r2 ns2 m2, pairF kind most k ns1 m1 x.h y.h = (r2, ns2, m2) := ⟨_, _, _, rfl⟩
            have C2 := Lib.hid (IH.out ns1 m1 x.h y.h w3 a1 A3.out w1 v1 J3.out s2 s3 s4)
            rw [e2] at C2
            have ST2 := Lib.hid (ST2' r2 ns2 m2 e2)
            clear w1 v1 ST1' s1 s2 s3 s4 ST2' ST1 e2 IH
            cases r2 with
            | none =>
              have hz : R = (none, ns2, m2) := by rw [← HR.out]; exact ST2.out.2.2.1 rfl
              subst hz
              replace C2 : Hid (Calls Try.prog _ _ w3 fun e w' => e = .returned (.tuple #[.int .i64 0, .int .i64 20]) ∧ ∃ a', Ar w' a' most ns2 ∧ Jn w' a' jb db kind m2 ∧ Tr (fun i => i = db) w3 a1 w' a') := C2
              go_wp2_with fail
              refine C2.out.mono ?_
              rintro e w4 ⟨rfl, a2, hA, hJ, hT⟩
              have F := Lib.hid (And.intro hA (And.intro hJ hT))
              clear hA hJ hT
              go_wp2
              go_ret2
              exact ⟨rfl, a2, F.out.1, F.out.2.1, T3.out.trans F.out.2.2⟩
            | some hi =>
              replace C2 : Hid (Calls Try.prog _ _ w3 fun e w' => e = .returned (.tuple #[.int .i64 (hi : Nat), .int .i64 0]) ∧ ∃ a', Ar w' a' most ns2 ∧ Jn w' a' jb db kind m2 ∧ Tr (fun i => i = db) w3 a1 w' a') := C2
              go_wp2_with fail
              refine C2.out.mono ?_
              rintro e w4 ⟨rfl, a2, hA, hJ, hT⟩
              have A4 := Lib.hid hA
              have J4 := Lib.hid hJ
              have T4 := Lib.hid (T3.out.trans hT)
              clear hA hJ hT A3 J3 T3 X3 Y3 OX3 OY3 C2 x_0 x_1 x_2 y_0 y_1 y_2
              obtain ⟨j_0, j_1, j_2⟩ : _ ∧ _ ∧ _ := ⟨J4.out.s.1 0 _ rfl, J4.out.s.1 1 _ rfl, J4.out.s.1 2 _ rfl⟩
              obtain ⟨w2, v2, -, ST2'⟩ := ST2.out
              obtain ⟨s1, s2, ST3'⟩ := ST2' hi rfl
              obtain ⟨r3, ns3, e3⟩ : ∃ r3 ns3, numF most ns2 ⟨L, lo, hi⟩ = (r3, ns3) := ⟨_, _, rfl⟩
              have C3 := Lib.hid (number_any a2 most ns2 L lo hi w4 A4.out w2 (by have := A4.out.len; have := h104.out; exact ⟨by show L ≤ _; omega, by show lo ≤ _; omega, by show hi ≤ _; omega⟩))
              rw [e3] at C3
              have V2 := Lib.hid v2
              have ST3 := Lib.hid (ST3' r3 ns3 e3)
              clear w2 v2 ST2' s1 s2 ST3' ST2 e3
              cases r3 with
              | none =>
                have hz : R = (none, ns3, m2) := by rw [← HR.out]; exact ST3.out.1 rfl
                subst hz
                replace C3 : Hid (Calls Try.prog _ _ w4 fun e w' => e = .returned (.tuple #[.int .i64 0, .int .i64 20]) ∧ ∃ a', Ar w' a' most ns3 ∧ Tr (fun _ => False) w4 a2 w' a') := C3
                go_wp2_with fail
                refine C3.out.mono ?_
                rintro e w5 ⟨rfl, a3, hA, hT⟩
                have F := Lib.hid (And.intro hA hT)
                clear hA hT
                go_wp2
                go_ret2
                exact ⟨rfl, a3, F.out.1, J4.out.tr F.out.2, T4.out.trans F.out.2.weak⟩
              | some r =>
                obtain ⟨hz', hnot, hr⟩ := ST3.out.2 r rfl
                have hz : R = (some r, ns3, ((f, g), r) :: m2) := by rw [← HR.out]; exact hz'
                subst hz
                have HNot := Lib.hid hnot
                have hr' := Lib.hid hr
                clear hz' hnot hr
                replace C3 : Hid (Calls Try.prog _ _ w4 fun e w' => e = .returned (.tuple #[.int .i64 (r : Nat), .int .i64 0]) ∧ ∃ a', Ar w' a' most ns3 ∧ Tr (fun _ => False) w4 a2 w' a') := C3
                go_wp2_with fail
                refine C3.out.mono ?_
                rintro e w5 ⟨rfl, a3, hA, hT⟩
                have A5 := Lib.hid hA
                have J5 := Lib.hid (J4.out.tr hT)
                have T5 := Lib.hid (T4.out.trans (hT.weak (X := fun i => i = db)))
                have hm2 := Lib.hid (V2.out.few A4.out.len)
                clear hA hT A4 J4 T4 j_0 j_1 j_2 C3
                obtain ⟨w6, hup, hM6, hO6⟩ := mapG_store keyedPair Try.underlying97 Try.underlying3 pkv_inj J5.out.d (k := (f, g)) (v := r) HK.out HNot.out (by have := hr'.out; have := A5.out.len; omega) (by have := hm2.out; unfold maxLen; omega)
                have M6 := Lib.hid hM6
                have O6 := Lib.hid hO6
                clear hM6 hO6
                simp only [pkv] at hup
                obtain ⟨j_0, j_1, j_2⟩ : _ ∧ _ ∧ _ := ⟨J5.out.s.1 0 _ rfl, J5.out.s.1 1 _ rfl, J5.out.s.1 2 _ rfl⟩
                have K6 := Lib.hid (show Keep (fun i => i = db) w5 w6 from (Keep.refl _ _).only O6.out (fun _ => rfl))
                have A6 := Lib.hid (A5.out.keep K6.out (fun i hi e => by
                  subst e
                  rcases hi with e | e | e
                  · exact J5.out.e.1 e
                  · exact J5.out.e.2.1 e
                  · exact J5.out.e.2.2 e))
                have J6 := Lib.hid (show Jn w6 a3 jb db kind (((f, g), r) :: m2) from ⟨K6.out.blk J5.out.s J5.out.ne, M6.out, J5.out.j, J5.out.e⟩)
                have T6 := Lib.hid (T5.out.trans (show Tr (fun i => i = db) w5 a3 w6 a3 from ⟨K6.out.mono (fun i _ e => Or.inr e), Mv.refl _ _⟩))
                go_wp2
                go_ret2
                exact ⟨rfl, a3, A6.out, J6.out, T6.out⟩
end Go.Proofs.Ytgcbngephokegab
