/- The walk of TopoFirst (typed by gen/mkt16.py). -/
import Derived.Test.YtoiopjdbmaffeaaT15
import Derived.Test.YtoiopjdbmaffeaaAlongT
namespace Go.Proofs.Ytoiopjdbmaffeaa
open Go.RowKit
set_option linter.unusedVariables false
set_option linter.unusedSimpArgs false

set_option maxRecDepth 100000 in
set_option maxHeartbeats 40000000 in
theorem first_core (es : List Ac) (pa : Option Addr) (np pc : Nat) (la : Option Addr) (nl lc : Nat) (aa : Option Addr) (na ac : Nat) (d p R Q : Int) (io z : Bool) (g : Hr) (LT b : Bool) (P : World → Prop) (HP : Hid (∀ W w, P W → Below W.heap.size W w → P w))
    (hna : Hid (es.length = na)) (h0 : Hid (aa = none → ac = 0)) (HE : Hid (∀ w, P w → Rw w aa (es.flatMap Ac.cells)))
    (LI : Hid (∀ w, Calls Try.prog 4 #[tv pa np pc la nl lc aa na ac] w fun e w' => e = .returned (.bool LT) ∧ Below w.heap.size w w'))
    (AW : Hid (∀ w, Calls Try.prog 7 #[] w fun e w' => e = .returned (.bool true) ∧ Below w.heap.size w w'))
    (RC : Hid (LT = true → ∀ w, P w → Calls Try.prog 5 #[tv pa np pc la nl lc aa na ac] w fun e w' => e = .returned (.int .i64 R) ∧ Below w.heap.size w w'))
    (RP : Hid (LT = true → ∀ w, P w → Calls Try.prog 6 #[tv pa np pc la nl lc aa na ac, .int .i64 d, .int .i64 p] w fun e w' => e = .returned (.int .i64 Q) ∧ Below w.heap.size w w'))
    (PM : Hid (R = 0 → Q = 0 → na ≤ 30 → ∀ w, P w → Calls Try.prog 8 #[tv pa np pc la nl lc aa na ac, .int .i64 d, .int .i64 p, .bool io, g.val] w fun e w' => e = .returned (.bool b) ∧ Below w.heap.size w w'))
    (PA : Hid (R = 0 → Q = 0 → na ≤ 30 → ∀ a cap w, Rw w a ((opn d p io z).cells ++ es.flatMap Ac.cells) → Calls Try.prog 8 #[tv pa np pc la nl lc a (1 + na) cap, .int .i64 d, .int .i64 p, .bool io, g.val] w fun e w' => e = .returned (.bool z) ∧ Below w.heap.size w w'))
    (PO : Hid (R = 0 → Q = 0 → na ≤ 30 → ∀ a cap w, Rw w a ((opn d p (!io) z).cells ++ es.flatMap Ac.cells) → Calls Try.prog 8 #[tv pa np pc la nl lc a (1 + na) cap, .int .i64 d, .int .i64 p, .bool io, g.val] w fun e w' => e = .returned (.bool b) ∧ Below w.heap.size w w'))
    (PB : Hid (R = 0 → Q = 0 → na ≤ 30 → ∀ a cap w, Rw w a (([] ++ es.flatMap Ac.cells) ++ [opn d p io true].flatMap Ac.cells) → Calls Try.prog 8 #[tv pa np pc la nl lc a (na + 1) cap, .int .i64 d, .int .i64 p, .bool io, g.val] w fun e w' => e = .returned (.bool b) ∧ Below w.heap.size w w'))
    (CA : Hid (R = 0 → Q = 0 → na ≤ 30 → ∀ a cap w, P w → Rw w a ((opn d p io z).cells ++ es.flatMap Ac.cells) → Calls Try.prog 9 #[tv pa np pc la nl lc a (1 + na) cap] w fun e w' => e = .returned (.int .i64 0) ∧ Below w.heap.size w w'))
    (w : World) (hw : P w) : Calls Try.prog 3 #[tv pa np pc la nl lc aa na ac, .int .i64 d, .int .i64 p, .bool io, .bool z, g.val] w fun e w' => e = .returned (.bool true) ∧ Below w.heap.size w w' := by
  obtain ⟨W0, hW0⟩ : ∃ W0, (w.alloc (Obj.cells (tc pa np pc la nl lc aa na ac).toArray 26)).alloc (Obj.cells (hc g.d g.s g.q g.x g.y).toArray 30) = W0 := ⟨_, rfl⟩
  have B0 := Lib.hid (show Below w.heap.size w W0 by rw [← hW0]; exact cbelow_al (cbelow_al (Below.refl _ _) _) _)
  have T0 := Lib.hid (show Blk W0 w.heap.size (tc pa np pc la nl lc aa na ac) by rw [← hW0]; exact (Blk.new _ _ _).on (cbelow_al (Below.refl _ _) _))
  have K0 := Lib.hid (show Blk W0 (w.heap.size + 1) (hc g.d g.s g.q g.x g.y) by rw [← hW0]; have k := Blk.new (w.alloc (Obj.cells (tc pa np pc la nl lc aa na ac).toArray 26)) 30 (hc g.d g.s g.q g.x g.y); rw [World.size_alloc] at k; exact k)
  have hw' := Lib.hid hw
  clear hw
  unfold tc hc at *
  unfold tv Hr.val hv at *
  go_enter Try.func3, Try.ntmps3
  go_upto_region 1 with fail
  clear hW0
  obtain ⟨t_0, t_1, t_2⟩ : _ ∧ _ ∧ _ := ⟨T0.out.1 0 _ rfl, T0.out.1 1 _ rfl, T0.out.1 2 _ rfl⟩
  obtain ⟨k_0, k_1, k_2, k_3, k_4⟩ : _ ∧ _ ∧ _ ∧ _ ∧ _ := ⟨K0.out.1 0 _ rfl, K0.out.1 1 _ rfl, K0.out.1 2 _ rfl, K0.out.1 3 _ rfl, K0.out.1 4 _ rfl⟩
  go_wp2_with fail
  refine (LI.out _).mono ?_
  rintro e w1 ⟨rfl, hb⟩
  have T1 := Lib.hid (T0.out.on hb)
  have K1 := Lib.hid (K0.out.on hb)
  have B1 := Lib.hid (cbelow_on B0.out hb)
  clear hb t_0 t_1 t_2 k_0 k_1 k_2 k_3 k_4 T0 K0 B0
  obtain ⟨t_0, t_1, t_2⟩ : _ ∧ _ ∧ _ := ⟨T1.out.1 0 _ rfl, T1.out.1 1 _ rfl, T1.out.1 2 _ rfl⟩
  obtain ⟨k_0, k_1, k_2, k_3, k_4⟩ : _ ∧ _ ∧ _ ∧ _ ∧ _ := ⟨K1.out.1 0 _ rfl, K1.out.1 1 _ rfl, K1.out.1 2 _ rfl, K1.out.1 3 _ rfl, K1.out.1 4 _ rfl⟩
  cases LT with
  | false =>
    go_wp2_with fail
    refine (AW.out _).mono ?_
    rintro e w2 ⟨rfl, hb⟩
    have T2 := Lib.hid (T1.out.on hb)
    have K2 := Lib.hid (K1.out.on hb)
    have B2 := Lib.hid (cbelow_on B1.out hb)
    clear hb t_0 t_1 t_2 k_0 k_1 k_2 k_3 k_4 T1 K1 B1
    go_wp2
    go_ret
    exact ⟨rfl, B2.out⟩
  | true =>
    replace RC := Lib.hid (RC.out rfl)
    replace RP := Lib.hid (RP.out rfl)
    go_wp2_with fail
    refine (RC.out _ (HP.out _ _ hw'.out B1.out)).mono ?_
    rintro e w2 ⟨rfl, hb⟩
    have T2 := Lib.hid (T1.out.on hb)
    have K2 := Lib.hid (K1.out.on hb)
    have B2 := Lib.hid (cbelow_on B1.out hb)
    clear hb t_0 t_1 t_2 k_0 k_1 k_2 k_3 k_4 T1 K1 B1
    obtain ⟨t_0, t_1, t_2⟩ : _ ∧ _ ∧ _ := ⟨T2.out.1 0 _ rfl, T2.out.1 1 _ rfl, T2.out.1 2 _ rfl⟩
    obtain ⟨k_0, k_1, k_2, k_3, k_4⟩ : _ ∧ _ ∧ _ ∧ _ ∧ _ := ⟨K2.out.1 0 _ rfl, K2.out.1 1 _ rfl, K2.out.1 2 _ rfl, K2.out.1 3 _ rfl, K2.out.1 4 _ rfl⟩
    by_cases e1 : R = 0
    · subst e1
      go_wp2_with fail
      refine (RP.out _ (HP.out _ _ hw'.out B2.out)).mono ?_
      rintro e w3 ⟨rfl, hb⟩
      have T3 := Lib.hid (T2.out.on hb)
      have K3 := Lib.hid (K2.out.on hb)
      have B3 := Lib.hid (cbelow_on B2.out hb)
      clear hb t_0 t_1 t_2 k_0 k_1 k_2 k_3 k_4 T2 K2 B2
      obtain ⟨t_0, t_1, t_2⟩ : _ ∧ _ ∧ _ := ⟨T3.out.1 0 _ rfl, T3.out.1 1 _ rfl, T3.out.1 2 _ rfl⟩
      obtain ⟨k_0, k_1, k_2, k_3, k_4⟩ : _ ∧ _ ∧ _ ∧ _ ∧ _ := ⟨K3.out.1 0 _ rfl, K3.out.1 1 _ rfl, K3.out.1 2 _ rfl, K3.out.1 3 _ rfl, K3.out.1 4 _ rfl⟩
      by_cases e2 : Q = 0
      · subst e2
        by_cases e3 : na ≤ 30
        · have e3' : decide ((30 : Int) < (na : Int)) = false := decide_eq_false (by omega)
          have e3z : ¬ (30 : Int) < (na : Int) := by omega
          replace PM := Lib.hid (PM.out (by trivial) (by trivial) e3)
          replace PA := Lib.hid (PA.out (by trivial) (by trivial) e3)
          replace PO := Lib.hid (PO.out (by trivial) (by trivial) e3)
          replace PB := Lib.hid (PB.out (by trivial) (by trivial) e3)
          replace CA := Lib.hid (CA.out (by trivial) (by trivial) e3)
          clear LI RC RP
          go_wp2_with fail
          refine (PM.out _ (HP.out _ _ hw'.out B3.out)).mono ?_
          rintro e w4 ⟨rfl, hb⟩
          have T4 := Lib.hid (T3.out.on hb)
          have K4 := Lib.hid (K3.out.on hb)
          have B4 := Lib.hid (cbelow_on B3.out hb)
          clear hb t_0 t_1 t_2 k_0 k_1 k_2 k_3 k_4 T3 K3 B3
          clear e3' e3z
          go_upto_region 5 with fail
          refine at_code (S := fun W => Blk W w4.heap.size [.int .u32 0, .int .i64 0, .int .u32 0, .int .i64 0, .int .i64 (-1), .int .u16 0, .int .u16 65535, .int .u16 0, .int .u16 65535] ∧ Below w4.heap.size w4 W) ⟨?_, ?_⟩ (fun W5 hW => ?_)
          · exact Blk.new _ _ _
          · exact cbelow_al (Below.refl _ _) _
          obtain ⟨hN, hb⟩ := hW
          have O5 := Lib.hid hN
          have T5 := Lib.hid (T4.out.on hb)
          have K5 := Lib.hid (K4.out.on hb)
          have B5 := Lib.hid (cbelow_on B4.out hb)
          have lo := Lib.hid (show w.heap.size + 1 < w4.heap.size from K4.out.lt)
          generalize w4.heap.size = o at *
          clear hN hb T4 K4 B4
          obtain ⟨t_0, t_1, t_2⟩ : _ ∧ _ ∧ _ := ⟨T5.out.1 0 _ rfl, T5.out.1 1 _ rfl, T5.out.1 2 _ rfl⟩
          go_cut [15, 16, 17] (fun u v x wx => ∃ bx bY bz : Nat, u = .pointer (some ⟨bx, 0, none⟩) ∧ v = .pointer (some ⟨bY, 0, none⟩) ∧ x = .pointer (some ⟨bz, 0, none⟩) ∧ Below W5.heap.size W5 wx ∧ Blk wx bx [.slice pa np pc, .slice la nl lc, .slice aa na ac] ∧ Blk wx bY [.slice pa np pc, .slice la nl lc, .slice aa na ac] ∧ Blk wx bz [.slice pa np pc, .slice la nl lc, .slice aa na ac] ∧ (W5.heap.size ≤ bx ∧ W5.heap.size ≤ bY ∧ W5.heap.size ≤ bz) ∧ bx ≠ bY ∧ bx ≠ bz ∧ bY ≠ bz)
          case first =>
           as_aux_lemma =>
            refine wp_region_noPanic ?_
            refine wp_region_alongT (S := fun w' => Below W5.heap.size W5 w' ∧ ∀ b o, (W5.cell? ⟨b, o, none⟩).isSome = true → w'.cell? ⟨b, o, none⟩ = W5.cell? ⟨b, o, none⟩) (.pure 0 (.pure 1 (.pure 2 (.b3 3 (.b2 4 (.b1 5 (.b1 6 (.b1 7 (.b1 8 .done)))) 5 (.b1 4 (.b1 6 (.b1 7 (.b1 8 .done))))) 4 (.b2 3 (.b1 5 (.b1 6 (.b1 7 (.b1 8 .done)))) 5 (.b1 3 (.b1 6 (.b1 7 (.b1 8 .done))))) 5 (.b2 3 (.b1 4 (.b1 6 (.b1 7 (.b1 8 .done)))) 4 (.b1 3 (.b1 6 (.b1 7 (.b1 8 .done))))))))) (by kernel_rfl) (by as_aux_lemma => kernel_rfl) (by decide) (by as_aux_lemma => kernel_rfl) (fun _ _ _ _ _ h => h) (ckeep (Below.refl _ _).drew) (fun hH => ?_)
            iterate 3 (refine T_pure ?_ (by rfl) (fun w hSw => ?_) ?_; rotate_left; ((try dsimp only at hSw); simp only [pickOp]; go_simp; try with_reducible rfl); try simp only [pickOp, Act.put, List.setIfInBounds_toArray, List.set_cons_zero, List.set_cons_succ])
            obtain ⟨wd, hwd⟩ : ∃ x, x = W5.drew := ⟨_, rfl⟩
            rw [← hwd] at hH ⊢
            clear hwd
            refine T_b3 (fun K hK => ?_) (fun K hK => ?_) (fun K hK => ?_)
            · skip
              simp only [pickOp]
              go_simp
              refine hK.out _ _ (ckeep (cbelow_al hH.1 _)) (fun hH' => ?_)
              clear hK K
              have L3 := Lib.hid hH.1.size
              clear hH
              have X3 := Lib.hid (Blk.new wd 26 [.slice none 0 0, .slice none 0 0, .slice none 0 0])
              try simp only [pickOp, Act.put, List.setIfInBounds_toArray, List.set_cons_zero, List.set_cons_succ]
              obtain ⟨wdx, hwn⟩ : ∃ x, x = wd.alloc (Obj.cells #[.slice none 0 0, .slice none 0 0, .slice none 0 0] 26) := ⟨_, rfl⟩
              rw [← hwn] at hH' X3  ⊢
              have hH := hH'
              clear hH' hwn
              refine T_b2 (fun K hK => ?_) (fun K hK => ?_)
              · skip
                simp only [pickOp]
                go_simp
                refine hK.out _ _ (ckeep (cbelow_al hH.1 _)) (fun hH' => ?_)
                clear hK K
                have L4 := Lib.hid hH.1.size
                clear hH
                have X4 := Lib.hid (Blk.new wdx 26 [.slice none 0 0, .slice none 0 0, .slice none 0 0])
                have N34 := Lib.hid (Nat.ne_of_lt X3.out.lt)
                have X3' := Lib.hid (X3.out.on (cbelow_al (Below.refl _ _) (Obj.cells #[.slice none 0 0, .slice none 0 0, .slice none 0 0] 26)))
                clear X3
                have X3 := X3'
                clear X3'
                try simp only [pickOp, Act.put, List.setIfInBounds_toArray, List.set_cons_zero, List.set_cons_succ]
                obtain ⟨wdxy, hwn⟩ : ∃ x, x = wdx.alloc (Obj.cells #[.slice none 0 0, .slice none 0 0, .slice none 0 0] 26) := ⟨_, rfl⟩
                rw [← hwn] at hH' X4 X3 ⊢
                have hH := hH'
                clear hH' hwn
                refine T_b1 (fun K hK => ?_)
                skip
                simp only [pickOp]
                go_simp
                refine hK.out _ _ (ckeep (cbelow_al hH.1 _)) (fun hH' => ?_)
                clear hK K
                have L5 := Lib.hid hH.1.size
                clear hH
                have X5 := Lib.hid (Blk.new wdxy 26 [.slice none 0 0, .slice none 0 0, .slice none 0 0])
                have N35 := Lib.hid (Nat.ne_of_lt X3.out.lt)
                have X3' := Lib.hid (X3.out.on (cbelow_al (Below.refl _ _) (Obj.cells #[.slice none 0 0, .slice none 0 0, .slice none 0 0] 26)))
                clear X3
                have X3 := X3'
                clear X3'
                have N45 := Lib.hid (Nat.ne_of_lt X4.out.lt)
                have X4' := Lib.hid (X4.out.on (cbelow_al (Below.refl _ _) (Obj.cells #[.slice none 0 0, .slice none 0 0, .slice none 0 0] 26)))
                clear X4
                have X4 := X4'
                clear X4'
                try simp only [pickOp, Act.put, List.setIfInBounds_toArray, List.set_cons_zero, List.set_cons_succ]
                obtain ⟨wdxyz, hwn⟩ : ∃ x, x = wdxy.alloc (Obj.cells #[.slice none 0 0, .slice none 0 0, .slice none 0 0] 26) := ⟨_, rfl⟩
                rw [← hwn] at hH' X5 X3 X4 ⊢
                have hH := hH'
                clear hH' hwn
                obtain ⟨p0, p1, p2⟩ : _ ∧ _ ∧ _ := ⟨X3.out.1 0 _ rfl, X3.out.1 1 _ rfl, X3.out.1 2 _ rfl⟩
                obtain ⟨z0, z1, z2⟩ : _ ∧ _ ∧ _ := ⟨X3.out.2 0 _ rfl, X3.out.2 1 _ rfl, X3.out.2 2 _ rfl⟩
                refine T_b1 (fun K hK => ?_)
                simp only [pickOp]
                go_simp
                refine hK.out _ _ (ckeep (tbel_put3 hH.1 L3.out _ _ _)) (fun hH' => ?_)
                clear hK K hH
                have X3' := Lib.hid (X3.out.put3 (.slice pa np pc) (.slice la nl lc) (.slice aa na ac))
                have X4' := Lib.hid (X4.out.far3 (N34.out) (.slice pa np pc) (.slice la nl lc) (.slice aa na ac))
                have X5' := Lib.hid (X5.out.far3 (N35.out) (.slice pa np pc) (.slice la nl lc) (.slice aa na ac))
                clear p0 z0 p1 z1 p2 z2 X3 X4 X5
                try simp only [pickOp, Act.put, List.setIfInBounds_toArray, List.set_cons_zero, List.set_cons_succ]
                obtain ⟨ws0, hws⟩ : ∃ ws, ws = (((wdxyz.setCell ⟨wd.heap.size, 0, none⟩ (.slice pa np pc)).setCell ⟨wd.heap.size, 1, none⟩ (.slice la nl lc)).setCell ⟨wd.heap.size, 2, none⟩ (.slice aa na ac)) := ⟨_, rfl⟩
                rw [← hws] at hH' X3' X4' X5' ⊢
                have hH := hH'
                have X3 := X3'
                have X4 := X4'
                have X5 := X5'
                clear hws hH' X3' X4' X5'
                obtain ⟨p0, p1, p2⟩ : _ ∧ _ ∧ _ := ⟨X4.out.1 0 _ rfl, X4.out.1 1 _ rfl, X4.out.1 2 _ rfl⟩
                obtain ⟨z0, z1, z2⟩ : _ ∧ _ ∧ _ := ⟨X4.out.2 0 _ rfl, X4.out.2 1 _ rfl, X4.out.2 2 _ rfl⟩
                refine T_b1 (fun K hK => ?_)
                simp only [pickOp]
                go_simp
                refine hK.out _ _ (ckeep (tbel_put3 hH.1 L4.out _ _ _)) (fun hH' => ?_)
                clear hK K hH
                have X4' := Lib.hid (X4.out.put3 (.slice pa np pc) (.slice la nl lc) (.slice aa na ac))
                have X3' := Lib.hid (X3.out.far3 (N34.out.symm) (.slice pa np pc) (.slice la nl lc) (.slice aa na ac))
                have X5' := Lib.hid (X5.out.far3 (N45.out) (.slice pa np pc) (.slice la nl lc) (.slice aa na ac))
                clear p0 z0 p1 z1 p2 z2 X3 X4 X5
                try simp only [pickOp, Act.put, List.setIfInBounds_toArray, List.set_cons_zero, List.set_cons_succ]
                obtain ⟨ws1, hws⟩ : ∃ ws, ws = (((ws0.setCell ⟨wdx.heap.size, 0, none⟩ (.slice pa np pc)).setCell ⟨wdx.heap.size, 1, none⟩ (.slice la nl lc)).setCell ⟨wdx.heap.size, 2, none⟩ (.slice aa na ac)) := ⟨_, rfl⟩
                rw [← hws] at hH' X3' X4' X5' ⊢
                have hH := hH'
                have X3 := X3'
                have X4 := X4'
                have X5 := X5'
                clear hws hH' X3' X4' X5'
                obtain ⟨p0, p1, p2⟩ : _ ∧ _ ∧ _ := ⟨X5.out.1 0 _ rfl, X5.out.1 1 _ rfl, X5.out.1 2 _ rfl⟩
                obtain ⟨z0, z1, z2⟩ : _ ∧ _ ∧ _ := ⟨X5.out.2 0 _ rfl, X5.out.2 1 _ rfl, X5.out.2 2 _ rfl⟩
                refine T_b1 (fun K hK => ?_)
                simp only [pickOp]
                go_simp
                refine hK.out _ _ (ckeep (tbel_put3 hH.1 L5.out _ _ _)) (fun hH' => ?_)
                clear hK K hH
                have X5' := Lib.hid (X5.out.put3 (.slice pa np pc) (.slice la nl lc) (.slice aa na ac))
                have X3' := Lib.hid (X3.out.far3 (N35.out.symm) (.slice pa np pc) (.slice la nl lc) (.slice aa na ac))
                have X4' := Lib.hid (X4.out.far3 (N45.out.symm) (.slice pa np pc) (.slice la nl lc) (.slice aa na ac))
                clear p0 z0 p1 z1 p2 z2 X3 X4 X5
                try simp only [pickOp, Act.put, List.setIfInBounds_toArray, List.set_cons_zero, List.set_cons_succ]
                obtain ⟨ws2, hws⟩ : ∃ ws, ws = (((ws1.setCell ⟨wdxy.heap.size, 0, none⟩ (.slice pa np pc)).setCell ⟨wdxy.heap.size, 1, none⟩ (.slice la nl lc)).setCell ⟨wdxy.heap.size, 2, none⟩ (.slice aa na ac)) := ⟨_, rfl⟩
                rw [← hws] at hH' X3' X4' X5' ⊢
                have hH := hH'
                have X3 := X3'
                have X4 := X4'
                have X5 := X5'
                clear hws hH' X3' X4' X5'
                refine T_done (NoPanic.normal ?_)
                have HBz := Lib.hid hH.1
                clear hH
                go_wp2_with fail
                go_meet
                exact ⟨_, _, _, rfl, rfl, rfl, HBz.out, X3.out, X4.out, X5.out, ⟨L3.out, L4.out, L5.out⟩, N34.out, N35.out, N45.out⟩
              · skip
                simp only [pickOp]
                go_simp
                refine hK.out _ _ (ckeep (cbelow_al hH.1 _)) (fun hH' => ?_)
                clear hK K
                have L5 := Lib.hid hH.1.size
                clear hH
                have X5 := Lib.hid (Blk.new wdx 26 [.slice none 0 0, .slice none 0 0, .slice none 0 0])
                have N35 := Lib.hid (Nat.ne_of_lt X3.out.lt)
                have X3' := Lib.hid (X3.out.on (cbelow_al (Below.refl _ _) (Obj.cells #[.slice none 0 0, .slice none 0 0, .slice none 0 0] 26)))
                clear X3
                have X3 := X3'
                clear X3'
                try simp only [pickOp, Act.put, List.setIfInBounds_toArray, List.set_cons_zero, List.set_cons_succ]
                obtain ⟨wdxz, hwn⟩ : ∃ x, x = wdx.alloc (Obj.cells #[.slice none 0 0, .slice none 0 0, .slice none 0 0] 26) := ⟨_, rfl⟩
                rw [← hwn] at hH' X5 X3 ⊢
                have hH := hH'
                clear hH' hwn
                refine T_b1 (fun K hK => ?_)
                skip
                simp only [pickOp]
                go_simp
                refine hK.out _ _ (ckeep (cbelow_al hH.1 _)) (fun hH' => ?_)
                clear hK K
                have L4 := Lib.hid hH.1.size
                clear hH
                have X4 := Lib.hid (Blk.new wdxz 26 [.slice none 0 0, .slice none 0 0, .slice none 0 0])
                have N34 := Lib.hid (Nat.ne_of_lt X3.out.lt)
                have X3' := Lib.hid (X3.out.on (cbelow_al (Below.refl _ _) (Obj.cells #[.slice none 0 0, .slice none 0 0, .slice none 0 0] 26)))
                clear X3
                have X3 := X3'
                clear X3'
                have N54 := Lib.hid (Nat.ne_of_lt X5.out.lt)
                have X5' := Lib.hid (X5.out.on (cbelow_al (Below.refl _ _) (Obj.cells #[.slice none 0 0, .slice none 0 0, .slice none 0 0] 26)))
                clear X5
                have X5 := X5'
                clear X5'
                try simp only [pickOp, Act.put, List.setIfInBounds_toArray, List.set_cons_zero, List.set_cons_succ]
                obtain ⟨wdxzy, hwn⟩ : ∃ x, x = wdxz.alloc (Obj.cells #[.slice none 0 0, .slice none 0 0, .slice none 0 0] 26) := ⟨_, rfl⟩
                rw [← hwn] at hH' X4 X3 X5 ⊢
                have hH := hH'
                clear hH' hwn
                obtain ⟨p0, p1, p2⟩ : _ ∧ _ ∧ _ := ⟨X3.out.1 0 _ rfl, X3.out.1 1 _ rfl, X3.out.1 2 _ rfl⟩
                obtain ⟨z0, z1, z2⟩ : _ ∧ _ ∧ _ := ⟨X3.out.2 0 _ rfl, X3.out.2 1 _ rfl, X3.out.2 2 _ rfl⟩
                refine T_b1 (fun K hK => ?_)
                simp only [pickOp]
                go_simp
                refine hK.out _ _ (ckeep (tbel_put3 hH.1 L3.out _ _ _)) (fun hH' => ?_)
                clear hK K hH
                have X3' := Lib.hid (X3.out.put3 (.slice pa np pc) (.slice la nl lc) (.slice aa na ac))
                have X5' := Lib.hid (X5.out.far3 (N35.out) (.slice pa np pc) (.slice la nl lc) (.slice aa na ac))
                have X4' := Lib.hid (X4.out.far3 (N34.out) (.slice pa np pc) (.slice la nl lc) (.slice aa na ac))
                clear p0 z0 p1 z1 p2 z2 X3 X4 X5
                try simp only [pickOp, Act.put, List.setIfInBounds_toArray, List.set_cons_zero, List.set_cons_succ]
                obtain ⟨ws0, hws⟩ : ∃ ws, ws = (((wdxzy.setCell ⟨wd.heap.size, 0, none⟩ (.slice pa np pc)).setCell ⟨wd.heap.size, 1, none⟩ (.slice la nl lc)).setCell ⟨wd.heap.size, 2, none⟩ (.slice aa na ac)) := ⟨_, rfl⟩
                rw [← hws] at hH' X3' X4' X5' ⊢
                have hH := hH'
                have X3 := X3'
                have X4 := X4'
                have X5 := X5'
                clear hws hH' X3' X4' X5'
                obtain ⟨p0, p1, p2⟩ : _ ∧ _ ∧ _ := ⟨X4.out.1 0 _ rfl, X4.out.1 1 _ rfl, X4.out.1 2 _ rfl⟩
                obtain ⟨z0, z1, z2⟩ : _ ∧ _ ∧ _ := ⟨X4.out.2 0 _ rfl, X4.out.2 1 _ rfl, X4.out.2 2 _ rfl⟩
                refine T_b1 (fun K hK => ?_)
                simp only [pickOp]
                go_simp
                refine hK.out _ _ (ckeep (tbel_put3 hH.1 L4.out _ _ _)) (fun hH' => ?_)
                clear hK K hH
                have X4' := Lib.hid (X4.out.put3 (.slice pa np pc) (.slice la nl lc) (.slice aa na ac))
                have X3' := Lib.hid (X3.out.far3 (N34.out.symm) (.slice pa np pc) (.slice la nl lc) (.slice aa na ac))
                have X5' := Lib.hid (X5.out.far3 (N54.out.symm) (.slice pa np pc) (.slice la nl lc) (.slice aa na ac))
                clear p0 z0 p1 z1 p2 z2 X3 X4 X5
                try simp only [pickOp, Act.put, List.setIfInBounds_toArray, List.set_cons_zero, List.set_cons_succ]
                obtain ⟨ws1, hws⟩ : ∃ ws, ws = (((ws0.setCell ⟨wdxz.heap.size, 0, none⟩ (.slice pa np pc)).setCell ⟨wdxz.heap.size, 1, none⟩ (.slice la nl lc)).setCell ⟨wdxz.heap.size, 2, none⟩ (.slice aa na ac)) := ⟨_, rfl⟩
                rw [← hws] at hH' X3' X4' X5' ⊢
                have hH := hH'
                have X3 := X3'
                have X4 := X4'
                have X5 := X5'
                clear hws hH' X3' X4' X5'
                obtain ⟨p0, p1, p2⟩ : _ ∧ _ ∧ _ := ⟨X5.out.1 0 _ rfl, X5.out.1 1 _ rfl, X5.out.1 2 _ rfl⟩
                obtain ⟨z0, z1, z2⟩ : _ ∧ _ ∧ _ := ⟨X5.out.2 0 _ rfl, X5.out.2 1 _ rfl, X5.out.2 2 _ rfl⟩
                refine T_b1 (fun K hK => ?_)
                simp only [pickOp]
                go_simp
                refine hK.out _ _ (ckeep (tbel_put3 hH.1 L5.out _ _ _)) (fun hH' => ?_)
                clear hK K hH
                have X5' := Lib.hid (X5.out.put3 (.slice pa np pc) (.slice la nl lc) (.slice aa na ac))
                have X3' := Lib.hid (X3.out.far3 (N35.out.symm) (.slice pa np pc) (.slice la nl lc) (.slice aa na ac))
                have X4' := Lib.hid (X4.out.far3 (N54.out) (.slice pa np pc) (.slice la nl lc) (.slice aa na ac))
                clear p0 z0 p1 z1 p2 z2 X3 X4 X5
                try simp only [pickOp, Act.put, List.setIfInBounds_toArray, List.set_cons_zero, List.set_cons_succ]
                obtain ⟨ws2, hws⟩ : ∃ ws, ws = (((ws1.setCell ⟨wdx.heap.size, 0, none⟩ (.slice pa np pc)).setCell ⟨wdx.heap.size, 1, none⟩ (.slice la nl lc)).setCell ⟨wdx.heap.size, 2, none⟩ (.slice aa na ac)) := ⟨_, rfl⟩
                rw [← hws] at hH' X3' X4' X5' ⊢
                have hH := hH'
                have X3 := X3'
                have X4 := X4'
                have X5 := X5'
                clear hws hH' X3' X4' X5'
                refine T_done (NoPanic.normal ?_)
                have HBz := Lib.hid hH.1
                clear hH
                go_wp2_with fail
                go_meet
                exact ⟨_, _, _, rfl, rfl, rfl, HBz.out, X3.out, X4.out, X5.out, ⟨L3.out, L4.out, L5.out⟩, N34.out, N35.out, N54.out.symm⟩
            · skip
              simp only [pickOp]
              go_simp
              refine hK.out _ _ (ckeep (cbelow_al hH.1 _)) (fun hH' => ?_)
              clear hK K
              have L4 := Lib.hid hH.1.size
              clear hH
              have X4 := Lib.hid (Blk.new wd 26 [.slice none 0 0, .slice none 0 0, .slice none 0 0])
              try simp only [pickOp, Act.put, List.setIfInBounds_toArray, List.set_cons_zero, List.set_cons_succ]
              obtain ⟨wdy, hwn⟩ : ∃ x, x = wd.alloc (Obj.cells #[.slice none 0 0, .slice none 0 0, .slice none 0 0] 26) := ⟨_, rfl⟩
              rw [← hwn] at hH' X4  ⊢
              have hH := hH'
              clear hH' hwn
              refine T_b2 (fun K hK => ?_) (fun K hK => ?_)
              · skip
                simp only [pickOp]
                go_simp
                refine hK.out _ _ (ckeep (cbelow_al hH.1 _)) (fun hH' => ?_)
                clear hK K
                have L3 := Lib.hid hH.1.size
                clear hH
                have X3 := Lib.hid (Blk.new wdy 26 [.slice none 0 0, .slice none 0 0, .slice none 0 0])
                have N43 := Lib.hid (Nat.ne_of_lt X4.out.lt)
                have X4' := Lib.hid (X4.out.on (cbelow_al (Below.refl _ _) (Obj.cells #[.slice none 0 0, .slice none 0 0, .slice none 0 0] 26)))
                clear X4
                have X4 := X4'
                clear X4'
                try simp only [pickOp, Act.put, List.setIfInBounds_toArray, List.set_cons_zero, List.set_cons_succ]
                obtain ⟨wdyx, hwn⟩ : ∃ x, x = wdy.alloc (Obj.cells #[.slice none 0 0, .slice none 0 0, .slice none 0 0] 26) := ⟨_, rfl⟩
                rw [← hwn] at hH' X3 X4 ⊢
                have hH := hH'
                clear hH' hwn
                refine T_b1 (fun K hK => ?_)
                skip
                simp only [pickOp]
                go_simp
                refine hK.out _ _ (ckeep (cbelow_al hH.1 _)) (fun hH' => ?_)
                clear hK K
                have L5 := Lib.hid hH.1.size
                clear hH
                have X5 := Lib.hid (Blk.new wdyx 26 [.slice none 0 0, .slice none 0 0, .slice none 0 0])
                have N45 := Lib.hid (Nat.ne_of_lt X4.out.lt)
                have X4' := Lib.hid (X4.out.on (cbelow_al (Below.refl _ _) (Obj.cells #[.slice none 0 0, .slice none 0 0, .slice none 0 0] 26)))
                clear X4
                have X4 := X4'
                clear X4'
                have N35 := Lib.hid (Nat.ne_of_lt X3.out.lt)
                have X3' := Lib.hid (X3.out.on (cbelow_al (Below.refl _ _) (Obj.cells #[.slice none 0 0, .slice none 0 0, .slice none 0 0] 26)))
                clear X3
                have X3 := X3'
                clear X3'
                try simp only [pickOp, Act.put, List.setIfInBounds_toArray, List.set_cons_zero, List.set_cons_succ]
                obtain ⟨wdyxz, hwn⟩ : ∃ x, x = wdyx.alloc (Obj.cells #[.slice none 0 0, .slice none 0 0, .slice none 0 0] 26) := ⟨_, rfl⟩
                rw [← hwn] at hH' X5 X4 X3 ⊢
                have hH := hH'
                clear hH' hwn
                obtain ⟨p0, p1, p2⟩ : _ ∧ _ ∧ _ := ⟨X3.out.1 0 _ rfl, X3.out.1 1 _ rfl, X3.out.1 2 _ rfl⟩
                obtain ⟨z0, z1, z2⟩ : _ ∧ _ ∧ _ := ⟨X3.out.2 0 _ rfl, X3.out.2 1 _ rfl, X3.out.2 2 _ rfl⟩
                refine T_b1 (fun K hK => ?_)
                simp only [pickOp]
                go_simp
                refine hK.out _ _ (ckeep (tbel_put3 hH.1 L3.out _ _ _)) (fun hH' => ?_)
                clear hK K hH
                have X3' := Lib.hid (X3.out.put3 (.slice pa np pc) (.slice la nl lc) (.slice aa na ac))
                have X4' := Lib.hid (X4.out.far3 (N43.out.symm) (.slice pa np pc) (.slice la nl lc) (.slice aa na ac))
                have X5' := Lib.hid (X5.out.far3 (N35.out) (.slice pa np pc) (.slice la nl lc) (.slice aa na ac))
                clear p0 z0 p1 z1 p2 z2 X3 X4 X5
                try simp only [pickOp, Act.put, List.setIfInBounds_toArray, List.set_cons_zero, List.set_cons_succ]
                obtain ⟨ws0, hws⟩ : ∃ ws, ws = (((wdyxz.setCell ⟨wdy.heap.size, 0, none⟩ (.slice pa np pc)).setCell ⟨wdy.heap.size, 1, none⟩ (.slice la nl lc)).setCell ⟨wdy.heap.size, 2, none⟩ (.slice aa na ac)) := ⟨_, rfl⟩
                rw [← hws] at hH' X3' X4' X5' ⊢
                have hH := hH'
                have X3 := X3'
                have X4 := X4'
                have X5 := X5'
                clear hws hH' X3' X4' X5'
                obtain ⟨p0, p1, p2⟩ : _ ∧ _ ∧ _ := ⟨X4.out.1 0 _ rfl, X4.out.1 1 _ rfl, X4.out.1 2 _ rfl⟩
                obtain ⟨z0, z1, z2⟩ : _ ∧ _ ∧ _ := ⟨X4.out.2 0 _ rfl, X4.out.2 1 _ rfl, X4.out.2 2 _ rfl⟩
                refine T_b1 (fun K hK => ?_)
                simp only [pickOp]
                go_simp
                refine hK.out _ _ (ckeep (tbel_put3 hH.1 L4.out _ _ _)) (fun hH' => ?_)
                clear hK K hH
                have X4' := Lib.hid (X4.out.put3 (.slice pa np pc) (.slice la nl lc) (.slice aa na ac))
                have X3' := Lib.hid (X3.out.far3 (N43.out) (.slice pa np pc) (.slice la nl lc) (.slice aa na ac))
                have X5' := Lib.hid (X5.out.far3 (N45.out) (.slice pa np pc) (.slice la nl lc) (.slice aa na ac))
                clear p0 z0 p1 z1 p2 z2 X3 X4 X5
                try simp only [pickOp, Act.put, List.setIfInBounds_toArray, List.set_cons_zero, List.set_cons_succ]
                obtain ⟨ws1, hws⟩ : ∃ ws, ws = (((ws0.setCell ⟨wd.heap.size, 0, none⟩ (.slice pa np pc)).setCell ⟨wd.heap.size, 1, none⟩ (.slice la nl lc)).setCell ⟨wd.heap.size, 2, none⟩ (.slice aa na ac)) := ⟨_, rfl⟩
                rw [← hws] at hH' X3' X4' X5' ⊢
                have hH := hH'
                have X3 := X3'
                have X4 := X4'
                have X5 := X5'
                clear hws hH' X3' X4' X5'
                obtain ⟨p0, p1, p2⟩ : _ ∧ _ ∧ _ := ⟨X5.out.1 0 _ rfl, X5.out.1 1 _ rfl, X5.out.1 2 _ rfl⟩
                obtain ⟨z0, z1, z2⟩ : _ ∧ _ ∧ _ := ⟨X5.out.2 0 _ rfl, X5.out.2 1 _ rfl, X5.out.2 2 _ rfl⟩
                refine T_b1 (fun K hK => ?_)
                simp only [pickOp]
                go_simp
                refine hK.out _ _ (ckeep (tbel_put3 hH.1 L5.out _ _ _)) (fun hH' => ?_)
                clear hK K hH
                have X5' := Lib.hid (X5.out.put3 (.slice pa np pc) (.slice la nl lc) (.slice aa na ac))
                have X4' := Lib.hid (X4.out.far3 (N45.out.symm) (.slice pa np pc) (.slice la nl lc) (.slice aa na ac))
                have X3' := Lib.hid (X3.out.far3 (N35.out.symm) (.slice pa np pc) (.slice la nl lc) (.slice aa na ac))
                clear p0 z0 p1 z1 p2 z2 X3 X4 X5
                try simp only [pickOp, Act.put, List.setIfInBounds_toArray, List.set_cons_zero, List.set_cons_succ]
                obtain ⟨ws2, hws⟩ : ∃ ws, ws = (((ws1.setCell ⟨wdyx.heap.size, 0, none⟩ (.slice pa np pc)).setCell ⟨wdyx.heap.size, 1, none⟩ (.slice la nl lc)).setCell ⟨wdyx.heap.size, 2, none⟩ (.slice aa na ac)) := ⟨_, rfl⟩
                rw [← hws] at hH' X3' X4' X5' ⊢
                have hH := hH'
                have X3 := X3'
                have X4 := X4'
                have X5 := X5'
                clear hws hH' X3' X4' X5'
                refine T_done (NoPanic.normal ?_)
                have HBz := Lib.hid hH.1
                clear hH
                go_wp2_with fail
                go_meet
                exact ⟨_, _, _, rfl, rfl, rfl, HBz.out, X3.out, X4.out, X5.out, ⟨L3.out, L4.out, L5.out⟩, N43.out.symm, N35.out, N45.out⟩
              · skip
                simp only [pickOp]
                go_simp
                refine hK.out _ _ (ckeep (cbelow_al hH.1 _)) (fun hH' => ?_)
                clear hK K
                have L5 := Lib.hid hH.1.size
                clear hH
                have X5 := Lib.hid (Blk.new wdy 26 [.slice none 0 0, .slice none 0 0, .slice none 0 0])
                have N45 := Lib.hid (Nat.ne_of_lt X4.out.lt)
                have X4' := Lib.hid (X4.out.on (cbelow_al (Below.refl _ _) (Obj.cells #[.slice none 0 0, .slice none 0 0, .slice none 0 0] 26)))
                clear X4
                have X4 := X4'
                clear X4'
                try simp only [pickOp, Act.put, List.setIfInBounds_toArray, List.set_cons_zero, List.set_cons_succ]
                obtain ⟨wdyz, hwn⟩ : ∃ x, x = wdy.alloc (Obj.cells #[.slice none 0 0, .slice none 0 0, .slice none 0 0] 26) := ⟨_, rfl⟩
                rw [← hwn] at hH' X5 X4 ⊢
                have hH := hH'
                clear hH' hwn
                refine T_b1 (fun K hK => ?_)
                skip
                simp only [pickOp]
                go_simp
                refine hK.out _ _ (ckeep (cbelow_al hH.1 _)) (fun hH' => ?_)
                clear hK K
                have L3 := Lib.hid hH.1.size
                clear hH
                have X3 := Lib.hid (Blk.new wdyz 26 [.slice none 0 0, .slice none 0 0, .slice none 0 0])
                have N43 := Lib.hid (Nat.ne_of_lt X4.out.lt)
                have X4' := Lib.hid (X4.out.on (cbelow_al (Below.refl _ _) (Obj.cells #[.slice none 0 0, .slice none 0 0, .slice none 0 0] 26)))
                clear X4
                have X4 := X4'
                clear X4'
                have N53 := Lib.hid (Nat.ne_of_lt X5.out.lt)
                have X5' := Lib.hid (X5.out.on (cbelow_al (Below.refl _ _) (Obj.cells #[.slice none 0 0, .slice none 0 0, .slice none 0 0] 26)))
                clear X5
                have X5 := X5'
                clear X5'
                try simp only [pickOp, Act.put, List.setIfInBounds_toArray, List.set_cons_zero, List.set_cons_succ]
                obtain ⟨wdyzx, hwn⟩ : ∃ x, x = wdyz.alloc (Obj.cells #[.slice none 0 0, .slice none 0 0, .slice none 0 0] 26) := ⟨_, rfl⟩
                rw [← hwn] at hH' X3 X4 X5 ⊢
                have hH := hH'
                clear hH' hwn
                obtain ⟨p0, p1, p2⟩ : _ ∧ _ ∧ _ := ⟨X3.out.1 0 _ rfl, X3.out.1 1 _ rfl, X3.out.1 2 _ rfl⟩
                obtain ⟨z0, z1, z2⟩ : _ ∧ _ ∧ _ := ⟨X3.out.2 0 _ rfl, X3.out.2 1 _ rfl, X3.out.2 2 _ rfl⟩
                refine T_b1 (fun K hK => ?_)
                simp only [pickOp]
                go_simp
                refine hK.out _ _ (ckeep (tbel_put3 hH.1 L3.out _ _ _)) (fun hH' => ?_)
                clear hK K hH
                have X3' := Lib.hid (X3.out.put3 (.slice pa np pc) (.slice la nl lc) (.slice aa na ac))
                have X4' := Lib.hid (X4.out.far3 (N43.out.symm) (.slice pa np pc) (.slice la nl lc) (.slice aa na ac))
                have X5' := Lib.hid (X5.out.far3 (N53.out.symm) (.slice pa np pc) (.slice la nl lc) (.slice aa na ac))
                clear p0 z0 p1 z1 p2 z2 X3 X4 X5
                try simp only [pickOp, Act.put, List.setIfInBounds_toArray, List.set_cons_zero, List.set_cons_succ]
                obtain ⟨ws0, hws⟩ : ∃ ws, ws = (((wdyzx.setCell ⟨wdyz.heap.size, 0, none⟩ (.slice pa np pc)).setCell ⟨wdyz.heap.size, 1, none⟩ (.slice la nl lc)).setCell ⟨wdyz.heap.size, 2, none⟩ (.slice aa na ac)) := ⟨_, rfl⟩
                rw [← hws] at hH' X3' X4' X5' ⊢
                have hH := hH'
                have X3 := X3'
                have X4 := X4'
                have X5 := X5'
                clear hws hH' X3' X4' X5'
                obtain ⟨p0, p1, p2⟩ : _ ∧ _ ∧ _ := ⟨X4.out.1 0 _ rfl, X4.out.1 1 _ rfl, X4.out.1 2 _ rfl⟩
                obtain ⟨z0, z1, z2⟩ : _ ∧ _ ∧ _ := ⟨X4.out.2 0 _ rfl, X4.out.2 1 _ rfl, X4.out.2 2 _ rfl⟩
                refine T_b1 (fun K hK => ?_)
                simp only [pickOp]
                go_simp
                refine hK.out _ _ (ckeep (tbel_put3 hH.1 L4.out _ _ _)) (fun hH' => ?_)
                clear hK K hH
                have X4' := Lib.hid (X4.out.put3 (.slice pa np pc) (.slice la nl lc) (.slice aa na ac))
                have X5' := Lib.hid (X5.out.far3 (N45.out) (.slice pa np pc) (.slice la nl lc) (.slice aa na ac))
                have X3' := Lib.hid (X3.out.far3 (N43.out) (.slice pa np pc) (.slice la nl lc) (.slice aa na ac))
                clear p0 z0 p1 z1 p2 z2 X3 X4 X5
                try simp only [pickOp, Act.put, List.setIfInBounds_toArray, List.set_cons_zero, List.set_cons_succ]
                obtain ⟨ws1, hws⟩ : ∃ ws, ws = (((ws0.setCell ⟨wd.heap.size, 0, none⟩ (.slice pa np pc)).setCell ⟨wd.heap.size, 1, none⟩ (.slice la nl lc)).setCell ⟨wd.heap.size, 2, none⟩ (.slice aa na ac)) := ⟨_, rfl⟩
                rw [← hws] at hH' X3' X4' X5' ⊢
                have hH := hH'
                have X3 := X3'
                have X4 := X4'
                have X5 := X5'
                clear hws hH' X3' X4' X5'
                obtain ⟨p0, p1, p2⟩ : _ ∧ _ ∧ _ := ⟨X5.out.1 0 _ rfl, X5.out.1 1 _ rfl, X5.out.1 2 _ rfl⟩
                obtain ⟨z0, z1, z2⟩ : _ ∧ _ ∧ _ := ⟨X5.out.2 0 _ rfl, X5.out.2 1 _ rfl, X5.out.2 2 _ rfl⟩
                refine T_b1 (fun K hK => ?_)
                simp only [pickOp]
                go_simp
                refine hK.out _ _ (ckeep (tbel_put3 hH.1 L5.out _ _ _)) (fun hH' => ?_)
                clear hK K hH
                have X5' := Lib.hid (X5.out.put3 (.slice pa np pc) (.slice la nl lc) (.slice aa na ac))
                have X4' := Lib.hid (X4.out.far3 (N45.out.symm) (.slice pa np pc) (.slice la nl lc) (.slice aa na ac))
                have X3' := Lib.hid (X3.out.far3 (N53.out) (.slice pa np pc) (.slice la nl lc) (.slice aa na ac))
                clear p0 z0 p1 z1 p2 z2 X3 X4 X5
                try simp only [pickOp, Act.put, List.setIfInBounds_toArray, List.set_cons_zero, List.set_cons_succ]
                obtain ⟨ws2, hws⟩ : ∃ ws, ws = (((ws1.setCell ⟨wdy.heap.size, 0, none⟩ (.slice pa np pc)).setCell ⟨wdy.heap.size, 1, none⟩ (.slice la nl lc)).setCell ⟨wdy.heap.size, 2, none⟩ (.slice aa na ac)) := ⟨_, rfl⟩
                rw [← hws] at hH' X3' X4' X5' ⊢
                have hH := hH'
                have X3 := X3'
                have X4 := X4'
                have X5 := X5'
                clear hws hH' X3' X4' X5'
                refine T_done (NoPanic.normal ?_)
                have HBz := Lib.hid hH.1
                clear hH
                go_wp2_with fail
                go_meet
                exact ⟨_, _, _, rfl, rfl, rfl, HBz.out, X3.out, X4.out, X5.out, ⟨L3.out, L4.out, L5.out⟩, N43.out.symm, N53.out.symm, N45.out⟩
            · skip
              simp only [pickOp]
              go_simp
              refine hK.out _ _ (ckeep (cbelow_al hH.1 _)) (fun hH' => ?_)
              clear hK K
              have L5 := Lib.hid hH.1.size
              clear hH
              have X5 := Lib.hid (Blk.new wd 26 [.slice none 0 0, .slice none 0 0, .slice none 0 0])
              try simp only [pickOp, Act.put, List.setIfInBounds_toArray, List.set_cons_zero, List.set_cons_succ]
              obtain ⟨wdz, hwn⟩ : ∃ x, x = wd.alloc (Obj.cells #[.slice none 0 0, .slice none 0 0, .slice none 0 0] 26) := ⟨_, rfl⟩
              rw [← hwn] at hH' X5  ⊢
              have hH := hH'
              clear hH' hwn
              refine T_b2 (fun K hK => ?_) (fun K hK => ?_)
              · skip
                simp only [pickOp]
                go_simp
                refine hK.out _ _ (ckeep (cbelow_al hH.1 _)) (fun hH' => ?_)
                clear hK K
                have L3 := Lib.hid hH.1.size
                clear hH
                have X3 := Lib.hid (Blk.new wdz 26 [.slice none 0 0, .slice none 0 0, .slice none 0 0])
                have N53 := Lib.hid (Nat.ne_of_lt X5.out.lt)
                have X5' := Lib.hid (X5.out.on (cbelow_al (Below.refl _ _) (Obj.cells #[.slice none 0 0, .slice none 0 0, .slice none 0 0] 26)))
                clear X5
                have X5 := X5'
                clear X5'
                try simp only [pickOp, Act.put, List.setIfInBounds_toArray, List.set_cons_zero, List.set_cons_succ]
                obtain ⟨wdzx, hwn⟩ : ∃ x, x = wdz.alloc (Obj.cells #[.slice none 0 0, .slice none 0 0, .slice none 0 0] 26) := ⟨_, rfl⟩
                rw [← hwn] at hH' X3 X5 ⊢
                have hH := hH'
                clear hH' hwn
                refine T_b1 (fun K hK => ?_)
                skip
                simp only [pickOp]
                go_simp
                refine hK.out _ _ (ckeep (cbelow_al hH.1 _)) (fun hH' => ?_)
                clear hK K
                have L4 := Lib.hid hH.1.size
                clear hH
                have X4 := Lib.hid (Blk.new wdzx 26 [.slice none 0 0, .slice none 0 0, .slice none 0 0])
                have N54 := Lib.hid (Nat.ne_of_lt X5.out.lt)
                have X5' := Lib.hid (X5.out.on (cbelow_al (Below.refl _ _) (Obj.cells #[.slice none 0 0, .slice none 0 0, .slice none 0 0] 26)))
                clear X5
                have X5 := X5'
                clear X5'
                have N34 := Lib.hid (Nat.ne_of_lt X3.out.lt)
                have X3' := Lib.hid (X3.out.on (cbelow_al (Below.refl _ _) (Obj.cells #[.slice none 0 0, .slice none 0 0, .slice none 0 0] 26)))
                clear X3
                have X3 := X3'
                clear X3'
                try simp only [pickOp, Act.put, List.setIfInBounds_toArray, List.set_cons_zero, List.set_cons_succ]
                obtain ⟨wdzxy, hwn⟩ : ∃ x, x = wdzx.alloc (Obj.cells #[.slice none 0 0, .slice none 0 0, .slice none 0 0] 26) := ⟨_, rfl⟩
                rw [← hwn] at hH' X4 X5 X3 ⊢
                have hH := hH'
                clear hH' hwn
                obtain ⟨p0, p1, p2⟩ : _ ∧ _ ∧ _ := ⟨X3.out.1 0 _ rfl, X3.out.1 1 _ rfl, X3.out.1 2 _ rfl⟩
                obtain ⟨z0, z1, z2⟩ : _ ∧ _ ∧ _ := ⟨X3.out.2 0 _ rfl, X3.out.2 1 _ rfl, X3.out.2 2 _ rfl⟩
                refine T_b1 (fun K hK => ?_)
                simp only [pickOp]
                go_simp
                refine hK.out _ _ (ckeep (tbel_put3 hH.1 L3.out _ _ _)) (fun hH' => ?_)
                clear hK K hH
                have X3' := Lib.hid (X3.out.put3 (.slice pa np pc) (.slice la nl lc) (.slice aa na ac))
                have X5' := Lib.hid (X5.out.far3 (N53.out.symm) (.slice pa np pc) (.slice la nl lc) (.slice aa na ac))
                have X4' := Lib.hid (X4.out.far3 (N34.out) (.slice pa np pc) (.slice la nl lc) (.slice aa na ac))
                clear p0 z0 p1 z1 p2 z2 X3 X4 X5
                try simp only [pickOp, Act.put, List.setIfInBounds_toArray, List.set_cons_zero, List.set_cons_succ]
                obtain ⟨ws0, hws⟩ : ∃ ws, ws = (((wdzxy.setCell ⟨wdz.heap.size, 0, none⟩ (.slice pa np pc)).setCell ⟨wdz.heap.size, 1, none⟩ (.slice la nl lc)).setCell ⟨wdz.heap.size, 2, none⟩ (.slice aa na ac)) := ⟨_, rfl⟩
                rw [← hws] at hH' X3' X4' X5' ⊢
                have hH := hH'
                have X3 := X3'
                have X4 := X4'
                have X5 := X5'
                clear hws hH' X3' X4' X5'
                obtain ⟨p0, p1, p2⟩ : _ ∧ _ ∧ _ := ⟨X4.out.1 0 _ rfl, X4.out.1 1 _ rfl, X4.out.1 2 _ rfl⟩
                obtain ⟨z0, z1, z2⟩ : _ ∧ _ ∧ _ := ⟨X4.out.2 0 _ rfl, X4.out.2 1 _ rfl, X4.out.2 2 _ rfl⟩
                refine T_b1 (fun K hK => ?_)
                simp only [pickOp]
                go_simp
                refine hK.out _ _ (ckeep (tbel_put3 hH.1 L4.out _ _ _)) (fun hH' => ?_)
                clear hK K hH
                have X4' := Lib.hid (X4.out.put3 (.slice pa np pc) (.slice la nl lc) (.slice aa na ac))
                have X5' := Lib.hid (X5.out.far3 (N54.out.symm) (.slice pa np pc) (.slice la nl lc) (.slice aa na ac))
                have X3' := Lib.hid (X3.out.far3 (N34.out.symm) (.slice pa np pc) (.slice la nl lc) (.slice aa na ac))
                clear p0 z0 p1 z1 p2 z2 X3 X4 X5
                try simp only [pickOp, Act.put, List.setIfInBounds_toArray, List.set_cons_zero, List.set_cons_succ]
                obtain ⟨ws1, hws⟩ : ∃ ws, ws = (((ws0.setCell ⟨wdzx.heap.size, 0, none⟩ (.slice pa np pc)).setCell ⟨wdzx.heap.size, 1, none⟩ (.slice la nl lc)).setCell ⟨wdzx.heap.size, 2, none⟩ (.slice aa na ac)) := ⟨_, rfl⟩
                rw [← hws] at hH' X3' X4' X5' ⊢
                have hH := hH'
                have X3 := X3'
                have X4 := X4'
                have X5 := X5'
                clear hws hH' X3' X4' X5'
                obtain ⟨p0, p1, p2⟩ : _ ∧ _ ∧ _ := ⟨X5.out.1 0 _ rfl, X5.out.1 1 _ rfl, X5.out.1 2 _ rfl⟩
                obtain ⟨z0, z1, z2⟩ : _ ∧ _ ∧ _ := ⟨X5.out.2 0 _ rfl, X5.out.2 1 _ rfl, X5.out.2 2 _ rfl⟩
                refine T_b1 (fun K hK => ?_)
                simp only [pickOp]
                go_simp
                refine hK.out _ _ (ckeep (tbel_put3 hH.1 L5.out _ _ _)) (fun hH' => ?_)
                clear hK K hH
                have X5' := Lib.hid (X5.out.put3 (.slice pa np pc) (.slice la nl lc) (.slice aa na ac))
                have X3' := Lib.hid (X3.out.far3 (N53.out) (.slice pa np pc) (.slice la nl lc) (.slice aa na ac))
                have X4' := Lib.hid (X4.out.far3 (N54.out) (.slice pa np pc) (.slice la nl lc) (.slice aa na ac))
                clear p0 z0 p1 z1 p2 z2 X3 X4 X5
                try simp only [pickOp, Act.put, List.setIfInBounds_toArray, List.set_cons_zero, List.set_cons_succ]
                obtain ⟨ws2, hws⟩ : ∃ ws, ws = (((ws1.setCell ⟨wd.heap.size, 0, none⟩ (.slice pa np pc)).setCell ⟨wd.heap.size, 1, none⟩ (.slice la nl lc)).setCell ⟨wd.heap.size, 2, none⟩ (.slice aa na ac)) := ⟨_, rfl⟩
                rw [← hws] at hH' X3' X4' X5' ⊢
                have hH := hH'
                have X3 := X3'
                have X4 := X4'
                have X5 := X5'
                clear hws hH' X3' X4' X5'
                refine T_done (NoPanic.normal ?_)
                have HBz := Lib.hid hH.1
                clear hH
                go_wp2_with fail
                go_meet
                exact ⟨_, _, _, rfl, rfl, rfl, HBz.out, X3.out, X4.out, X5.out, ⟨L3.out, L4.out, L5.out⟩, N34.out, N53.out.symm, N54.out.symm⟩
              · skip
                simp only [pickOp]
                go_simp
                refine hK.out _ _ (ckeep (cbelow_al hH.1 _)) (fun hH' => ?_)
                clear hK K
                have L4 := Lib.hid hH.1.size
                clear hH
                have X4 := Lib.hid (Blk.new wdz 26 [.slice none 0 0, .slice none 0 0, .slice none 0 0])
                have N54 := Lib.hid (Nat.ne_of_lt X5.out.lt)
                have X5' := Lib.hid (X5.out.on (cbelow_al (Below.refl _ _) (Obj.cells #[.slice none 0 0, .slice none 0 0, .slice none 0 0] 26)))
                clear X5
                have X5 := X5'
                clear X5'
                try simp only [pickOp, Act.put, List.setIfInBounds_toArray, List.set_cons_zero, List.set_cons_succ]
                obtain ⟨wdzy, hwn⟩ : ∃ x, x = wdz.alloc (Obj.cells #[.slice none 0 0, .slice none 0 0, .slice none 0 0] 26) := ⟨_, rfl⟩
                rw [← hwn] at hH' X4 X5 ⊢
                have hH := hH'
                clear hH' hwn
                refine T_b1 (fun K hK => ?_)
                skip
                simp only [pickOp]
                go_simp
                refine hK.out _ _ (ckeep (cbelow_al hH.1 _)) (fun hH' => ?_)
                clear hK K
                have L3 := Lib.hid hH.1.size
                clear hH
                have X3 := Lib.hid (Blk.new wdzy 26 [.slice none 0 0, .slice none 0 0, .slice none 0 0])
                have N53 := Lib.hid (Nat.ne_of_lt X5.out.lt)
                have X5' := Lib.hid (X5.out.on (cbelow_al (Below.refl _ _) (Obj.cells #[.slice none 0 0, .slice none 0 0, .slice none 0 0] 26)))
                clear X5
                have X5 := X5'
                clear X5'
                have N43 := Lib.hid (Nat.ne_of_lt X4.out.lt)
                have X4' := Lib.hid (X4.out.on (cbelow_al (Below.refl _ _) (Obj.cells #[.slice none 0 0, .slice none 0 0, .slice none 0 0] 26)))
                clear X4
                have X4 := X4'
                clear X4'
                try simp only [pickOp, Act.put, List.setIfInBounds_toArray, List.set_cons_zero, List.set_cons_succ]
                obtain ⟨wdzyx, hwn⟩ : ∃ x, x = wdzy.alloc (Obj.cells #[.slice none 0 0, .slice none 0 0, .slice none 0 0] 26) := ⟨_, rfl⟩
                rw [← hwn] at hH' X3 X5 X4 ⊢
                have hH := hH'
                clear hH' hwn
                obtain ⟨p0, p1, p2⟩ : _ ∧ _ ∧ _ := ⟨X3.out.1 0 _ rfl, X3.out.1 1 _ rfl, X3.out.1 2 _ rfl⟩
                obtain ⟨z0, z1, z2⟩ : _ ∧ _ ∧ _ := ⟨X3.out.2 0 _ rfl, X3.out.2 1 _ rfl, X3.out.2 2 _ rfl⟩
                refine T_b1 (fun K hK => ?_)
                simp only [pickOp]
                go_simp
                refine hK.out _ _ (ckeep (tbel_put3 hH.1 L3.out _ _ _)) (fun hH' => ?_)
                clear hK K hH
                have X3' := Lib.hid (X3.out.put3 (.slice pa np pc) (.slice la nl lc) (.slice aa na ac))
                have X5' := Lib.hid (X5.out.far3 (N53.out.symm) (.slice pa np pc) (.slice la nl lc) (.slice aa na ac))
                have X4' := Lib.hid (X4.out.far3 (N43.out.symm) (.slice pa np pc) (.slice la nl lc) (.slice aa na ac))
                clear p0 z0 p1 z1 p2 z2 X3 X4 X5
                try simp only [pickOp, Act.put, List.setIfInBounds_toArray, List.set_cons_zero, List.set_cons_succ]
                obtain ⟨ws0, hws⟩ : ∃ ws, ws = (((wdzyx.setCell ⟨wdzy.heap.size, 0, none⟩ (.slice pa np pc)).setCell ⟨wdzy.heap.size, 1, none⟩ (.slice la nl lc)).setCell ⟨wdzy.heap.size, 2, none⟩ (.slice aa na ac)) := ⟨_, rfl⟩
                rw [← hws] at hH' X3' X4' X5' ⊢
                have hH := hH'
                have X3 := X3'
                have X4 := X4'
                have X5 := X5'
                clear hws hH' X3' X4' X5'
                obtain ⟨p0, p1, p2⟩ : _ ∧ _ ∧ _ := ⟨X4.out.1 0 _ rfl, X4.out.1 1 _ rfl, X4.out.1 2 _ rfl⟩
                obtain ⟨z0, z1, z2⟩ : _ ∧ _ ∧ _ := ⟨X4.out.2 0 _ rfl, X4.out.2 1 _ rfl, X4.out.2 2 _ rfl⟩
                refine T_b1 (fun K hK => ?_)
                simp only [pickOp]
                go_simp
                refine hK.out _ _ (ckeep (tbel_put3 hH.1 L4.out _ _ _)) (fun hH' => ?_)
                clear hK K hH
                have X4' := Lib.hid (X4.out.put3 (.slice pa np pc) (.slice la nl lc) (.slice aa na ac))
                have X5' := Lib.hid (X5.out.far3 (N54.out.symm) (.slice pa np pc) (.slice la nl lc) (.slice aa na ac))
                have X3' := Lib.hid (X3.out.far3 (N43.out) (.slice pa np pc) (.slice la nl lc) (.slice aa na ac))
                clear p0 z0 p1 z1 p2 z2 X3 X4 X5
                try simp only [pickOp, Act.put, List.setIfInBounds_toArray, List.set_cons_zero, List.set_cons_succ]
                obtain ⟨ws1, hws⟩ : ∃ ws, ws = (((ws0.setCell ⟨wdz.heap.size, 0, none⟩ (.slice pa np pc)).setCell ⟨wdz.heap.size, 1, none⟩ (.slice la nl lc)).setCell ⟨wdz.heap.size, 2, none⟩ (.slice aa na ac)) := ⟨_, rfl⟩
                rw [← hws] at hH' X3' X4' X5' ⊢
                have hH := hH'
                have X3 := X3'
                have X4 := X4'
                have X5 := X5'
                clear hws hH' X3' X4' X5'
                obtain ⟨p0, p1, p2⟩ : _ ∧ _ ∧ _ := ⟨X5.out.1 0 _ rfl, X5.out.1 1 _ rfl, X5.out.1 2 _ rfl⟩
                obtain ⟨z0, z1, z2⟩ : _ ∧ _ ∧ _ := ⟨X5.out.2 0 _ rfl, X5.out.2 1 _ rfl, X5.out.2 2 _ rfl⟩
                refine T_b1 (fun K hK => ?_)
                simp only [pickOp]
                go_simp
                refine hK.out _ _ (ckeep (tbel_put3 hH.1 L5.out _ _ _)) (fun hH' => ?_)
                clear hK K hH
                have X5' := Lib.hid (X5.out.put3 (.slice pa np pc) (.slice la nl lc) (.slice aa na ac))
                have X4' := Lib.hid (X4.out.far3 (N54.out) (.slice pa np pc) (.slice la nl lc) (.slice aa na ac))
                have X3' := Lib.hid (X3.out.far3 (N53.out) (.slice pa np pc) (.slice la nl lc) (.slice aa na ac))
                clear p0 z0 p1 z1 p2 z2 X3 X4 X5
                try simp only [pickOp, Act.put, List.setIfInBounds_toArray, List.set_cons_zero, List.set_cons_succ]
                obtain ⟨ws2, hws⟩ : ∃ ws, ws = (((ws1.setCell ⟨wd.heap.size, 0, none⟩ (.slice pa np pc)).setCell ⟨wd.heap.size, 1, none⟩ (.slice la nl lc)).setCell ⟨wd.heap.size, 2, none⟩ (.slice aa na ac)) := ⟨_, rfl⟩
                rw [← hws] at hH' X3' X4' X5' ⊢
                have hH := hH'
                have X3 := X3'
                have X4 := X4'
                have X5 := X5'
                clear hws hH' X3' X4' X5'
                refine T_done (NoPanic.normal ?_)
                have HBz := Lib.hid hH.1
                clear hH
                go_wp2_with fail
                go_meet
                exact ⟨_, _, _, rfl, rfl, rfl, HBz.out, X3.out, X4.out, X5.out, ⟨L3.out, L4.out, L5.out⟩, N43.out.symm, N53.out.symm, N54.out.symm⟩
          case rest =>
            obtain ⟨bx, bY, bz, rfl, rfl, rfl, hb, hX, hY, hZ, ⟨lx, ly, lz⟩, nxy, nxz, nyz⟩ := hcut
            obtain ⟨W6, rfl⟩ : ∃ W6 : World, W6 = wc := ⟨_, rfl⟩
            have LO := Lib.hid (show o < W5.heap.size from O5.out.lt)
            have O6 := Lib.hid (O5.out.on hb)
            have T6 := Lib.hid (T5.out.on hb)
            have K6 := Lib.hid (K5.out.on hb)
            have B6 := Lib.hid (cbelow_on B5.out hb)
            have X6 := Lib.hid hX
            have Y6 := Lib.hid hY
            have Z6 := Lib.hid hZ
            have NN := Lib.hid (And.intro (And.intro lx (And.intro ly lz)) (And.intro nxy (And.intro nxz nyz)))
            have LT6 := Lib.hid (And.intro X6.out.lt (And.intro Y6.out.lt Z6.out.lt))
            clear hb hX hY hZ lx ly lz nxy nxz nyz O5 T5 K5 B5 t_0 t_1 t_2
            obtain ⟨n6, hn6⟩ : ∃ n, W6.heap.size = n := ⟨_, rfl⟩
            have S6 := Lib.hid (show n6 ≤ W6.heap.size by omega)
            rw [hn6] at LT6
            clear hn6
            obtain ⟨t_0, t_1, t_2⟩ : _ ∧ _ ∧ _ := ⟨T6.out.1 0 _ rfl, T6.out.1 1 _ rfl, T6.out.1 2 _ rfl⟩
            obtain ⟨o_0, o_1, o_2, o_3, o_4, o_5, o_6, o_7, o_8⟩ : _ ∧ _ ∧ _ ∧ _ ∧ _ ∧ _ ∧ _ ∧ _ ∧ _ := ⟨O6.out.1 0 _ rfl, O6.out.1 1 _ rfl, O6.out.1 2 _ rfl, O6.out.1 3 _ rfl, O6.out.1 4 _ rfl, O6.out.1 5 _ rfl, O6.out.1 6 _ rfl, O6.out.1 7 _ rfl, O6.out.1 8 _ rfl⟩
            obtain ⟨a1, c1, w7, hr, hO, hR, hg, hb, -⟩ := app_rows_n (w := W6.alloc (.cells #[.int .i64 d, .int .i64 p, .bool io, .bool z, .int .u32 0, .int .i64 0, .int .u32 0, .int .i64 0, .int .i64 (-1), .int .u16 0, .int .u16 65535, .int .u16 0, .int .u16 65535] 43)) (base := W6.heap.size) hna.out (World.ownsRow_lit W6 #[.int .i64 d, .int .i64 p, .bool io, .bool z, .int .u32 0, .int .i64 0, .int .u32 0, .int .i64 0, .int .i64 (-1), .int .u16 0, .int .u16 65535, .int .u16 0, .int .u16 65535] 1 (Nat.le_refl _) (by unfold maxLen; omega) rfl) aa ac (HE.out _ (HP.out _ _ hw'.out (cbelow_al B6.out _))) h0.out (by omega) (by rw [World.size_alloc]; omega)
            replace hb := (cbelow_al (Below.refl _ W6) _).trans hb
            have H7 := Lib.hid hb
            have HR7 := Lib.hid hR
            have HG := Lib.hid hg
            clear hO hR hg hb
            have tt_2 := (T6.out.on (cbelow_al (Below.refl _ W6) (.cells #[.int .i64 d, .int .i64 p, .bool io, .bool z, .int .u32 0, .int .i64 0, .int .u32 0, .int .i64 0, .int .i64 (-1), .int .u16 0, .int .u16 65535, .int .u16 0, .int .u16 65535] 43))).1 2 _ rfl
            go_wp2_with (at_builtin; refine wpList_app_run rfl _ _ 24 rfl rfl rfl hr ?_)
            intro w1 hw1
            obtain rfl := hw1.out
            clear hr hw1 tt_2 t_0 t_1 t_2 o_0 o_1 o_2 o_3 o_4 o_5 o_6 o_7 o_8
            have x_2 := (X6.out.on H7.out).1 2 _ rfl
            have xz_2 := (X6.out.on H7.out).2 2 _ rfl
            go_upto_region 7 with fail
            refine at_code (S := fun W => W = w7.setCell ⟨bx, 2, none⟩ (.slice a1 (1 + na) c1)) rfl (fun W7 hW => ?_)
            clear x_2 xz_2
            have l1 := lo.out
            have l2 := LO.out
            obtain ⟨⟨l3, l4, l5⟩, l6, l7, l8⟩ := NN.out
            obtain ⟨l9, l10, l11⟩ := LT6.out
            have hn := S6.out
            have hs := H7.out.size
            have T7 := Lib.hid ((T6.out.on H7.out).far ⟨bx, 2, none⟩ (.slice a1 (1 + na) c1) (by simp; omega))
            rw [← hW] at T7
            have K7 := Lib.hid ((K6.out.on H7.out).far ⟨bx, 2, none⟩ (.slice a1 (1 + na) c1) (by simp; omega))
            rw [← hW] at K7
            have O7 := Lib.hid ((O6.out.on H7.out).far ⟨bx, 2, none⟩ (.slice a1 (1 + na) c1) (by simp; omega))
            rw [← hW] at O7
            have X7 := Lib.hid (show Blk W7 bx [.slice pa np pc, .slice la nl lc, .slice a1 (1 + na) c1] by rw [hW]; exact (X6.out.on H7.out).set 2 _ (by simp))
            have Y7 := Lib.hid ((Y6.out.on H7.out).far ⟨bx, 2, none⟩ (.slice a1 (1 + na) c1) (by simp; omega))
            rw [← hW] at Y7
            have Z7 := Lib.hid ((Z6.out.on H7.out).far ⟨bx, 2, none⟩ (.slice a1 (1 + na) c1) (by simp; omega))
            rw [← hW] at Z7
            have R1 := Lib.hid (show Rw w7 a1 ((opn d p io z).cells ++ es.flatMap Ac.cells) from HR7.out)
            have G1 := Lib.hid (show ∀ q, a1 = some q → n6 ≤ q.block from fun q e => Nat.le_trans hn (HG.out q e))
            have R1' := Lib.hid (R1.out.far ⟨bx, 2, none⟩ (.slice a1 (1 + na) c1) (fun q e => by have := G1.out q e; simp; omega))
            rw [← hW] at R1'
            clear R1
            have R1 := R1'
            clear R1'
            have B7 := Lib.hid (show Below w.heap.size w W7 by rw [hW]; exact (cbelow_on B6.out H7.out).setCell (by simp; omega) _)
            have S7 := Lib.hid (show n6 ≤ W7.heap.size by rw [hW, World.size_setCell]; omega)
            clear l1 l2 l3 l4 l5 l6 l7 l8 l9 l10 l11 hn hs hW H7 HR7 HG T6 K6 O6 X6 Y6 Z6 B6 S6
            obtain ⟨t_0, t_1, t_2⟩ : _ ∧ _ ∧ _ := ⟨T7.out.1 0 _ rfl, T7.out.1 1 _ rfl, T7.out.1 2 _ rfl⟩
            obtain ⟨o_0, o_1, o_2, o_3, o_4, o_5, o_6, o_7, o_8⟩ : _ ∧ _ ∧ _ ∧ _ ∧ _ ∧ _ ∧ _ ∧ _ ∧ _ := ⟨O7.out.1 0 _ rfl, O7.out.1 1 _ rfl, O7.out.1 2 _ rfl, O7.out.1 3 _ rfl, O7.out.1 4 _ rfl, O7.out.1 5 _ rfl, O7.out.1 6 _ rfl, O7.out.1 7 _ rfl, O7.out.1 8 _ rfl⟩
            obtain ⟨a2, c2, w8, hr, hO, hR, hg, hb, -⟩ := app_rows_n (w := W7.alloc (.cells #[.int .i64 d, .int .i64 p, .bool (!io), .bool z, .int .u32 0, .int .i64 0, .int .u32 0, .int .i64 0, .int .i64 (-1), .int .u16 0, .int .u16 65535, .int .u16 0, .int .u16 65535] 43)) (base := W7.heap.size) hna.out (World.ownsRow_lit W7 #[.int .i64 d, .int .i64 p, .bool (!io), .bool z, .int .u32 0, .int .i64 0, .int .u32 0, .int .i64 0, .int .i64 (-1), .int .u16 0, .int .u16 65535, .int .u16 0, .int .u16 65535] 1 (Nat.le_refl _) (by unfold maxLen; omega) rfl) aa ac (HE.out _ (HP.out _ _ hw'.out (cbelow_al B7.out _))) h0.out (by omega) (by rw [World.size_alloc]; omega)
            replace hb := (cbelow_al (Below.refl _ W7) _).trans hb
            have H8 := Lib.hid hb
            have HR8 := Lib.hid hR
            have HG := Lib.hid hg
            clear hO hR hg hb
            have tt_2 := (T7.out.on (cbelow_al (Below.refl _ W7) (.cells #[.int .i64 d, .int .i64 p, .bool (!io), .bool z, .int .u32 0, .int .i64 0, .int .u32 0, .int .i64 0, .int .i64 (-1), .int .u16 0, .int .u16 65535, .int .u16 0, .int .u16 65535] 43))).1 2 _ rfl
            go_wp2_with (at_builtin; refine wpList_app_run rfl _ _ 24 rfl rfl rfl hr ?_)
            intro w1 hw1
            obtain rfl := hw1.out
            clear hr hw1 tt_2 t_0 t_1 t_2 o_0 o_1 o_2 o_3 o_4 o_5 o_6 o_7 o_8
            have x_2 := (Y7.out.on H8.out).1 2 _ rfl
            have xz_2 := (Y7.out.on H8.out).2 2 _ rfl
            go_upto_region 8 with fail
            refine at_code (S := fun W => W = w8.setCell ⟨bY, 2, none⟩ (.slice a2 (1 + na) c2)) rfl (fun W8 hW => ?_)
            clear x_2 xz_2
            have l1 := lo.out
            have l2 := LO.out
            obtain ⟨⟨l3, l4, l5⟩, l6, l7, l8⟩ := NN.out
            obtain ⟨l9, l10, l11⟩ := LT6.out
            have hn := S7.out
            have hs := H8.out.size
            have T8 := Lib.hid ((T7.out.on H8.out).far ⟨bY, 2, none⟩ (.slice a2 (1 + na) c2) (by simp; omega))
            rw [← hW] at T8
            have K8 := Lib.hid ((K7.out.on H8.out).far ⟨bY, 2, none⟩ (.slice a2 (1 + na) c2) (by simp; omega))
            rw [← hW] at K8
            have O8 := Lib.hid ((O7.out.on H8.out).far ⟨bY, 2, none⟩ (.slice a2 (1 + na) c2) (by simp; omega))
            rw [← hW] at O8
            have X8 := Lib.hid ((X7.out.on H8.out).far ⟨bY, 2, none⟩ (.slice a2 (1 + na) c2) (by simp; omega))
            rw [← hW] at X8
            have Y8 := Lib.hid (show Blk W8 bY [.slice pa np pc, .slice la nl lc, .slice a2 (1 + na) c2] by rw [hW]; exact (Y7.out.on H8.out).set 2 _ (by simp))
            have Z8 := Lib.hid ((Z7.out.on H8.out).far ⟨bY, 2, none⟩ (.slice a2 (1 + na) c2) (by simp; omega))
            rw [← hW] at Z8
            have R1 := Lib.hid ((R1.out.on H8.out).far ⟨bY, 2, none⟩ (.slice a2 (1 + na) c2) (fun q e => by have := G1.out q e; simp; omega))
            rw [← hW] at R1
            have R2 := Lib.hid (show Rw w8 a2 ((opn d p (!io) z).cells ++ es.flatMap Ac.cells) from HR8.out)
            have G2 := Lib.hid (show ∀ q, a2 = some q → n6 ≤ q.block from fun q e => Nat.le_trans hn (HG.out q e))
            have R2' := Lib.hid (R2.out.far ⟨bY, 2, none⟩ (.slice a2 (1 + na) c2) (fun q e => by have := G2.out q e; simp; omega))
            rw [← hW] at R2'
            clear R2
            have R2 := R2'
            clear R2'
            have B8 := Lib.hid (show Below w.heap.size w W8 by rw [hW]; exact (cbelow_on B7.out H8.out).setCell (by simp; omega) _)
            have S8 := Lib.hid (show n6 ≤ W8.heap.size by rw [hW, World.size_setCell]; omega)
            clear l1 l2 l3 l4 l5 l6 l7 l8 l9 l10 l11 hn hs hW H8 HR8 HG T7 K7 O7 X7 Y7 Z7 B7 S7
            obtain ⟨t_0, t_1, t_2⟩ : _ ∧ _ ∧ _ := ⟨T8.out.1 0 _ rfl, T8.out.1 1 _ rfl, T8.out.1 2 _ rfl⟩
            obtain ⟨o_0, o_1, o_2, o_3, o_4, o_5, o_6, o_7, o_8⟩ : _ ∧ _ ∧ _ ∧ _ ∧ _ ∧ _ ∧ _ ∧ _ ∧ _ := ⟨O8.out.1 0 _ rfl, O8.out.1 1 _ rfl, O8.out.1 2 _ rfl, O8.out.1 3 _ rfl, O8.out.1 4 _ rfl, O8.out.1 5 _ rfl, O8.out.1 6 _ rfl, O8.out.1 7 _ rfl, O8.out.1 8 _ rfl⟩
            go_cut [85] (fun u wx => ∃ (a : Option Addr) (c : Nat) (wy : World), u = .slice a (na + 1) c ∧ Below W8.heap.size W8 wy ∧ wx = wy.setCell ⟨bz, 2, none⟩ (.slice a (na + 1) c) ∧ Rw wy a (([] ++ es.flatMap Ac.cells) ++ [opn d p io true].flatMap Ac.cells) ∧ ∀ q, a = some q → W8.heap.size ≤ q.block)
            case first =>
             as_aux_lemma =>
              refine wp_region_noPanic ?_
              refine wp_region_alongT (S := fun w' => w'.cell? ⟨w.heap.size, 2, none⟩ = some (.slice aa na ac) ∧ w'.cell? ⟨o, 0, none⟩ = some (.int .u32 0) ∧ w'.cell? ⟨o, 1, none⟩ = some (.int .i64 0) ∧ w'.cell? ⟨o, 2, none⟩ = some (.int .u32 0) ∧ w'.cell? ⟨o, 3, none⟩ = some (.int .i64 0) ∧ w'.cell? ⟨o, 4, none⟩ = some (.int .i64 (-1)) ∧ w'.cell? ⟨o, 5, none⟩ = some (.int .u16 0) ∧ w'.cell? ⟨o, 6, none⟩ = some (.int .u16 65535) ∧ w'.cell? ⟨o, 7, none⟩ = some (.int .u16 0) ∧ w'.cell? ⟨o, 8, none⟩ = some (.int .u16 65535)) (.pure 1 (.pure 2 (.pure 4 (.pure 5 (.pure 6 (.pure 7 (.pure 8 (.b2 0 (.b2 3 (.b1 9 (.b1 10 (.pure 11 (.b1 12 .done)))) 9 (.b1 3 (.b1 10 (.pure 11 (.b1 12 .done))))) 9 (.b1 0 (.b1 3 (.b1 10 (.pure 11 (.b1 12 .done))))))))))))) (by kernel_rfl) (by as_aux_lemma => kernel_rfl) (by decide) (by as_aux_lemma => kernel_rfl) (fun _ _ _ _ _ h => h) (⟨(T8.out.on (Below.refl _ _).drew).1 2 _ rfl, (O8.out.on (Below.refl _ _).drew).1 0 _ rfl, (O8.out.on (Below.refl _ _).drew).1 1 _ rfl, (O8.out.on (Below.refl _ _).drew).1 2 _ rfl, (O8.out.on (Below.refl _ _).drew).1 3 _ rfl, (O8.out.on (Below.refl _ _).drew).1 4 _ rfl, (O8.out.on (Below.refl _ _).drew).1 5 _ rfl, (O8.out.on (Below.refl _ _).drew).1 6 _ rfl, (O8.out.on (Below.refl _ _).drew).1 7 _ rfl, (O8.out.on (Below.refl _ _).drew).1 8 _ rfl⟩) (fun hH => ?_)
              clear t_0 t_1 t_2 o_0 o_1 o_2 o_3 o_4 o_5 o_6 o_7 o_8
              iterate 6 (refine T_pure ?_ (by rfl) (fun w hSw => ?_) ?_; rotate_left; ((try dsimp only at hSw); simp only [pickOp]; go_simp; try with_reducible rfl); try simp only [pickOp, Act.put, List.setIfInBounds_toArray, List.set_cons_zero, List.set_cons_succ])
              refine T_pure (.agg #[.int .i64 d, .int .i64 p, .bool io, .bool true, .int .u32 0, .int .i64 0, .int .u32 0, .int .i64 0, .int .i64 (-1), .int .u16 0, .int .u16 65535, .int .u16 0, .int .u16 65535]) (by rfl) (fun w hSw => run_op_build 43 #[(0, .tmp 79), (1, .tmp 80), (2, .tmp 81), (3, .const (.bool true)), (4, .tmp 82)] #[(0, .int .i64 d), (1, .int .i64 p), (2, .bool io), (3, .bool true), (4, .agg #[.int .u32 0, .int .i64 0, .int .u32 0, .int .i64 0, .int .i64 (-1), .int .u16 0, .int .u16 65535, .int .u16 0, .int .u16 65535])] rfl (by simp only [List.map_toArray, List.map_cons, List.map_nil]; rfl) (ace_build d p io true w)) ?_
              try simp only [pickOp, Act.put, List.setIfInBounds_toArray, List.set_cons_zero, List.set_cons_succ]
              have HB := Lib.hid (show Below W8.heap.size W8 W8.drew from (Below.refl _ _).drew)
              obtain ⟨wd, hwd⟩ : ∃ x, x = W8.drew := ⟨_, rfl⟩
              rw [← hwd] at HB ⊢
              clear hwd hH
              refine T_b2 (fun K hK => ?_) (fun K hK => ?_)
              · skip
                simp only [pickOp]
                go_simp
                have HB' := Lib.hid (cbelow_al HB.out (Obj.cells #[] 43))
                refine hK.out _ _ (⟨(T8.out.on HB'.out).1 2 _ rfl, (O8.out.on HB'.out).1 0 _ rfl, (O8.out.on HB'.out).1 1 _ rfl, (O8.out.on HB'.out).1 2 _ rfl, (O8.out.on HB'.out).1 3 _ rfl, (O8.out.on HB'.out).1 4 _ rfl, (O8.out.on HB'.out).1 5 _ rfl, (O8.out.on HB'.out).1 6 _ rfl, (O8.out.on HB'.out).1 7 _ rfl, (O8.out.on HB'.out).1 8 _ rfl⟩) (fun hH => ?_)
                clear hK K hH
                have W_ := Lib.hid (World.ownsRow_lit (base := W8.heap.size) (e := 43) (size := 13) wd #[] 0 HB.out.size (by unfold maxLen; omega) rfl)
                try simp only [pickOp, Act.put, List.setIfInBounds_toArray, List.set_cons_zero, List.set_cons_succ]
                obtain ⟨wda, hwn⟩ : ∃ x, x = wd.alloc (Obj.cells #[] 43) := ⟨_, rfl⟩
                have LZ := Lib.hid (show wd.heap.size < wda.heap.size by rw [hwn, World.size_alloc]; omega)
                rw [← hwn] at HB' W_ ⊢
                obtain ⟨hz, hhz⟩ : ∃ n, wd.heap.size = n := ⟨_, rfl⟩
                rw [hhz] at W_ LZ  ⊢
                clear hwn hhz HB
                have HB := HB'
                clear HB'
                refine T_b2 (fun K hK => ?_) (fun K hK => ?_)
                · skip
                  simp only [pickOp]
                  obtain ⟨a3, c3, wdab, hr, hO, -, -, hb, hgr⟩ := app_rows_n hna.out W_.out aa ac (HE.out _ (HP.out _ _ hw'.out (cbelow_on B8.out HB.out))) h0.out (by omega) HB.out.size
                  rw [Nat.zero_add] at hr hO
                  have HB' := Lib.hid (HB.out.trans hb)
                  refine wanted_then (by rfl) (wp_append_run _ _ 24 rfl rfl rfl hr ?_)
                  refine hK.out _ _ (⟨(T8.out.on HB'.out).1 2 _ rfl, (O8.out.on HB'.out).1 0 _ rfl, (O8.out.on HB'.out).1 1 _ rfl, (O8.out.on HB'.out).1 2 _ rfl, (O8.out.on HB'.out).1 3 _ rfl, (O8.out.on HB'.out).1 4 _ rfl, (O8.out.on HB'.out).1 5 _ rfl, (O8.out.on HB'.out).1 6 _ rfl, (O8.out.on HB'.out).1 7 _ rfl, (O8.out.on HB'.out).1 8 _ rfl⟩) (fun hH => ?_)
                  clear hK K hH hr
                  clear W_
                  have W_ := Lib.hid hO
                  clear hO
                  try simp only [pickOp, Act.put, List.setIfInBounds_toArray, List.set_cons_zero, List.set_cons_succ]
                  clear hb hgr HB
                  have HB := HB'
                  clear HB'
                  refine T_b1 (fun K hK => ?_)
                  skip
                  simp only [pickOp]
                  refine wanted_then (by rfl) (wp_slice_run 24 1 #[(0, .tmp 83)] #[(0, .agg #[.int .i64 d, .int .i64 p, .bool io, .bool true, .int .u32 0, .int .i64 0, .int .u32 0, .int .i64 0, .int .i64 (-1), .int .u16 0, .int .u16 65535, .int .u16 0, .int .u16 65535])] rfl (by simp only [List.map_toArray, List.map_cons, List.map_nil]; rfl) (ace_slice d p io true wdab) ?_)
                  have HB' := Lib.hid (cbelow_al HB.out (Obj.cells #[.int .i64 d, .int .i64 p, .bool io, .bool true, .int .u32 0, .int .i64 0, .int .u32 0, .int .i64 0, .int .i64 (-1), .int .u16 0, .int .u16 65535, .int .u16 0, .int .u16 65535] 43))
                  refine hK.out _ _ (⟨(T8.out.on HB'.out).1 2 _ rfl, (O8.out.on HB'.out).1 0 _ rfl, (O8.out.on HB'.out).1 1 _ rfl, (O8.out.on HB'.out).1 2 _ rfl, (O8.out.on HB'.out).1 3 _ rfl, (O8.out.on HB'.out).1 4 _ rfl, (O8.out.on HB'.out).1 5 _ rfl, (O8.out.on HB'.out).1 6 _ rfl, (O8.out.on HB'.out).1 7 _ rfl, (O8.out.on HB'.out).1 8 _ rfl⟩) (fun hH => ?_)
                  clear hK K hH
                  have E_ := Lib.hid (Blk.new wdab 43 #[.int .i64 d, .int .i64 p, .bool io, .bool true, .int .u32 0, .int .i64 0, .int .u32 0, .int .i64 0, .int .i64 (-1), .int .u16 0, .int .u16 65535, .int .u16 0, .int .u16 65535].toList)
                  have h9le := Lib.hid HB.out.size
                  try simp only [pickOp, Act.put, List.setIfInBounds_toArray, List.set_cons_zero, List.set_cons_succ]
                  obtain ⟨wdabe, hwn⟩ : ∃ x, x = wdab.alloc (Obj.cells #[.int .i64 d, .int .i64 p, .bool io, .bool true, .int .u32 0, .int .i64 0, .int .u32 0, .int .i64 0, .int .i64 (-1), .int .u16 0, .int .u16 65535, .int .u16 0, .int .u16 65535] 43) := ⟨_, rfl⟩
                  have W_' := Lib.hid (trow_on W_.out (cbelow_al (Below.refl _ wdab) (Obj.cells #[.int .i64 d, .int .i64 p, .bool io, .bool true, .int .u32 0, .int .i64 0, .int .u32 0, .int .i64 0, .int .i64 (-1), .int .u16 0, .int .u16 65535, .int .u16 0, .int .u16 65535] 43)))
                  clear W_
                  have W_ := W_'
                  clear W_'
                  rw [← hwn] at HB' E_ W_ ⊢
                  obtain ⟨h9, hh9⟩ : ∃ n, wdab.heap.size = n := ⟨_, rfl⟩
                  rw [hh9] at E_ h9le ⊢
                  clear hwn HB
                  have HB := HB'
                  clear HB'
                  clear hh9
                  as_aux_lemma =>
                    refine T_b1 (fun K hK => ?_)
                    simp only [pickOp]
                    obtain ⟨a4, c4, w4, hr, -, hR, hg, hb, -⟩ := app_rows_n (es := [opn d p io true]) (na := 1) rfl W_.out (some ⟨h9, 0, none⟩) 1 (fun j v hv => ⟨h9, 0, rfl, by rw [Nat.zero_add]; exact E_.out.1 j v hv⟩) (fun e => by cases e) (by omega) HB.out.size
                    have HB' := Lib.hid (HB.out.trans hb)
                    have HR := Lib.hid hR
                    have HG := Lib.hid hg
                    refine wanted_then (by rfl) (wp_append_run _ _ 24 rfl rfl rfl hr ?_)
                    refine hK.out _ _ (⟨(T8.out.on HB'.out).1 2 _ rfl, (O8.out.on HB'.out).1 0 _ rfl, (O8.out.on HB'.out).1 1 _ rfl, (O8.out.on HB'.out).1 2 _ rfl, (O8.out.on HB'.out).1 3 _ rfl, (O8.out.on HB'.out).1 4 _ rfl, (O8.out.on HB'.out).1 5 _ rfl, (O8.out.on HB'.out).1 6 _ rfl, (O8.out.on HB'.out).1 7 _ rfl, (O8.out.on HB'.out).1 8 _ rfl⟩) (fun hH => ?_)
                    clear hK K hH hr W_ E_ HB hR hg hb
                    have HB := HB'
                    clear HB'
                    try simp only [pickOp, Act.put, List.setIfInBounds_toArray, List.set_cons_zero, List.set_cons_succ]
                    refine T_pure ?_ (by rfl) (fun w hSw => ?_) ?_
                    rotate_left
                    · simp only [pickOp]; go_simp; try with_reducible rfl
                    try simp only [pickOp, Act.put, List.setIfInBounds_toArray, List.set_cons_zero, List.set_cons_succ]
                    have z_2 := (Z8.out.on HB.out).1 2 _ rfl
                    have zz_2 := (Z8.out.on HB.out).2 2 _ rfl
                    refine T_b1 (fun K hK => ?_)
                    simp only [pickOp]
                    go_simp
                    have l1 := lo.out
                    have l2 := LO.out
                    obtain ⟨⟨l3, l4, l5⟩, l6, l7, l8⟩ := NN.out
                    obtain ⟨l9, l10, l11⟩ := LT6.out
                    refine hK.out _ _ ?_ (fun hH => ?_)
                    · have t8 := (T8.out.on HB.out).far ⟨bz, 2, none⟩ (.slice a4 (na + 1) c4) (by simp; omega)
                      have o8 := (O8.out.on HB.out).far ⟨bz, 2, none⟩ (.slice a4 (na + 1) c4) (by simp; omega)
                      exact ⟨t8.1 2 _ rfl, o8.1 0 _ rfl, o8.1 1 _ rfl, o8.1 2 _ rfl, o8.1 3 _ rfl, o8.1 4 _ rfl, o8.1 5 _ rfl, o8.1 6 _ rfl, o8.1 7 _ rfl, o8.1 8 _ rfl⟩
                    clear hK K hH z_2 zz_2 l1 l2 l3 l4 l5 l6 l7 l8 l9 l10 l11
                    try simp only [pickOp, Act.put, List.setIfInBounds_toArray, List.set_cons_zero, List.set_cons_succ]
                    refine T_done (NoPanic.normal ?_)
                    go_wp2_with fail
                    go_meet
                    exact ⟨a4, c4, w4, rfl, HB.out, rfl, HR.out, HG.out⟩
                · skip
                  simp only [pickOp]
                  refine wanted_then (by rfl) (wp_slice_run 24 1 #[(0, .tmp 83)] #[(0, .agg #[.int .i64 d, .int .i64 p, .bool io, .bool true, .int .u32 0, .int .i64 0, .int .u32 0, .int .i64 0, .int .i64 (-1), .int .u16 0, .int .u16 65535, .int .u16 0, .int .u16 65535])] rfl (by simp only [List.map_toArray, List.map_cons, List.map_nil]; rfl) (ace_slice d p io true wda) ?_)
                  have HB' := Lib.hid (cbelow_al HB.out (Obj.cells #[.int .i64 d, .int .i64 p, .bool io, .bool true, .int .u32 0, .int .i64 0, .int .u32 0, .int .i64 0, .int .i64 (-1), .int .u16 0, .int .u16 65535, .int .u16 0, .int .u16 65535] 43))
                  refine hK.out _ _ (⟨(T8.out.on HB'.out).1 2 _ rfl, (O8.out.on HB'.out).1 0 _ rfl, (O8.out.on HB'.out).1 1 _ rfl, (O8.out.on HB'.out).1 2 _ rfl, (O8.out.on HB'.out).1 3 _ rfl, (O8.out.on HB'.out).1 4 _ rfl, (O8.out.on HB'.out).1 5 _ rfl, (O8.out.on HB'.out).1 6 _ rfl, (O8.out.on HB'.out).1 7 _ rfl, (O8.out.on HB'.out).1 8 _ rfl⟩) (fun hH => ?_)
                  clear hK K hH
                  have E_ := Lib.hid (Blk.new wda 43 #[.int .i64 d, .int .i64 p, .bool io, .bool true, .int .u32 0, .int .i64 0, .int .u32 0, .int .i64 0, .int .i64 (-1), .int .u16 0, .int .u16 65535, .int .u16 0, .int .u16 65535].toList)
                  have h9le := Lib.hid HB.out.size
                  try simp only [pickOp, Act.put, List.setIfInBounds_toArray, List.set_cons_zero, List.set_cons_succ]
                  obtain ⟨wdae, hwn⟩ : ∃ x, x = wda.alloc (Obj.cells #[.int .i64 d, .int .i64 p, .bool io, .bool true, .int .u32 0, .int .i64 0, .int .u32 0, .int .i64 0, .int .i64 (-1), .int .u16 0, .int .u16 65535, .int .u16 0, .int .u16 65535] 43) := ⟨_, rfl⟩
                  have W_' := Lib.hid (trow_on W_.out (cbelow_al (Below.refl _ wda) (Obj.cells #[.int .i64 d, .int .i64 p, .bool io, .bool true, .int .u32 0, .int .i64 0, .int .u32 0, .int .i64 0, .int .i64 (-1), .int .u16 0, .int .u16 65535, .int .u16 0, .int .u16 65535] 43)))
                  clear W_
                  have W_ := W_'
                  clear W_'
                  rw [← hwn] at HB' E_ W_ ⊢
                  obtain ⟨h9, hh9⟩ : ∃ n, wda.heap.size = n := ⟨_, rfl⟩
                  rw [hh9] at E_ h9le ⊢
                  clear hwn HB
                  have HB := HB'
                  clear HB'
                  have N9 := Lib.hid (Nat.ne_of_lt (show hz < h9 by have := LZ.out; omega))
                  clear hh9
                  refine T_b1 (fun K hK => ?_)
                  skip
                  simp only [pickOp]
                  obtain ⟨a3, c3, wdaeb, hr, hO, -, -, hb, hgr⟩ := app_rows_n hna.out W_.out aa ac (HE.out _ (HP.out _ _ hw'.out (cbelow_on B8.out HB.out))) h0.out (by omega) HB.out.size
                  rw [Nat.zero_add] at hr hO
                  have HB' := Lib.hid (HB.out.trans hb)
                  refine wanted_then (by rfl) (wp_append_run _ _ 24 rfl rfl rfl hr ?_)
                  refine hK.out _ _ (⟨(T8.out.on HB'.out).1 2 _ rfl, (O8.out.on HB'.out).1 0 _ rfl, (O8.out.on HB'.out).1 1 _ rfl, (O8.out.on HB'.out).1 2 _ rfl, (O8.out.on HB'.out).1 3 _ rfl, (O8.out.on HB'.out).1 4 _ rfl, (O8.out.on HB'.out).1 5 _ rfl, (O8.out.on HB'.out).1 6 _ rfl, (O8.out.on HB'.out).1 7 _ rfl, (O8.out.on HB'.out).1 8 _ rfl⟩) (fun hH => ?_)
                  clear hK K hH hr
                  clear W_
                  have W_ := Lib.hid hO
                  clear hO
                  try simp only [pickOp, Act.put, List.setIfInBounds_toArray, List.set_cons_zero, List.set_cons_succ]
                  have E_' := Lib.hid (show Blk wdaeb h9 #[.int .i64 d, .int .i64 p, .bool io, .bool true, .int .u32 0, .int .i64 0, .int .u32 0, .int .i64 0, .int .i64 (-1), .int .u16 0, .int .u16 65535, .int .u16 0, .int .u16 65535].toList from E_.out.grown hgr (by show some h9 ≠ some hz; simp; exact fun e => N9.out e.symm))
                  clear E_
                  have E_ := E_'
                  clear E_'
                  clear hb hgr HB
                  have HB := HB'
                  clear HB'
                  as_aux_lemma =>
                    refine T_b1 (fun K hK => ?_)
                    simp only [pickOp]
                    obtain ⟨a4, c4, w4, hr, -, hR, hg, hb, -⟩ := app_rows_n (es := [opn d p io true]) (na := 1) rfl W_.out (some ⟨h9, 0, none⟩) 1 (fun j v hv => ⟨h9, 0, rfl, by rw [Nat.zero_add]; exact E_.out.1 j v hv⟩) (fun e => by cases e) (by omega) HB.out.size
                    have HB' := Lib.hid (HB.out.trans hb)
                    have HR := Lib.hid hR
                    have HG := Lib.hid hg
                    refine wanted_then (by rfl) (wp_append_run _ _ 24 rfl rfl rfl hr ?_)
                    refine hK.out _ _ (⟨(T8.out.on HB'.out).1 2 _ rfl, (O8.out.on HB'.out).1 0 _ rfl, (O8.out.on HB'.out).1 1 _ rfl, (O8.out.on HB'.out).1 2 _ rfl, (O8.out.on HB'.out).1 3 _ rfl, (O8.out.on HB'.out).1 4 _ rfl, (O8.out.on HB'.out).1 5 _ rfl, (O8.out.on HB'.out).1 6 _ rfl, (O8.out.on HB'.out).1 7 _ rfl, (O8.out.on HB'.out).1 8 _ rfl⟩) (fun hH => ?_)
                    clear hK K hH hr W_ E_ HB hR hg hb
                    have HB := HB'
                    clear HB'
                    try simp only [pickOp, Act.put, List.setIfInBounds_toArray, List.set_cons_zero, List.set_cons_succ]
                    refine T_pure ?_ (by rfl) (fun w hSw => ?_) ?_
                    rotate_left
                    · simp only [pickOp]; go_simp; try with_reducible rfl
                    try simp only [pickOp, Act.put, List.setIfInBounds_toArray, List.set_cons_zero, List.set_cons_succ]
                    have z_2 := (Z8.out.on HB.out).1 2 _ rfl
                    have zz_2 := (Z8.out.on HB.out).2 2 _ rfl
                    refine T_b1 (fun K hK => ?_)
                    simp only [pickOp]
                    go_simp
                    have l1 := lo.out
                    have l2 := LO.out
                    obtain ⟨⟨l3, l4, l5⟩, l6, l7, l8⟩ := NN.out
                    obtain ⟨l9, l10, l11⟩ := LT6.out
                    refine hK.out _ _ ?_ (fun hH => ?_)
                    · have t8 := (T8.out.on HB.out).far ⟨bz, 2, none⟩ (.slice a4 (na + 1) c4) (by simp; omega)
                      have o8 := (O8.out.on HB.out).far ⟨bz, 2, none⟩ (.slice a4 (na + 1) c4) (by simp; omega)
                      exact ⟨t8.1 2 _ rfl, o8.1 0 _ rfl, o8.1 1 _ rfl, o8.1 2 _ rfl, o8.1 3 _ rfl, o8.1 4 _ rfl, o8.1 5 _ rfl, o8.1 6 _ rfl, o8.1 7 _ rfl, o8.1 8 _ rfl⟩
                    clear hK K hH z_2 zz_2 l1 l2 l3 l4 l5 l6 l7 l8 l9 l10 l11
                    try simp only [pickOp, Act.put, List.setIfInBounds_toArray, List.set_cons_zero, List.set_cons_succ]
                    refine T_done (NoPanic.normal ?_)
                    go_wp2_with fail
                    go_meet
                    exact ⟨a4, c4, w4, rfl, HB.out, rfl, HR.out, HG.out⟩
              · skip
                simp only [pickOp]
                refine wanted_then (by rfl) (wp_slice_run 24 1 #[(0, .tmp 83)] #[(0, .agg #[.int .i64 d, .int .i64 p, .bool io, .bool true, .int .u32 0, .int .i64 0, .int .u32 0, .int .i64 0, .int .i64 (-1), .int .u16 0, .int .u16 65535, .int .u16 0, .int .u16 65535])] rfl (by simp only [List.map_toArray, List.map_cons, List.map_nil]; rfl) (ace_slice d p io true wd) ?_)
                have HB' := Lib.hid (cbelow_al HB.out (Obj.cells #[.int .i64 d, .int .i64 p, .bool io, .bool true, .int .u32 0, .int .i64 0, .int .u32 0, .int .i64 0, .int .i64 (-1), .int .u16 0, .int .u16 65535, .int .u16 0, .int .u16 65535] 43))
                refine hK.out _ _ (⟨(T8.out.on HB'.out).1 2 _ rfl, (O8.out.on HB'.out).1 0 _ rfl, (O8.out.on HB'.out).1 1 _ rfl, (O8.out.on HB'.out).1 2 _ rfl, (O8.out.on HB'.out).1 3 _ rfl, (O8.out.on HB'.out).1 4 _ rfl, (O8.out.on HB'.out).1 5 _ rfl, (O8.out.on HB'.out).1 6 _ rfl, (O8.out.on HB'.out).1 7 _ rfl, (O8.out.on HB'.out).1 8 _ rfl⟩) (fun hH => ?_)
                clear hK K hH
                have E_ := Lib.hid (Blk.new wd 43 #[.int .i64 d, .int .i64 p, .bool io, .bool true, .int .u32 0, .int .i64 0, .int .u32 0, .int .i64 0, .int .i64 (-1), .int .u16 0, .int .u16 65535, .int .u16 0, .int .u16 65535].toList)
                have h9le := Lib.hid HB.out.size
                try simp only [pickOp, Act.put, List.setIfInBounds_toArray, List.set_cons_zero, List.set_cons_succ]
                obtain ⟨wde, hwn⟩ : ∃ x, x = wd.alloc (Obj.cells #[.int .i64 d, .int .i64 p, .bool io, .bool true, .int .u32 0, .int .i64 0, .int .u32 0, .int .i64 0, .int .i64 (-1), .int .u16 0, .int .u16 65535, .int .u16 0, .int .u16 65535] 43) := ⟨_, rfl⟩
                rw [← hwn] at HB' E_ ⊢
                obtain ⟨h9, hh9⟩ : ∃ n, wd.heap.size = n := ⟨_, rfl⟩
                rw [hh9] at E_ h9le ⊢
                clear hwn HB
                have HB := HB'
                clear HB'
                clear hh9
                refine T_b1 (fun K hK => ?_)
                skip
                simp only [pickOp]
                go_simp
                have HB' := Lib.hid (cbelow_al HB.out (Obj.cells #[] 43))
                refine hK.out _ _ (⟨(T8.out.on HB'.out).1 2 _ rfl, (O8.out.on HB'.out).1 0 _ rfl, (O8.out.on HB'.out).1 1 _ rfl, (O8.out.on HB'.out).1 2 _ rfl, (O8.out.on HB'.out).1 3 _ rfl, (O8.out.on HB'.out).1 4 _ rfl, (O8.out.on HB'.out).1 5 _ rfl, (O8.out.on HB'.out).1 6 _ rfl, (O8.out.on HB'.out).1 7 _ rfl, (O8.out.on HB'.out).1 8 _ rfl⟩) (fun hH => ?_)
                clear hK K hH
                have W_ := Lib.hid (World.ownsRow_lit (base := W8.heap.size) (e := 43) (size := 13) wde #[] 0 HB.out.size (by unfold maxLen; omega) rfl)
                try simp only [pickOp, Act.put, List.setIfInBounds_toArray, List.set_cons_zero, List.set_cons_succ]
                obtain ⟨wdea, hwn⟩ : ∃ x, x = wde.alloc (Obj.cells #[] 43) := ⟨_, rfl⟩
                have LZ := Lib.hid (show wde.heap.size < wdea.heap.size by rw [hwn, World.size_alloc]; omega)
                rw [← hwn] at HB' W_ ⊢
                have N9 := Lib.hid (Nat.ne_of_gt (show h9 < wde.heap.size from cell_lt (o := 0) (by rw [E_.out.1 0 _ rfl]; rfl)))
                have hn9 := hwn
                have E_' := Lib.hid (show Blk wdea h9 #[.int .i64 d, .int .i64 p, .bool io, .bool true, .int .u32 0, .int .i64 0, .int .u32 0, .int .i64 0, .int .i64 (-1), .int .u16 0, .int .u16 65535, .int .u16 0, .int .u16 65535].toList by rw [hn9]; exact E_.out.on (cbelow_al (Below.refl _ wde) _))
                clear E_ hn9
                have E_ := E_'
                clear E_'
                obtain ⟨hz, hhz⟩ : ∃ n, wde.heap.size = n := ⟨_, rfl⟩
                rw [hhz] at W_ LZ N9 ⊢
                clear hwn hhz HB
                have HB := HB'
                clear HB'
                refine T_b1 (fun K hK => ?_)
                skip
                simp only [pickOp]
                obtain ⟨a3, c3, wdeab, hr, hO, -, -, hb, hgr⟩ := app_rows_n hna.out W_.out aa ac (HE.out _ (HP.out _ _ hw'.out (cbelow_on B8.out HB.out))) h0.out (by omega) HB.out.size
                rw [Nat.zero_add] at hr hO
                have HB' := Lib.hid (HB.out.trans hb)
                refine wanted_then (by rfl) (wp_append_run _ _ 24 rfl rfl rfl hr ?_)
                refine hK.out _ _ (⟨(T8.out.on HB'.out).1 2 _ rfl, (O8.out.on HB'.out).1 0 _ rfl, (O8.out.on HB'.out).1 1 _ rfl, (O8.out.on HB'.out).1 2 _ rfl, (O8.out.on HB'.out).1 3 _ rfl, (O8.out.on HB'.out).1 4 _ rfl, (O8.out.on HB'.out).1 5 _ rfl, (O8.out.on HB'.out).1 6 _ rfl, (O8.out.on HB'.out).1 7 _ rfl, (O8.out.on HB'.out).1 8 _ rfl⟩) (fun hH => ?_)
                clear hK K hH hr
                clear W_
                have W_ := Lib.hid hO
                clear hO
                try simp only [pickOp, Act.put, List.setIfInBounds_toArray, List.set_cons_zero, List.set_cons_succ]
                have E_' := Lib.hid (show Blk wdeab h9 #[.int .i64 d, .int .i64 p, .bool io, .bool true, .int .u32 0, .int .i64 0, .int .u32 0, .int .i64 0, .int .i64 (-1), .int .u16 0, .int .u16 65535, .int .u16 0, .int .u16 65535].toList from E_.out.grown hgr (by show some h9 ≠ some hz; simp; exact fun e => N9.out e.symm))
                clear E_
                have E_ := E_'
                clear E_'
                clear hb hgr HB
                have HB := HB'
                clear HB'
                as_aux_lemma =>
                  refine T_b1 (fun K hK => ?_)
                  simp only [pickOp]
                  obtain ⟨a4, c4, w4, hr, -, hR, hg, hb, -⟩ := app_rows_n (es := [opn d p io true]) (na := 1) rfl W_.out (some ⟨h9, 0, none⟩) 1 (fun j v hv => ⟨h9, 0, rfl, by rw [Nat.zero_add]; exact E_.out.1 j v hv⟩) (fun e => by cases e) (by omega) HB.out.size
                  have HB' := Lib.hid (HB.out.trans hb)
                  have HR := Lib.hid hR
                  have HG := Lib.hid hg
                  refine wanted_then (by rfl) (wp_append_run _ _ 24 rfl rfl rfl hr ?_)
                  refine hK.out _ _ (⟨(T8.out.on HB'.out).1 2 _ rfl, (O8.out.on HB'.out).1 0 _ rfl, (O8.out.on HB'.out).1 1 _ rfl, (O8.out.on HB'.out).1 2 _ rfl, (O8.out.on HB'.out).1 3 _ rfl, (O8.out.on HB'.out).1 4 _ rfl, (O8.out.on HB'.out).1 5 _ rfl, (O8.out.on HB'.out).1 6 _ rfl, (O8.out.on HB'.out).1 7 _ rfl, (O8.out.on HB'.out).1 8 _ rfl⟩) (fun hH => ?_)
                  clear hK K hH hr W_ E_ HB hR hg hb
                  have HB := HB'
                  clear HB'
                  try simp only [pickOp, Act.put, List.setIfInBounds_toArray, List.set_cons_zero, List.set_cons_succ]
                  refine T_pure ?_ (by rfl) (fun w hSw => ?_) ?_
                  rotate_left
                  · simp only [pickOp]; go_simp; try with_reducible rfl
                  try simp only [pickOp, Act.put, List.setIfInBounds_toArray, List.set_cons_zero, List.set_cons_succ]
                  have z_2 := (Z8.out.on HB.out).1 2 _ rfl
                  have zz_2 := (Z8.out.on HB.out).2 2 _ rfl
                  refine T_b1 (fun K hK => ?_)
                  simp only [pickOp]
                  go_simp
                  have l1 := lo.out
                  have l2 := LO.out
                  obtain ⟨⟨l3, l4, l5⟩, l6, l7, l8⟩ := NN.out
                  obtain ⟨l9, l10, l11⟩ := LT6.out
                  refine hK.out _ _ ?_ (fun hH => ?_)
                  · have t8 := (T8.out.on HB.out).far ⟨bz, 2, none⟩ (.slice a4 (na + 1) c4) (by simp; omega)
                    have o8 := (O8.out.on HB.out).far ⟨bz, 2, none⟩ (.slice a4 (na + 1) c4) (by simp; omega)
                    exact ⟨t8.1 2 _ rfl, o8.1 0 _ rfl, o8.1 1 _ rfl, o8.1 2 _ rfl, o8.1 3 _ rfl, o8.1 4 _ rfl, o8.1 5 _ rfl, o8.1 6 _ rfl, o8.1 7 _ rfl, o8.1 8 _ rfl⟩
                  clear hK K hH z_2 zz_2 l1 l2 l3 l4 l5 l6 l7 l8 l9 l10 l11
                  try simp only [pickOp, Act.put, List.setIfInBounds_toArray, List.set_cons_zero, List.set_cons_succ]
                  refine T_done (NoPanic.normal ?_)
                  go_wp2_with fail
                  go_meet
                  exact ⟨a4, c4, w4, rfl, HB.out, rfl, HR.out, HG.out⟩
            case rest =>
              obtain ⟨a3, c3, wy, rfl, hb, hW, hR, hG⟩ := hcut
              obtain ⟨W9, rfl⟩ : ∃ W9 : World, W9 = wc := ⟨_, rfl⟩
              clear t_0 t_1 t_2 o_0 o_1 o_2 o_3 o_4 o_5 o_6 o_7 o_8
              have l1 := lo.out
              have l2 := LO.out
              obtain ⟨⟨l3, l4, l5⟩, l6, l7, l8⟩ := NN.out
              obtain ⟨l9, l10, l11⟩ := LT6.out
              have hs := hb.size
              have hn := S8.out
              have V9 := Lib.hid (show Blk W9 bz [.slice pa np pc, .slice la nl lc, .slice a3 (na + 1) c3] by rw [hW]; exact (Z8.out.on hb).set 2 _ (by simp))
              have T9 := Lib.hid ((T8.out.on hb).far ⟨bz, 2, none⟩ (.slice a3 (na + 1) c3) (by simp; omega))
              rw [← hW] at T9
              have K9 := Lib.hid ((K8.out.on hb).far ⟨bz, 2, none⟩ (.slice a3 (na + 1) c3) (by simp; omega))
              rw [← hW] at K9
              have X9 := Lib.hid ((X8.out.on hb).far ⟨bz, 2, none⟩ (.slice a3 (na + 1) c3) (by simp; omega))
              rw [← hW] at X9
              have Y9 := Lib.hid ((Y8.out.on hb).far ⟨bz, 2, none⟩ (.slice a3 (na + 1) c3) (by simp; omega))
              rw [← hW] at Y9
              have R1' := Lib.hid ((R1.out.on hb).far ⟨bz, 2, none⟩ (.slice a3 (na + 1) c3) (fun q e => by have := G1.out q e; simp; omega))
              rw [← hW] at R1'
              clear R1
              have R1 := R1'
              clear R1'
              have R2' := Lib.hid ((R2.out.on hb).far ⟨bz, 2, none⟩ (.slice a3 (na + 1) c3) (fun q e => by have := G2.out q e; simp; omega))
              rw [← hW] at R2'
              clear R2
              have R2 := R2'
              clear R2'
              have R3 := Lib.hid (hR.far ⟨bz, 2, none⟩ (.slice a3 (na + 1) c3) (fun q e => by have := hG q e; simp; omega))
              rw [← hW] at R3
              have B9 := Lib.hid (show Below w.heap.size w W9 by rw [hW]; exact (cbelow_on B8.out hb).setCell (by simp; omega) _)
              clear l1 l2 l3 l4 l5 l6 l7 l8 l9 l10 l11 hn hs hW hb hR hG T8 K8 O8 X8 Y8 Z8 B8 S8 G1 G2 NN LT6 LO lo
              obtain ⟨k_0, k_1, k_2, k_3, k_4⟩ : _ ∧ _ ∧ _ ∧ _ ∧ _ := ⟨K9.out.1 0 _ rfl, K9.out.1 1 _ rfl, K9.out.1 2 _ rfl, K9.out.1 3 _ rfl, K9.out.1 4 _ rfl⟩
              go_wp2_with fail
              refine (AW.out _).mono ?_
              rintro e w10 ⟨rfl, hb⟩
              have K10 := Lib.hid (K9.out.on hb)
              have X10 := Lib.hid (X9.out.on hb)
              have Y10 := Lib.hid (Y9.out.on hb)
              have V10 := Lib.hid (V9.out.on hb)
              have R1' := Lib.hid (R1.out.on hb)
              clear R1
              have R1 := R1'
              clear R1'
              have R2' := Lib.hid (R2.out.on hb)
              clear R2
              have R2 := R2'
              clear R2'
              have R3' := Lib.hid (R3.out.on hb)
              clear R3
              have R3 := R3'
              clear R3'
              have B10 := Lib.hid (cbelow_on B9.out hb)
              clear hb k_0 k_1 k_2 k_3 k_4 K9 X9 Y9 V9 B9
              obtain ⟨k_0, k_1, k_2, k_3, k_4⟩ : _ ∧ _ ∧ _ ∧ _ ∧ _ := ⟨K10.out.1 0 _ rfl, K10.out.1 1 _ rfl, K10.out.1 2 _ rfl, K10.out.1 3 _ rfl, K10.out.1 4 _ rfl⟩
              obtain ⟨x_0, x_1, x_2⟩ : _ ∧ _ ∧ _ := ⟨X10.out.1 0 _ rfl, X10.out.1 1 _ rfl, X10.out.1 2 _ rfl⟩
              go_wp2_with fail
              refine (PA.out _ _ _ R1.out).mono ?_
              rintro e w11 ⟨rfl, hb⟩
              have K11 := Lib.hid (K10.out.on hb)
              have X11 := Lib.hid (X10.out.on hb)
              have Y11 := Lib.hid (Y10.out.on hb)
              have V11 := Lib.hid (V10.out.on hb)
              have R1' := Lib.hid (R1.out.on hb)
              clear R1
              have R1 := R1'
              clear R1'
              have R2' := Lib.hid (R2.out.on hb)
              clear R2
              have R2 := R2'
              clear R2'
              have R3' := Lib.hid (R3.out.on hb)
              clear R3
              have R3 := R3'
              clear R3'
              have B11 := Lib.hid (cbelow_on B10.out hb)
              clear hb k_0 k_1 k_2 k_3 k_4 x_0 x_1 x_2 K10 X10 Y10 V10 B10
              obtain ⟨k_0, k_1, k_2, k_3, k_4⟩ : _ ∧ _ ∧ _ ∧ _ ∧ _ := ⟨K11.out.1 0 _ rfl, K11.out.1 1 _ rfl, K11.out.1 2 _ rfl, K11.out.1 3 _ rfl, K11.out.1 4 _ rfl⟩
              obtain ⟨y_0, y_1, y_2⟩ : _ ∧ _ ∧ _ := ⟨Y11.out.1 0 _ rfl, Y11.out.1 1 _ rfl, Y11.out.1 2 _ rfl⟩
              go_wp2_with fail
              refine (PO.out _ _ _ R2.out).mono ?_
              rintro e w12 ⟨rfl, hb⟩
              have K12 := Lib.hid (K11.out.on hb)
              have X12 := Lib.hid (X11.out.on hb)
              have Y12 := Lib.hid (Y11.out.on hb)
              have V12 := Lib.hid (V11.out.on hb)
              have R1' := Lib.hid (R1.out.on hb)
              clear R1
              have R1 := R1'
              clear R1'
              have R2' := Lib.hid (R2.out.on hb)
              clear R2
              have R2 := R2'
              clear R2'
              have R3' := Lib.hid (R3.out.on hb)
              clear R3
              have R3 := R3'
              clear R3'
              have B12 := Lib.hid (cbelow_on B11.out hb)
              clear hb k_0 k_1 k_2 k_3 k_4 y_0 y_1 y_2 K11 X11 Y11 V11 B11
              obtain ⟨k_0, k_1, k_2, k_3, k_4⟩ : _ ∧ _ ∧ _ ∧ _ ∧ _ := ⟨K12.out.1 0 _ rfl, K12.out.1 1 _ rfl, K12.out.1 2 _ rfl, K12.out.1 3 _ rfl, K12.out.1 4 _ rfl⟩
              obtain ⟨v_0, v_1, v_2⟩ : _ ∧ _ ∧ _ := ⟨V12.out.1 0 _ rfl, V12.out.1 1 _ rfl, V12.out.1 2 _ rfl⟩
              go_wp2_with fail
              refine (PB.out _ _ _ R3.out).mono ?_
              rintro e w13 ⟨rfl, hb⟩
              have K13 := Lib.hid (K12.out.on hb)
              have X13 := Lib.hid (X12.out.on hb)
              have Y13 := Lib.hid (Y12.out.on hb)
              have V13 := Lib.hid (V12.out.on hb)
              have R1' := Lib.hid (R1.out.on hb)
              clear R1
              have R1 := R1'
              clear R1'
              have R2' := Lib.hid (R2.out.on hb)
              clear R2
              have R2 := R2'
              clear R2'
              have R3' := Lib.hid (R3.out.on hb)
              clear R3
              have R3 := R3'
              clear R3'
              have B13 := Lib.hid (cbelow_on B12.out hb)
              clear hb k_0 k_1 k_2 k_3 k_4 v_0 v_1 v_2 K12 X12 Y12 V12 B12
              obtain ⟨x_0, x_1, x_2⟩ : _ ∧ _ ∧ _ := ⟨X13.out.1 0 _ rfl, X13.out.1 1 _ rfl, X13.out.1 2 _ rfl⟩
              go_wp2_with fail
              refine (CA.out _ _ _ (HP.out _ _ hw'.out B13.out) R1.out).mono ?_
              rintro e w14 ⟨rfl, hb⟩
              have K14 := Lib.hid (K13.out.on hb)
              have X14 := Lib.hid (X13.out.on hb)
              have Y14 := Lib.hid (Y13.out.on hb)
              have V14 := Lib.hid (V13.out.on hb)
              have R1' := Lib.hid (R1.out.on hb)
              clear R1
              have R1 := R1'
              clear R1'
              have R2' := Lib.hid (R2.out.on hb)
              clear R2
              have R2 := R2'
              clear R2'
              have R3' := Lib.hid (R3.out.on hb)
              clear R3
              have R3 := R3'
              clear R3'
              have B14 := Lib.hid (cbelow_on B13.out hb)
              clear hb x_0 x_1 x_2 K13 X13 Y13 V13 B13
              go_wp2
              go_ret
              exact ⟨rfl, B14.out⟩
        · have e3' : decide ((30 : Int) < (na : Int)) = true := decide_eq_true (by omega)
          have e3z : (30 : Int) < (na : Int) := by omega
          go_wp2_with fail
          refine (AW.out _).mono ?_
          rintro e w4 ⟨rfl, hb⟩
          have T4 := Lib.hid (T3.out.on hb)
          have K4 := Lib.hid (K3.out.on hb)
          have B4 := Lib.hid (cbelow_on B3.out hb)
          clear hb t_0 t_1 t_2 k_0 k_1 k_2 k_3 k_4 T3 K3 B3
          go_wp2
          go_ret
          exact ⟨rfl, B4.out⟩
      · have e2' : (Q != 0) = true := by simp; exact e2
        go_wp2_with fail
        refine (AW.out _).mono ?_
        rintro e w4 ⟨rfl, hb⟩
        have T4 := Lib.hid (T3.out.on hb)
        have K4 := Lib.hid (K3.out.on hb)
        have B4 := Lib.hid (cbelow_on B3.out hb)
        clear hb t_0 t_1 t_2 k_0 k_1 k_2 k_3 k_4 T3 K3 B3
        go_wp2
        go_ret
        exact ⟨rfl, B4.out⟩
    · have e1' : (R != 0) = true := by simp; exact e1
      go_wp2_with fail
      refine (AW.out _).mono ?_
      rintro e w3 ⟨rfl, hb⟩
      have T3 := Lib.hid (T2.out.on hb)
      have K3 := Lib.hid (K2.out.on hb)
      have B3 := Lib.hid (cbelow_on B2.out hb)
      clear hb t_0 t_1 t_2 k_0 k_1 k_2 k_3 k_4 T2 K2 B2
      go_wp2
      go_ret
      exact ⟨rfl, B3.out⟩
end Go.Proofs.Ytoiopjdbmaffeaa
