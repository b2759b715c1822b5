/- The port that a port is joined with. -/
import Derived.Test.YtoiopjdbmaffeaaT6
namespace Go.Proofs.Ytoiopjdbmaffeaa
open Go.RowKit
set_option linter.unusedVariables false

/-- The first end that is this one, and the other end of its link. -/
def peerF (d p : Int) : List Lk → Int × Int × Bool
  | [] => (0, 0, false)
  | l :: r => if l.a = d ∧ l.b = p then (l.c, l.d, true) else if l.c = d ∧ l.d = p then (l.a, l.b, true) else peerF d p r
set_option maxRecDepth 100000 in
set_option maxHeartbeats 4000000 in
theorem peer_any (ls : List Lk) (pa : Option Addr) (np pc : Nat) (la : Option Addr) (lc : Nat) (aa : Option Addr) (na ac : Nat) (d p : Int) (w : World) (hl : Rw w la (ls.flatMap Lk.cells)) (hll : ls.length < 100000) :
    Calls Try.prog 12 #[tv pa np pc la ls.length lc aa na ac, .int .i64 d, .int .i64 p] w fun e w' => e = .returned (.tuple #[.int .i64 (peerF d p ls).1, .int .i64 (peerF d p ls).2.1, .bool (peerF d p ls).2.2]) ∧ Below w.heap.size w w' := by
  obtain ⟨R, hR⟩ : ∃ R, peerF d p ls = R := ⟨_, rfl⟩
  rw [hR]
  obtain ⟨W0, hW0⟩ : ∃ W0, w.alloc (Obj.cells (tc pa np pc la ls.length lc aa na ac).toArray 26) = W0 := ⟨_, rfl⟩
  have hb0 : Below w.heap.size w W0 := by rw [← hW0]; exact cbelow_al (Below.refl _ _) _
  have T0 := Lib.hid (show Blk W0 w.heap.size (tc pa np pc la ls.length lc aa na ac) by rw [← hW0]; exact Blk.new _ _ _)
  have L0 := Lib.hid (hl.on hb0)
  have BB := Lib.hid hb0
  have HR := Lib.hid hR
  clear hb0 hR hl
  unfold tc at *
  unfold tv at *
  obtain ⟨nl, hnl⟩ : ∃ n, ls.length = n := ⟨_, rfl⟩
  rw [hnl] at T0 hW0 hll ⊢
  go_enter Try.func12, Try.ntmps12
  go_upto_region 1 with fail
  clear hW0
  go_upto_region 2 with fail
  refine at_code (S := fun W => Blk W W0.heap.size [.int .i64 d, .int .i64 p] ∧ Below W0.heap.size W0 W) ⟨Blk.new _ _ _, cbelow_al (Below.refl _ _) _⟩ (fun W1 hW => ?_)
  obtain ⟨hN, hb⟩ := hW
  have H1 := Lib.hid hN
  have T1 := Lib.hid (T0.out.on hb)
  have L1 := Lib.hid (L0.out.on hb)
  have BB1 := Lib.hid (cbelow_on BB.out hb)
  clear hN hb T0 L0 BB
  obtain ⟨t_0, t_1, t_2⟩ : _ ∧ _ ∧ _ := ⟨T1.out.1 0 _ rfl, T1.out.1 1 _ rfl, T1.out.1 2 _ rfl⟩
  go_wp2_with fail
  clear t_0 t_1 t_2
  go_loopw [22] (fun iv wr => ∃ i : Nat, iv = .int .i64 i ∧ i ≤ nl ∧ Hid (peerF d p (ls.drop i) = R) ∧ Hid (Below W1.heap.size W1 wr)) (fun iv _ => nl - (intOf iv).toNat)
  case atStart => exact ⟨0, rfl, Nat.zero_le _, HR, Lib.hid (Below.refl _ _)⟩
  case round =>
    obtain ⟨i, rfl, hi, hE1, B1⟩ := hrel
    have H2 := Lib.hid (H1.out.on B1.out)
    have L2 := Lib.hid (L1.out.on B1.out)
    clear HR T1
    by_cases hlt : i < nl
    · obtain ⟨c, hc1, hc2, hc3⟩ := drop_at (l := ls) (i := i) (by omega)
      obtain ⟨bb, off, rfl⟩ := L2.out.elemAd 3 (fun _ => rfl) hc1
      have k0 : wr.cell? ⟨bb, off + i * 4, none⟩ = some (.int .i64 c.a) := L2.out.elem 4 (fun _ => rfl) hc1 0 rfl
      have k1 : wr.cell? ⟨bb, off + i * 4 + 1, none⟩ = some (.int .i64 c.b) := L2.out.elem 4 (fun _ => rfl) hc1 1 rfl
      have k2 : wr.cell? ⟨bb, off + i * 4 + 2, none⟩ = some (.int .i64 c.c) := L2.out.elem 4 (fun _ => rfl) hc1 2 rfl
      have k3 : wr.cell? ⟨bb, off + i * 4 + 3, none⟩ = some (.int .i64 c.d) := L2.out.elem 4 (fun _ => rfl) hc1 3 rfl
      have HX : Hid ((if c.a = d ∧ c.b = p then (c.c, c.d, true) else if c.c = d ∧ c.d = p then (c.a, c.b, true) else peerF d p (ls.drop (i + 1))) = R) := by show _ = _; rw [← hE1.out, hc2]; rfl
      obtain ⟨ca, cb, cc, cd'⟩ := c
      simp only at *
      clear hc1 hc2 hc3 hE1 L1
      have CT := Lib.hid (fun w => tends_any ca cb cc cd' w)
      have hw1 : IntKind.i64.wrap ((i : Int) + 1) = (i : Int) + 1 := by rw [IntKind.wrap_i64]; omega
      have ix0 : ∀ w : World, (Instr.index 59 (.agg #[.int .i64 ca, .int .i64 cb, .int .i64 cc, .int .i64 cd']) (.int .i64 0)).run Try.prog w = .ok (.agg #[.int .i64 ca, .int .i64 cb]) w := fun _ => by kernel_rfl
      have ix1 : ∀ w : World, (Instr.index 59 (.agg #[.int .i64 ca, .int .i64 cb, .int .i64 cc, .int .i64 cd']) (.int .i64 1)).run Try.prog w = .ok (.agg #[.int .i64 cc, .int .i64 cd']) w := fun _ => by kernel_rfl
      go_upto_region 5 with fail
      refine at_code (S := fun W => Blk W wr.heap.size [.int .i64 ca, .int .i64 cb, .int .i64 cc, .int .i64 cd'] ∧ Below wr.heap.size wr W) ⟨Blk.new _ _ _, cbelow_al (Below.refl _ _) _⟩ (fun W2 hW => ?_)
      obtain ⟨hN, hb⟩ := hW
      have B2 := Lib.hid (cbelow_on B1.out hb)
      clear hb k0 k1 k2 k3 B1 H2 L2
      obtain ⟨c_0, c_1, c_2, c_3⟩ : _ ∧ _ ∧ _ ∧ _ := ⟨hN.1 0 _ rfl, hN.1 1 _ rfl, hN.1 2 _ rfl, hN.1 3 _ rfl⟩
      go_wp2_with fail
      refine (CT.out _).mono ?_
      rintro e w3 ⟨rfl, hb⟩
      have B3 := Lib.hid (cbelow_on B2.out hb)
      clear hb c_0 c_1 c_2 c_3 hN CT B2
      go_upto_region 6 with fail
      refine at_code (S := fun W => Blk W w3.heap.size [.int .i64 ca, .int .i64 cb, .int .i64 cc, .int .i64 cd'] ∧ Below w3.heap.size w3 W) ⟨Blk.new _ _ _, cbelow_al (Below.refl _ _) _⟩ (fun W4 hW => ?_)
      obtain ⟨hN, hb⟩ := hW
      have B4 := Lib.hid (cbelow_on B3.out hb)
      have Q4 := Lib.hid hN
      clear hN hb B3
      obtain ⟨c_0, c_1, c_2, c_3⟩ : _ ∧ _ ∧ _ ∧ _ := ⟨Q4.out.1 0 _ rfl, Q4.out.1 1 _ rfl, Q4.out.1 2 _ rfl, Q4.out.1 3 _ rfl⟩
      go_wp2_with fail
      clear c_0 c_1 c_2 c_3
      have hwo : IntKind.i64.wrap 1 = 1 := by rw [IntKind.wrap_i64]; omega
      refine wp_loop_rounds 3 ?_
      rw [rounds_succ]
      go_upto_region 9 with fail
      refine at_code (S := fun W => Blk W W4.heap.size [.int .i64 ca, .int .i64 cb] ∧ Below W4.heap.size W4 W) ⟨Blk.new _ _ _, cbelow_al (Below.refl _ _) _⟩ (fun V0 hW => ?_)
      obtain ⟨hN, hb⟩ := hW
      have C0 := Lib.hid (cbelow_on B4.out hb)
      have Q0 := Lib.hid (Q4.out.on hb)
      obtain ⟨x_0, x_1⟩ : _ ∧ _ := ⟨hN.1 0 _ rfl, hN.1 1 _ rfl⟩
      have HH := H1.out.on C0.out
      obtain ⟨h_0, h_1⟩ : _ ∧ _ := ⟨HH.1 0 _ rfl, HH.1 1 _ rfl⟩
      obtain ⟨c_0, c_1, c_2, c_3⟩ : _ ∧ _ ∧ _ ∧ _ := ⟨Q0.out.1 0 _ rfl, Q0.out.1 1 _ rfl, Q0.out.1 2 _ rfl, Q0.out.1 3 _ rfl⟩
      clear hN hb HH
      by_cases y0 : ca = d ∧ cb = p
      · obtain ⟨rfl, rfl⟩ := y0
        have HZ : Hid (R = (cc, cd', true)) := by show _ = _; rw [← HX.out, if_pos ⟨rfl, rfl⟩]
        have hq : ∀ k : Int, IntKind.i64.wrap (1 - 0) = 1 ∧ IntKind.i64.wrap (1 - 1) = 0 := fun _ => by constructor <;> (rw [IntKind.wrap_i64]; omega)
        go_upto_region 11 with fail
        refine at_code (S := fun W => Blk W V0.heap.size [.int .i64 cc, .int .i64 cd'] ∧ Below V0.heap.size V0 W) ⟨Blk.new _ _ _, cbelow_al (Below.refl _ _) _⟩ (fun V9 hW => ?_)
        obtain ⟨hN, hb⟩ := hW
        have B9 := Lib.hid (cbelow_on C0.out hb)
        obtain ⟨o_0, o_1⟩ : _ ∧ _ := ⟨hN.1 0 _ rfl, hN.1 1 _ rfl⟩
        clear hN hb
        refine wp_region_noPanic ?_
        refine wp_region_along (S := fun w' => Below V9.heap.size V9 w' ∧ ∀ b o, (V9.cell? ⟨b, o, none⟩).isSome = true → w'.cell? ⟨b, o, none⟩ = V9.cell? ⟨b, o, none⟩) ([(0, true), (1, true), (2, true), (3, true), (4, true), (5, true), (6, true)]) (by kernel_rfl) (by as_aux_lemma => kernel_rfl) (by kernel_rfl) (by kernel_rfl) (by as_aux_lemma => kernel_rfl) (by as_aux_lemma => kernel_rfl) (fun _ _ _ _ _ h => h) (ckeep (Below.refl _ _).drew) (fun hH => ?_)
        simp only [stepsOf, pickOp]
        iterate 7 (first | (refine along_skip (by rfl) ?_; try simp only [Act.put, List.setIfInBounds_toArray, List.set_cons_zero, List.set_cons_succ]) | (refine along_pure ?_ (by rfl) (fun w hSw => ?_) ?_; rotate_left; ((try dsimp only at hSw); go_simp; try with_reducible rfl); try simp only [Act.put, List.setIfInBounds_toArray, List.set_cons_zero, List.set_cons_succ]))
        refine along_end (NoPanic.normal ?_)
        have B10 := Lib.hid (cbelow_on B9.out hH.1)
        clear hH
        go_wp2
        go_ret3
        exact ⟨by rw [HZ.out]; rfl, cbelow_on BB1.out B10.out⟩
      · have HY0 := Lib.hid y0
        clear y0
        by_cases z0 : ca = d
        · have z01 : (ca == d) = true := by simp; exact z0
          have z02 : (cb == p) = false := by simp; exact fun q => HY0.out ⟨z0, q⟩
          clear z0
          go_wp2_with fail
          clear x_0 x_1 h_0 h_1 c_0 c_1 c_2 c_3
          rw [rounds_succ]
          go_upto_region 9 with fail
          refine at_code (S := fun W => Blk W V0.heap.size [.int .i64 cc, .int .i64 cd'] ∧ Below V0.heap.size V0 W) ⟨Blk.new _ _ _, cbelow_al (Below.refl _ _) _⟩ (fun V1 hW => ?_)
          obtain ⟨hN, hb⟩ := hW
          have C1 := Lib.hid (cbelow_on C0.out hb)
          have Q1 := Lib.hid (Q0.out.on hb)
          obtain ⟨x_0, x_1⟩ : _ ∧ _ := ⟨hN.1 0 _ rfl, hN.1 1 _ rfl⟩
          have HH := H1.out.on C1.out
          obtain ⟨h_0, h_1⟩ : _ ∧ _ := ⟨HH.1 0 _ rfl, HH.1 1 _ rfl⟩
          obtain ⟨c_0, c_1, c_2, c_3⟩ : _ ∧ _ ∧ _ ∧ _ := ⟨Q1.out.1 0 _ rfl, Q1.out.1 1 _ rfl, Q1.out.1 2 _ rfl, Q1.out.1 3 _ rfl⟩
          clear hN hb HH
          by_cases y1 : cc = d ∧ cd' = p
          · obtain ⟨rfl, rfl⟩ := y1
            have HZ : Hid (R = (ca, cb, true)) := by show _ = _; rw [← HX.out, if_neg HY0.out, if_pos ⟨rfl, rfl⟩]
            have hq : ∀ k : Int, IntKind.i64.wrap (1 - 0) = 1 ∧ IntKind.i64.wrap (1 - 1) = 0 := fun _ => by constructor <;> (rw [IntKind.wrap_i64]; omega)
            go_upto_region 11 with fail
            refine at_code (S := fun W => Blk W V1.heap.size [.int .i64 ca, .int .i64 cb] ∧ Below V1.heap.size V1 W) ⟨Blk.new _ _ _, cbelow_al (Below.refl _ _) _⟩ (fun V9 hW => ?_)
            obtain ⟨hN, hb⟩ := hW
            have B9 := Lib.hid (cbelow_on C1.out hb)
            obtain ⟨o_0, o_1⟩ : _ ∧ _ := ⟨hN.1 0 _ rfl, hN.1 1 _ rfl⟩
            clear hN hb
            refine wp_region_noPanic ?_
            refine wp_region_along (S := fun w' => Below V9.heap.size V9 w' ∧ ∀ b o, (V9.cell? ⟨b, o, none⟩).isSome = true → w'.cell? ⟨b, o, none⟩ = V9.cell? ⟨b, o, none⟩) ([(0, true), (1, true), (2, true), (3, true), (4, true), (5, true), (6, true)]) (by kernel_rfl) (by as_aux_lemma => kernel_rfl) (by kernel_rfl) (by kernel_rfl) (by as_aux_lemma => kernel_rfl) (by as_aux_lemma => kernel_rfl) (fun _ _ _ _ _ h => h) (ckeep (Below.refl _ _).drew) (fun hH => ?_)
            simp only [stepsOf, pickOp]
            iterate 7 (first | (refine along_skip (by rfl) ?_; try simp only [Act.put, List.setIfInBounds_toArray, List.set_cons_zero, List.set_cons_succ]) | (refine along_pure ?_ (by rfl) (fun w hSw => ?_) ?_; rotate_left; ((try dsimp only at hSw); go_simp; try with_reducible rfl); try simp only [Act.put, List.setIfInBounds_toArray, List.set_cons_zero, List.set_cons_succ]))
            refine along_end (NoPanic.normal ?_)
            have B10 := Lib.hid (cbelow_on B9.out hH.1)
            clear hH
            go_wp2
            go_ret3
            exact ⟨by rw [HZ.out]; rfl, cbelow_on BB1.out B10.out⟩
          · have HY1 := Lib.hid y1
            clear y1
            by_cases z1 : cc = d
            · have z11 : (cc == d) = true := by simp; exact z1
              have z12 : (cd' == p) = false := by simp; exact fun q => HY1.out ⟨z1, q⟩
              clear z1
              go_wp2_with fail
              clear x_0 x_1 h_0 h_1 c_0 c_1 c_2 c_3
              rw [rounds_succ]
              rw [if_neg HY0.out, if_neg HY1.out] at HX
              go_wp2
              refine ⟨?_, ?_⟩
              · first | exact ⟨i + 1, by go_num, by omega, HX, C1⟩ | ((repeat apply Exists.intro); exact ⟨⟨i + 1, by go_num, by omega, HX, C1⟩, rfl⟩)
              · simp [intOf]; omega
            · have z11 : (cc == d) = false := by simp; exact z1
              clear z1
              go_wp2_with fail
              clear x_0 x_1 h_0 h_1 c_0 c_1 c_2 c_3
              rw [rounds_succ]
              rw [if_neg HY0.out, if_neg HY1.out] at HX
              go_wp2
              refine ⟨?_, ?_⟩
              · first | exact ⟨i + 1, by go_num, by omega, HX, C1⟩ | ((repeat apply Exists.intro); exact ⟨⟨i + 1, by go_num, by omega, HX, C1⟩, rfl⟩)
              · simp [intOf]; omega
        · have z01 : (ca == d) = false := by simp; exact z0
          clear z0
          go_wp2_with fail
          clear x_0 x_1 h_0 h_1 c_0 c_1 c_2 c_3
          rw [rounds_succ]
          go_upto_region 9 with fail
          refine at_code (S := fun W => Blk W V0.heap.size [.int .i64 cc, .int .i64 cd'] ∧ Below V0.heap.size V0 W) ⟨Blk.new _ _ _, cbelow_al (Below.refl _ _) _⟩ (fun V1 hW => ?_)
          obtain ⟨hN, hb⟩ := hW
          have C1 := Lib.hid (cbelow_on C0.out hb)
          have Q1 := Lib.hid (Q0.out.on hb)
          obtain ⟨x_0, x_1⟩ : _ ∧ _ := ⟨hN.1 0 _ rfl, hN.1 1 _ rfl⟩
          have HH := H1.out.on C1.out
          obtain ⟨h_0, h_1⟩ : _ ∧ _ := ⟨HH.1 0 _ rfl, HH.1 1 _ rfl⟩
          obtain ⟨c_0, c_1, c_2, c_3⟩ : _ ∧ _ ∧ _ ∧ _ := ⟨Q1.out.1 0 _ rfl, Q1.out.1 1 _ rfl, Q1.out.1 2 _ rfl, Q1.out.1 3 _ rfl⟩
          clear hN hb HH
          by_cases y1 : cc = d ∧ cd' = p
          · obtain ⟨rfl, rfl⟩ := y1
            have HZ : Hid (R = (ca, cb, true)) := by show _ = _; rw [← HX.out, if_neg HY0.out, if_pos ⟨rfl, rfl⟩]
            have hq : ∀ k : Int, IntKind.i64.wrap (1 - 0) = 1 ∧ IntKind.i64.wrap (1 - 1) = 0 := fun _ => by constructor <;> (rw [IntKind.wrap_i64]; omega)
            go_upto_region 11 with fail
            refine at_code (S := fun W => Blk W V1.heap.size [.int .i64 ca, .int .i64 cb] ∧ Below V1.heap.size V1 W) ⟨Blk.new _ _ _, cbelow_al (Below.refl _ _) _⟩ (fun V9 hW => ?_)
            obtain ⟨hN, hb⟩ := hW
            have B9 := Lib.hid (cbelow_on C1.out hb)
            obtain ⟨o_0, o_1⟩ : _ ∧ _ := ⟨hN.1 0 _ rfl, hN.1 1 _ rfl⟩
            clear hN hb
            refine wp_region_noPanic ?_
            refine wp_region_along (S := fun w' => Below V9.heap.size V9 w' ∧ ∀ b o, (V9.cell? ⟨b, o, none⟩).isSome = true → w'.cell? ⟨b, o, none⟩ = V9.cell? ⟨b, o, none⟩) ([(0, true), (1, true), (2, true), (3, true), (4, true), (5, true), (6, true)]) (by kernel_rfl) (by as_aux_lemma => kernel_rfl) (by kernel_rfl) (by kernel_rfl) (by as_aux_lemma => kernel_rfl) (by as_aux_lemma => kernel_rfl) (fun _ _ _ _ _ h => h) (ckeep (Below.refl _ _).drew) (fun hH => ?_)
            simp only [stepsOf, pickOp]
            iterate 7 (first | (refine along_skip (by rfl) ?_; try simp only [Act.put, List.setIfInBounds_toArray, List.set_cons_zero, List.set_cons_succ]) | (refine along_pure ?_ (by rfl) (fun w hSw => ?_) ?_; rotate_left; ((try dsimp only at hSw); go_simp; try with_reducible rfl); try simp only [Act.put, List.setIfInBounds_toArray, List.set_cons_zero, List.set_cons_succ]))
            refine along_end (NoPanic.normal ?_)
            have B10 := Lib.hid (cbelow_on B9.out hH.1)
            clear hH
            go_wp2
            go_ret3
            exact ⟨by rw [HZ.out]; rfl, cbelow_on BB1.out B10.out⟩
          · have HY1 := Lib.hid y1
            clear y1
            by_cases z1 : cc = d
            · have z11 : (cc == d) = true := by simp; exact z1
              have z12 : (cd' == p) = false := by simp; exact fun q => HY1.out ⟨z1, q⟩
              clear z1
              go_wp2_with fail
              clear x_0 x_1 h_0 h_1 c_0 c_1 c_2 c_3
              rw [rounds_succ]
              rw [if_neg HY0.out, if_neg HY1.out] at HX
              go_wp2
              refine ⟨?_, ?_⟩
              · first | exact ⟨i + 1, by go_num, by omega, HX, C1⟩ | ((repeat apply Exists.intro); exact ⟨⟨i + 1, by go_num, by omega, HX, C1⟩, rfl⟩)
              · simp [intOf]; omega
            · have z11 : (cc == d) = false := by simp; exact z1
              clear z1
              go_wp2_with fail
              clear x_0 x_1 h_0 h_1 c_0 c_1 c_2 c_3
              rw [rounds_succ]
              rw [if_neg HY0.out, if_neg HY1.out] at HX
              go_wp2
              refine ⟨?_, ?_⟩
              · first | exact ⟨i + 1, by go_num, by omega, HX, C1⟩ | ((repeat apply Exists.intro); exact ⟨⟨i + 1, by go_num, by omega, HX, C1⟩, rfl⟩)
              · simp [intOf]; omega
    · obtain rfl : i = nl := by omega
      have HZ : Hid (R = (0, 0, false)) := by
        show _ = _
        rw [← hE1.out, List.drop_eq_nil_of_le (by omega)]; rfl
      go_wp2
      go_ret3
      exact ⟨by rw [HZ.out]; rfl, cbelow_on BB1.out B1.out⟩
end Go.Proofs.Ytoiopjdbmaffeaa
