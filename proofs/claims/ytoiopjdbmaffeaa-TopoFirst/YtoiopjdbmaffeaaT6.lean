/- What is wrong with links. -/
import Derived.Test.YtoiopjdbmaffeaaT4
import Derived.Test.YtoiopjdbmaffeaaT5
import Derived.Test.YtoiopjdbmaffeaaAlongT
import Derived.LoopN
namespace Go.Proofs.Ytoiopjdbmaffeaa
open Go.RowKit
set_option linter.unusedVariables false

set_option maxRecDepth 100000 in
set_option maxHeartbeats 1000000 in
theorem tends_any (a b c d : Int) (w : World) : Calls Try.prog 17 #[.agg #[.int .i64 a, .int .i64 b, .int .i64 c, .int .i64 d]] w fun e w' => e = .returned (.agg #[.int .i64 a, .int .i64 b, .int .i64 c, .int .i64 d]) ∧ Below w.heap.size w w' := by
  go_enter Try.func17, Try.ntmps17
  go_wp2
  refine bodyPost_ret (v := .agg #[.int .i64 a, .int .i64 b, .int .i64 c, .int .i64 d]) (by simp [results, Try.results17, go_sem]) rfl ⟨rfl, ?_⟩
  repeat (first | exact Below.refl _ _ | refine cbelow_al ?_ _ | (refine Below.setCell ?_ (by first | exact Nat.le_refl _ | (simp; done) | (simp; omega)) _))
/-- A link's numbers are of their type. -/
structure Lk.Ok (l : Lk) : Prop where
  e : eOk (l.a, l.b)
  f : eOk (l.c, l.d)
theorem ends_get : ∀ (ls : List Lk) (i : Nat) (c : Lk), ls[i]? = some c → (ends ls)[2 * i]? = some (c.a, c.b) ∧ (ends ls)[2 * i + 1]? = some (c.c, c.d)
  | [], _, _, h => by simp at h
  | l :: r, 0, c, h => by simp at h; subst h; exact ⟨rfl, rfl⟩
  | l :: r, i + 1, c, h => by
    have k := ends_get r i c (by simpa using h)
    rw [show 2 * (i + 1) = 2 * i + 1 + 1 by omega]
    exact k
theorem lnkE_in {ps : List Int} {E : List (Int × Int)} {i : Nat} {e : Int × Int} {R : Int} (he : E[i]? = some e) (h : lnkE ps (E.take i) (E.drop i) = R) (hp : portE ps e.1 e.2 = 0) (hm : e ∈ E.take i) : R = 12 := by
  obtain ⟨k, hk, e1⟩ := List.getElem_of_mem hm
  rw [List.length_take] at hk
  rw [List.getElem_take] at e1
  exact lnkE_twice he h hp (k := k) (by omega) (by rw [← e1]; exact List.getElem?_eq_getElem (by omega))
theorem lnkE_out {ps : List Int} {E : List (Int × Int)} {i : Nat} {e : Int × Int} {R : Int} (he : E[i]? = some e) (h : lnkE ps (E.take i) (E.drop i) = R) (hp : portE ps e.1 e.2 = 0) (hm : e ∉ E.take i) : lnkE ps (E.take (i + 1)) (E.drop (i + 1)) = R :=
  lnkE_step he h hp (fun j hj q => hm (by rw [he] at q; exact List.mem_of_getElem? (i := j) (by rw [List.getElem?_take, if_pos hj]; exact q)))
set_option maxRecDepth 100000 in
set_option maxHeartbeats 8000000 in
theorem clinks_any (ps : List Int) (ls : List Lk) (pa : Option Addr) (pc : Nat) (la : Option Addr) (lc : Nat) (aa : Option Addr) (na ac : Nat) (w : World) (hok : ∀ c ∈ ls, c.Ok) (hp : Rw w pa (ints ps)) (hl : Rw w la (ls.flatMap Lk.cells)) (hll : ls.length < 100000) :
    Calls Try.prog 14 #[tv pa ps.length pc la ls.length lc aa na ac] w fun e w' => e = .returned (.int .i64 (lnkE ps [] (ends ls))) ∧ Below w.heap.size w w' := by
  obtain ⟨R, hR⟩ : ∃ R, lnkE ps [] (ends ls) = R := ⟨_, rfl⟩
  rw [hR]
  obtain ⟨W0, hW0⟩ : ∃ W0, w.alloc (Obj.cells (tc pa ps.length pc la ls.length lc aa na ac).toArray 26) = W0 := ⟨_, rfl⟩
  have hb0 : Below w.heap.size w W0 := by rw [← hW0]; exact cbelow_al (Below.refl _ _) _
  have T0 := Lib.hid (show Blk W0 w.heap.size (tc pa ps.length pc la ls.length lc aa na ac) by rw [← hW0]; exact Blk.new _ _ _)
  have P0 := Lib.hid (hp.on hb0)
  have L0 := Lib.hid (hl.on hb0)
  have BB := Lib.hid hb0
  have HR := Lib.hid hR
  have HO := Lib.hid hok
  clear hb0 hR hp hl hok
  have CP := Lib.hid (fun d p w hr => port_any ps pa pc la ls.length lc aa na ac d p w hr)
  unfold tc at *
  unfold tv at *
  have hel := Lib.hid (ends_len ls)
  obtain ⟨nl, hnl⟩ : ∃ n, ls.length = n := ⟨_, rfl⟩
  obtain ⟨np, hnp⟩ : ∃ n, ps.length = n := ⟨_, rfl⟩
  rw [hnl] at T0 hW0 CP hll hel ⊢
  rw [hnp] at T0 hW0 CP ⊢
  have HG := Lib.hid (ends_get ls)
  generalize ends ls = E at *
  have hmm := @run_makeMap Try.prog
  go_enter Try.func14, Try.ntmps14
  go_upto_region 1 with fail
  clear hW0
  go_upto_region 2 with fail
  refine at_code (S := fun W => MapS W W0.heap.size [] ∧ Below W0.heap.size W0 W) ⟨MapS.made _, (Below.refl _ _).alloc (Nat.le_refl _) _⟩ (fun W1 hW => ?_)
  obtain ⟨M0, hB0⟩ := hW
  have T1 := Lib.hid (T0.out.on hB0)
  obtain ⟨t_0, t_1, t_2⟩ : _ ∧ _ ∧ _ := ⟨T1.out.1 0 _ rfl, T1.out.1 1 _ rfl, T1.out.1 2 _ rfl⟩
  go_wp2_with fail
  clear t_0 t_1 t_2 hmm T1
  go_loopw [13] (fun iv wr => ∃ i : Nat, iv = .int .i64 i ∧ i ≤ nl ∧ Hid (lnkE ps (E.take (2 * i)) (E.drop (2 * i)) = R) ∧ Hid (Below W0.heap.size W0 wr) ∧ Hid (MapS wr W0.heap.size (E.take (2 * i)))) (fun iv _ => nl - (intOf iv).toNat)
  case atStart => exact ⟨0, rfl, Nat.zero_le _, HR, Lib.hid hB0, Lib.hid M0⟩
  case round =>
    obtain ⟨i, rfl, hi, hE1, B1, M1⟩ := hrel
    have T1 := Lib.hid (T0.out.on B1.out)
    have P1 := Lib.hid (P0.out.on B1.out)
    have L1 := Lib.hid (L0.out.on B1.out)
    clear HR M0 hB0
    by_cases hlt : i < nl
    · obtain ⟨c, hc1, hc2, hc3⟩ := drop_at (l := ls) (i := i) (by omega)
      obtain ⟨bb, off, rfl⟩ := L1.out.elemAd 3 (fun _ => rfl) hc1
      have k0 : wr.cell? ⟨bb, off + i * 4, none⟩ = some (.int .i64 c.a) := L1.out.elem 4 (fun _ => rfl) hc1 0 rfl
      have k1 : wr.cell? ⟨bb, off + i * 4 + 1, none⟩ = some (.int .i64 c.b) := L1.out.elem 4 (fun _ => rfl) hc1 1 rfl
      have k2 : wr.cell? ⟨bb, off + i * 4 + 2, none⟩ = some (.int .i64 c.c) := L1.out.elem 4 (fun _ => rfl) hc1 2 rfl
      have k3 : wr.cell? ⟨bb, off + i * 4 + 3, none⟩ = some (.int .i64 c.d) := L1.out.elem 4 (fun _ => rfl) hc1 3 rfl
      obtain ⟨g1, g2⟩ := HG.out i c hc1
      obtain ⟨ok1, ok2⟩ := HO.out c hc3
      obtain ⟨ca, cb, cc, cd'⟩ := c
      simp only at *
      clear hc1 hc2 hc3 HO HG L0
      have CT := Lib.hid (fun w => tends_any ca cb cc cd' w)
      have hw1 : IntKind.i64.wrap ((i : Int) + 1) = (i : Int) + 1 := by rw [IntKind.wrap_i64]; omega
      have ix0 : ∀ w : World, (Instr.index 59 (.agg #[.int .i64 ca, .int .i64 cb, .int .i64 cc, .int .i64 cd']) (.int .i64 0)).run Try.prog w = .ok (.agg #[.int .i64 ca, .int .i64 cb]) w := fun _ => by kernel_rfl
      have ix1 : ∀ w : World, (Instr.index 59 (.agg #[.int .i64 ca, .int .i64 cb, .int .i64 cc, .int .i64 cd']) (.int .i64 1)).run Try.prog w = .ok (.agg #[.int .i64 cc, .int .i64 cd']) w := fun _ => by kernel_rfl
      go_upto_region 5 with fail
      refine at_code (S := fun W => Blk W wr.heap.size [.int .i64 ca, .int .i64 cb, .int .i64 cc, .int .i64 cd'] ∧ Below wr.heap.size wr W) ⟨Blk.new _ _ _, cbelow_al (Below.refl _ _) _⟩ (fun W2 hW => ?_)
      obtain ⟨hN, hb⟩ := hW
      have B2 := Lib.hid (cbelow_on B1.out hb)
      have M2 := Lib.hid (M1.out.on hb)
      clear hb k0 k1 k2 k3 B1 M1 T1 P1 L1
      obtain ⟨c_0, c_1, c_2, c_3⟩ : _ ∧ _ ∧ _ ∧ _ := ⟨hN.1 0 _ rfl, hN.1 1 _ rfl, hN.1 2 _ rfl, hN.1 3 _ rfl⟩
      go_wp2_with fail
      refine (CT.out _).mono ?_
      rintro e w3 ⟨rfl, hb⟩
      have B3 := Lib.hid (cbelow_on B2.out hb)
      have M3 := Lib.hid (M2.out.on hb)
      clear hb c_0 c_1 c_2 c_3 hN CT B2 M2
      go_wp2_with fail
      refine wp_loop_rounds 3 ?_
      rw [rounds_succ]
      go_upto_region 8 with fail
      refine at_code (S := fun W => Blk W w3.heap.size [.int .i64 ca, .int .i64 cb] ∧ Below w3.heap.size w3 W) ⟨Blk.new _ _ _, cbelow_al (Below.refl _ _) _⟩ (fun V0 hW => ?_)
      obtain ⟨hN, hb⟩ := hW
      have B4 := Lib.hid (cbelow_on B3.out hb)
      have M4 := Lib.hid (M3.out.on hb)
      clear hb B3 M3
      have T4 := Lib.hid (T0.out.on B4.out)
      have X4 := Lib.hid hN
      obtain ⟨t_0, t_1, t_2⟩ : _ ∧ _ ∧ _ := ⟨T4.out.1 0 _ rfl, T4.out.1 1 _ rfl, T4.out.1 2 _ rfl⟩
      obtain ⟨x_0, x_1⟩ : _ ∧ _ := ⟨X4.out.1 0 _ rfl, X4.out.1 1 _ rfl⟩
      obtain ⟨q0, hq0⟩ : ∃ q, portE ps ca cb = q := ⟨_, rfl⟩
      have CQ := Lib.hid (CP.out ca cb)
      rw [hq0] at CQ
      have HQ0 := Lib.hid hq0
      clear hq0 hN
      go_wp2_with fail
      refine (CQ.out _ (P0.out.on B4.out)).mono ?_
      rintro e v0 ⟨rfl, hb⟩
      have BM := Lib.hid (cbelow_on B4.out hb)
      have M := Lib.hid (M4.out.on hb)
      have X5 := Lib.hid (X4.out.on hb)
      clear hb B4 M4 T4 X4 t_0 t_1 t_2 x_0 x_1 CQ
      obtain ⟨x_0, x_1⟩ : _ ∧ _ := ⟨X5.out.1 0 _ rfl, X5.out.1 1 _ rfl⟩
      by_cases y0 : q0 = 0
      · subst y0
        have hek : eOk (ca, cb) := ok1
        have hlk0 := mapS_lookup M.out hek
        by_cases hmem : (ca, cb) ∈ (E.take (2 * i))
        · have HZ : Hid (R = 12) := lnkE_in g1 hE1.out HQ0.out hmem
          rw [if_pos hmem] at hlk0
          unfold kv at hlk0
          go_wp2
          go_ret
          exact ⟨by rw [HZ.out]; rfl, cbelow_on BB.out BM.out⟩
        · rw [if_neg hmem] at hlk0
          unfold kv at hlk0
          have HZ : Hid (lnkE ps (E.take (2 * i + 1)) (E.drop (2 * i + 1)) = R) := lnkE_out g1 hE1.out HQ0.out hmem
          have hSlen : (E.take (2 * i)).length < 1000000 := by rw [List.length_take]; omega
          have htk : E.take (2 * i + 1) = (E.take (2 * i)) ++ [(ca, cb)] := take_at g1
          go_upto_region 13 with fail
          clear hlk0
          have hwo : IntKind.i64.wrap 1 = 1 := by rw [IntKind.wrap_i64]; omega
          refine wp_region_noPanic ?_
          refine wp_region_alongT (S := fun w' => ∀ b o, (v0.cell? ⟨b, o, none⟩).isSome = true → w'.cell? ⟨b, o, none⟩ = v0.cell? ⟨b, o, none⟩) (.pure 0 (.pure 1 (.b2 2 (.pure 3 (.b1 4 (.pure 5 (.b1 6 .done)))) 4 (.pure 5 (.b1 2 (.pure 3 (.b1 6 .done))))))) (by kernel_rfl) (by as_aux_lemma => kernel_rfl) (by decide) (by as_aux_lemma => kernel_rfl) (fun _ _ _ _ _ h => h) (fun _ _ _ => rfl) (fun hH => ?_)
          iterate 2 (refine T_pure ?_ (by rfl) (fun w hSw => ?_) ?_; rotate_left; ((try dsimp only at hSw); simp only [pickOp]; go_simp; try with_reducible rfl); try simp only [pickOp, Act.put, List.setIfInBounds_toArray, List.set_cons_zero, List.set_cons_succ])
          obtain ⟨wd, hwd⟩ : ∃ x, x = v0.drew := ⟨_, rfl⟩
          rw [← hwd] at hH ⊢
          have MD : MapS wd W0.heap.size (E.take (2 * i)) := by rw [hwd]; exact M.out.drew
          have cd : ∀ b o, (v0.cell? ⟨b, o, none⟩).isSome = true → wd.cell? ⟨b, o, none⟩ = v0.cell? ⟨b, o, none⟩ := by rw [hwd]; exact fun _ _ _ => rfl
          have BD : Below W0.heap.size W0 wd := by rw [hwd]; exact BM.out.drew
          clear hwd
          have hlk := mapS_lookup MD hek
          rw [if_neg hmem] at hlk
          obtain ⟨st, w1, w2, hme, hlk1, hes, MS, o1, o2⟩ := mapS_entry MD hek hmem hSlen
          obtain ⟨mes, mclk, mb, -⟩ := MD
          have s1 : ∀ b o, (v0.cell? ⟨b, o, none⟩).isSome = true → w1.cell? ⟨b, o, none⟩ = v0.cell? ⟨b, o, none⟩ := fun b o h => (o1.cell mb b o (by rw [cd b o h]; exact h)).trans (cd b o h)
          have s2 : ∀ b o, (v0.cell? ⟨b, o, none⟩).isSome = true → w2.cell? ⟨b, o, none⟩ = v0.cell? ⟨b, o, none⟩ := fun b o h => (o2.cell mb b o (by rw [cd b o h]; exact h)).trans (cd b o h)
          have B7 := Lib.hid (o2.below BD (Nat.le_refl _))
          have M7 := Lib.hid MS
          unfold kv at hlk hme hlk1
          clear MS o1 o2 mb BD
          refine T_b2 (fun K hK => ?_) (fun K hK => ?_)
          · simp only [pickOp]
            go_simp
            refine hK.out _ _ cd (fun hH' => ?_)
            clear hK K
            try simp only [pickOp, Act.put, List.setIfInBounds_toArray, List.set_cons_zero, List.set_cons_succ]
            refine T_pure ?_ (by rfl) (fun w hSw => ?_) ?_; rotate_left; ((try dsimp only at hSw); simp only [pickOp]; go_simp; try with_reducible rfl); try simp only [pickOp, Act.put, List.setIfInBounds_toArray, List.set_cons_zero, List.set_cons_succ]
            refine T_b1 (fun K hK => ?_)
            simp only [pickOp]
            go_simp
            refine hK.out _ _ s1 (fun hH' => ?_)
            clear hK K
            try simp only [pickOp, Act.put, List.setIfInBounds_toArray, List.set_cons_zero, List.set_cons_succ]
            refine T_pure ?_ (by rfl) (fun w hSw => ?_) ?_; rotate_left; ((try dsimp only at hSw); simp only [pickOp]; go_simp; try with_reducible rfl); try simp only [pickOp, Act.put, List.setIfInBounds_toArray, List.set_cons_zero, List.set_cons_succ]
            refine T_b1 (fun K hK => ?_)
            simp only [pickOp]
            go_simp
            refine hK.out _ _ s2 (fun hH' => ?_)
            clear hK K
            try simp only [pickOp, Act.put, List.setIfInBounds_toArray, List.set_cons_zero, List.set_cons_succ]
            refine T_done (NoPanic.normal ?_)
            clear hH' hlk hme hlk1 hes s1 s2 cd
            have M8 : Hid (MapS w2 W0.heap.size (E.take (2 * i + 1))) := by
              show MapS _ _ _
              rw [htk]; exact M7.out
            have B3 := B7
            have M3 := M8
            clear B7 M7 M8 htk hSlen M BM X5 hek hmem x_0 x_1
            go_wp2_with fail
            rw [rounds_succ]
            go_upto_region 8 with fail
            refine at_code (S := fun W => Blk W w2.heap.size [.int .i64 cc, .int .i64 cd'] ∧ Below w2.heap.size w2 W) ⟨Blk.new _ _ _, cbelow_al (Below.refl _ _) _⟩ (fun V1 hW => ?_)
            obtain ⟨hN, hb⟩ := hW
            have B4 := Lib.hid (cbelow_on B3.out hb)
            have M4 := Lib.hid (M3.out.on hb)
            clear hb B3 M3
            have T4 := Lib.hid (T0.out.on B4.out)
            have X4 := Lib.hid hN
            obtain ⟨t_0, t_1, t_2⟩ : _ ∧ _ ∧ _ := ⟨T4.out.1 0 _ rfl, T4.out.1 1 _ rfl, T4.out.1 2 _ rfl⟩
            obtain ⟨x_0, x_1⟩ : _ ∧ _ := ⟨X4.out.1 0 _ rfl, X4.out.1 1 _ rfl⟩
            obtain ⟨q1, hq1⟩ : ∃ q, portE ps cc cd' = q := ⟨_, rfl⟩
            have CQ := Lib.hid (CP.out cc cd')
            rw [hq1] at CQ
            have HQ1 := Lib.hid hq1
            clear hq1 hN
            go_wp2_with fail
            refine (CQ.out _ (P0.out.on B4.out)).mono ?_
            rintro e v1 ⟨rfl, hb⟩
            have BM := Lib.hid (cbelow_on B4.out hb)
            have M := Lib.hid (M4.out.on hb)
            have X5 := Lib.hid (X4.out.on hb)
            clear hb B4 M4 T4 X4 t_0 t_1 t_2 x_0 x_1 CQ
            obtain ⟨x_0, x_1⟩ : _ ∧ _ := ⟨X5.out.1 0 _ rfl, X5.out.1 1 _ rfl⟩
            by_cases y1 : q1 = 0
            · subst y1
              have hek : eOk (cc, cd') := ok2
              have hlk0 := mapS_lookup M.out hek
              by_cases hmem : (cc, cd') ∈ (E.take (2 * i + 1))
              · have HZ : Hid (R = 12) := lnkE_in g2 HZ.out HQ1.out hmem
                rw [if_pos hmem] at hlk0
                unfold kv at hlk0
                go_wp2
                go_ret
                exact ⟨by rw [HZ.out]; rfl, cbelow_on BB.out BM.out⟩
              · rw [if_neg hmem] at hlk0
                unfold kv at hlk0
                have HZ : Hid (lnkE ps (E.take (2 * i + 1 + 1)) (E.drop (2 * i + 1 + 1)) = R) := lnkE_out g2 HZ.out HQ1.out hmem
                have hSlen : (E.take (2 * i + 1)).length < 1000000 := by rw [List.length_take]; omega
                have htk : E.take (2 * i + 1 + 1) = (E.take (2 * i + 1)) ++ [(cc, cd')] := take_at g2
                go_upto_region 13 with fail
                clear hlk0
                have hwo : IntKind.i64.wrap 1 = 1 := by rw [IntKind.wrap_i64]; omega
                refine wp_region_noPanic ?_
                refine wp_region_alongT (S := fun w' => ∀ b o, (v1.cell? ⟨b, o, none⟩).isSome = true → w'.cell? ⟨b, o, none⟩ = v1.cell? ⟨b, o, none⟩) (.pure 0 (.pure 1 (.b2 2 (.pure 3 (.b1 4 (.pure 5 (.b1 6 .done)))) 4 (.pure 5 (.b1 2 (.pure 3 (.b1 6 .done))))))) (by kernel_rfl) (by as_aux_lemma => kernel_rfl) (by decide) (by as_aux_lemma => kernel_rfl) (fun _ _ _ _ _ h => h) (fun _ _ _ => rfl) (fun hH => ?_)
                iterate 2 (refine T_pure ?_ (by rfl) (fun w hSw => ?_) ?_; rotate_left; ((try dsimp only at hSw); simp only [pickOp]; go_simp; try with_reducible rfl); try simp only [pickOp, Act.put, List.setIfInBounds_toArray, List.set_cons_zero, List.set_cons_succ])
                obtain ⟨wd, hwd⟩ : ∃ x, x = v1.drew := ⟨_, rfl⟩
                rw [← hwd] at hH ⊢
                have MD : MapS wd W0.heap.size (E.take (2 * i + 1)) := by rw [hwd]; exact M.out.drew
                have cd : ∀ b o, (v1.cell? ⟨b, o, none⟩).isSome = true → wd.cell? ⟨b, o, none⟩ = v1.cell? ⟨b, o, none⟩ := by rw [hwd]; exact fun _ _ _ => rfl
                have BD : Below W0.heap.size W0 wd := by rw [hwd]; exact BM.out.drew
                clear hwd
                have hlk := mapS_lookup MD hek
                rw [if_neg hmem] at hlk
                obtain ⟨st, w1, w2, hme, hlk1, hes, MS, o1, o2⟩ := mapS_entry MD hek hmem hSlen
                obtain ⟨mes, mclk, mb, -⟩ := MD
                have s1 : ∀ b o, (v1.cell? ⟨b, o, none⟩).isSome = true → w1.cell? ⟨b, o, none⟩ = v1.cell? ⟨b, o, none⟩ := fun b o h => (o1.cell mb b o (by rw [cd b o h]; exact h)).trans (cd b o h)
                have s2 : ∀ b o, (v1.cell? ⟨b, o, none⟩).isSome = true → w2.cell? ⟨b, o, none⟩ = v1.cell? ⟨b, o, none⟩ := fun b o h => (o2.cell mb b o (by rw [cd b o h]; exact h)).trans (cd b o h)
                have B7 := Lib.hid (o2.below BD (Nat.le_refl _))
                have M7 := Lib.hid MS
                unfold kv at hlk hme hlk1
                clear MS o1 o2 mb BD
                refine T_b2 (fun K hK => ?_) (fun K hK => ?_)
                · simp only [pickOp]
                  go_simp
                  refine hK.out _ _ cd (fun hH' => ?_)
                  clear hK K
                  try simp only [pickOp, Act.put, List.setIfInBounds_toArray, List.set_cons_zero, List.set_cons_succ]
                  refine T_pure ?_ (by rfl) (fun w hSw => ?_) ?_; rotate_left; ((try dsimp only at hSw); simp only [pickOp]; go_simp; try with_reducible rfl); try simp only [pickOp, Act.put, List.setIfInBounds_toArray, List.set_cons_zero, List.set_cons_succ]
                  refine T_b1 (fun K hK => ?_)
                  simp only [pickOp]
                  go_simp
                  refine hK.out _ _ s1 (fun hH' => ?_)
                  clear hK K
                  try simp only [pickOp, Act.put, List.setIfInBounds_toArray, List.set_cons_zero, List.set_cons_succ]
                  refine T_pure ?_ (by rfl) (fun w hSw => ?_) ?_; rotate_left; ((try dsimp only at hSw); simp only [pickOp]; go_simp; try with_reducible rfl); try simp only [pickOp, Act.put, List.setIfInBounds_toArray, List.set_cons_zero, List.set_cons_succ]
                  refine T_b1 (fun K hK => ?_)
                  simp only [pickOp]
                  go_simp
                  refine hK.out _ _ s2 (fun hH' => ?_)
                  clear hK K
                  try simp only [pickOp, Act.put, List.setIfInBounds_toArray, List.set_cons_zero, List.set_cons_succ]
                  refine T_done (NoPanic.normal ?_)
                  clear hH' hlk hme hlk1 hes s1 s2 cd
                  have M8 : Hid (MapS w2 W0.heap.size (E.take (2 * (i + 1)))) := by
                    show MapS _ _ _
                    rw [show 2 * (i + 1) = 2 * i + 1 + 1 by omega, htk]; exact M7.out
                  have HZ2 : Hid (lnkE ps (E.take (2 * (i + 1))) (E.drop (2 * (i + 1))) = R) := HZ
                  go_wp2_with fail
                  rw [rounds_succ]
                  go_wp2
                  refine ⟨?_, ?_⟩
                  · first | exact ⟨i + 1, by go_num, by omega, HZ2, B7, M8⟩ | ((repeat apply Exists.intro); exact ⟨⟨i + 1, by go_num, by omega, HZ2, B7, M8⟩, rfl⟩)
                  · simp [intOf]; omega
                · simp only [pickOp]
                  go_simp
                  refine hK.out _ _ s1 (fun hH' => ?_)
                  clear hK K
                  try simp only [pickOp, Act.put, List.setIfInBounds_toArray, List.set_cons_zero, List.set_cons_succ]
                  refine T_pure ?_ (by rfl) (fun w hSw => ?_) ?_; rotate_left; ((try dsimp only at hSw); simp only [pickOp]; go_simp; try with_reducible rfl); try simp only [pickOp, Act.put, List.setIfInBounds_toArray, List.set_cons_zero, List.set_cons_succ]
                  refine T_b1 (fun K hK => ?_)
                  simp only [pickOp]
                  go_simp
                  refine hK.out _ _ s1 (fun hH' => ?_)
                  clear hK K
                  try simp only [pickOp, Act.put, List.setIfInBounds_toArray, List.set_cons_zero, List.set_cons_succ]
                  refine T_pure ?_ (by rfl) (fun w hSw => ?_) ?_; rotate_left; ((try dsimp only at hSw); simp only [pickOp]; go_simp; try with_reducible rfl); try simp only [pickOp, Act.put, List.setIfInBounds_toArray, List.set_cons_zero, List.set_cons_succ]
                  refine T_b1 (fun K hK => ?_)
                  simp only [pickOp]
                  go_simp
                  refine hK.out _ _ s2 (fun hH' => ?_)
                  clear hK K
                  try simp only [pickOp, Act.put, List.setIfInBounds_toArray, List.set_cons_zero, List.set_cons_succ]
                  refine T_done (NoPanic.normal ?_)
                  clear hH' hlk hme hlk1 hes s1 s2 cd
                  have M8 : Hid (MapS w2 W0.heap.size (E.take (2 * (i + 1)))) := by
                    show MapS _ _ _
                    rw [show 2 * (i + 1) = 2 * i + 1 + 1 by omega, htk]; exact M7.out
                  have HZ2 : Hid (lnkE ps (E.take (2 * (i + 1))) (E.drop (2 * (i + 1))) = R) := HZ
                  go_wp2_with fail
                  rw [rounds_succ]
                  go_wp2
                  refine ⟨?_, ?_⟩
                  · first | exact ⟨i + 1, by go_num, by omega, HZ2, B7, M8⟩ | ((repeat apply Exists.intro); exact ⟨⟨i + 1, by go_num, by omega, HZ2, B7, M8⟩, rfl⟩)
                  · simp [intOf]; omega
            · have HZ : Hid (R = q1) := by
                show _ = _
                have k := lnkE_port g2 HZ.out (by show portE ps cc cd' ≠ 0; rw [HQ1.out]; exact y1)
                rw [k]; exact HQ1.out
              have y1' : (q1 != 0) = true := by simp; exact y1
              go_wp2
              go_ret
              exact ⟨by rw [HZ.out]; rfl, cbelow_on BB.out BM.out⟩
          · simp only [pickOp]
            go_simp
            refine hK.out _ _ s1 (fun hH' => ?_)
            clear hK K
            try simp only [pickOp, Act.put, List.setIfInBounds_toArray, List.set_cons_zero, List.set_cons_succ]
            refine T_pure ?_ (by rfl) (fun w hSw => ?_) ?_; rotate_left; ((try dsimp only at hSw); simp only [pickOp]; go_simp; try with_reducible rfl); try simp only [pickOp, Act.put, List.setIfInBounds_toArray, List.set_cons_zero, List.set_cons_succ]
            refine T_b1 (fun K hK => ?_)
            simp only [pickOp]
            go_simp
            refine hK.out _ _ s1 (fun hH' => ?_)
            clear hK K
            try simp only [pickOp, Act.put, List.setIfInBounds_toArray, List.set_cons_zero, List.set_cons_succ]
            refine T_pure ?_ (by rfl) (fun w hSw => ?_) ?_; rotate_left; ((try dsimp only at hSw); simp only [pickOp]; go_simp; try with_reducible rfl); try simp only [pickOp, Act.put, List.setIfInBounds_toArray, List.set_cons_zero, List.set_cons_succ]
            refine T_b1 (fun K hK => ?_)
            simp only [pickOp]
            go_simp
            refine hK.out _ _ s2 (fun hH' => ?_)
            clear hK K
            try simp only [pickOp, Act.put, List.setIfInBounds_toArray, List.set_cons_zero, List.set_cons_succ]
            refine T_done (NoPanic.normal ?_)
            clear hH' hlk hme hlk1 hes s1 s2 cd
            have M8 : Hid (MapS w2 W0.heap.size (E.take (2 * i + 1))) := by
              show MapS _ _ _
              rw [htk]; exact M7.out
            have B3 := B7
            have M3 := M8
            clear B7 M7 M8 htk hSlen M BM X5 hek hmem x_0 x_1
            go_wp2_with fail
            rw [rounds_succ]
            go_upto_region 8 with fail
            refine at_code (S := fun W => Blk W w2.heap.size [.int .i64 cc, .int .i64 cd'] ∧ Below w2.heap.size w2 W) ⟨Blk.new _ _ _, cbelow_al (Below.refl _ _) _⟩ (fun V1 hW => ?_)
            obtain ⟨hN, hb⟩ := hW
            have B4 := Lib.hid (cbelow_on B3.out hb)
            have M4 := Lib.hid (M3.out.on hb)
            clear hb B3 M3
            have T4 := Lib.hid (T0.out.on B4.out)
            have X4 := Lib.hid hN
            obtain ⟨t_0, t_1, t_2⟩ : _ ∧ _ ∧ _ := ⟨T4.out.1 0 _ rfl, T4.out.1 1 _ rfl, T4.out.1 2 _ rfl⟩
            obtain ⟨x_0, x_1⟩ : _ ∧ _ := ⟨X4.out.1 0 _ rfl, X4.out.1 1 _ rfl⟩
            obtain ⟨q1, hq1⟩ : ∃ q, portE ps cc cd' = q := ⟨_, rfl⟩
            have CQ := Lib.hid (CP.out cc cd')
            rw [hq1] at CQ
            have HQ1 := Lib.hid hq1
            clear hq1 hN
            go_wp2_with fail
            refine (CQ.out _ (P0.out.on B4.out)).mono ?_
            rintro e v1 ⟨rfl, hb⟩
            have BM := Lib.hid (cbelow_on B4.out hb)
            have M := Lib.hid (M4.out.on hb)
            have X5 := Lib.hid (X4.out.on hb)
            clear hb B4 M4 T4 X4 t_0 t_1 t_2 x_0 x_1 CQ
            obtain ⟨x_0, x_1⟩ : _ ∧ _ := ⟨X5.out.1 0 _ rfl, X5.out.1 1 _ rfl⟩
            by_cases y1 : q1 = 0
            · subst y1
              have hek : eOk (cc, cd') := ok2
              have hlk0 := mapS_lookup M.out hek
              by_cases hmem : (cc, cd') ∈ (E.take (2 * i + 1))
              · have HZ : Hid (R = 12) := lnkE_in g2 HZ.out HQ1.out hmem
                rw [if_pos hmem] at hlk0
                unfold kv at hlk0
                go_wp2
                go_ret
                exact ⟨by rw [HZ.out]; rfl, cbelow_on BB.out BM.out⟩
              · rw [if_neg hmem] at hlk0
                unfold kv at hlk0
                have HZ : Hid (lnkE ps (E.take (2 * i + 1 + 1)) (E.drop (2 * i + 1 + 1)) = R) := lnkE_out g2 HZ.out HQ1.out hmem
                have hSlen : (E.take (2 * i + 1)).length < 1000000 := by rw [List.length_take]; omega
                have htk : E.take (2 * i + 1 + 1) = (E.take (2 * i + 1)) ++ [(cc, cd')] := take_at g2
                go_upto_region 13 with fail
                clear hlk0
                have hwo : IntKind.i64.wrap 1 = 1 := by rw [IntKind.wrap_i64]; omega
                refine wp_region_noPanic ?_
                refine wp_region_alongT (S := fun w' => ∀ b o, (v1.cell? ⟨b, o, none⟩).isSome = true → w'.cell? ⟨b, o, none⟩ = v1.cell? ⟨b, o, none⟩) (.pure 0 (.pure 1 (.b2 2 (.pure 3 (.b1 4 (.pure 5 (.b1 6 .done)))) 4 (.pure 5 (.b1 2 (.pure 3 (.b1 6 .done))))))) (by kernel_rfl) (by as_aux_lemma => kernel_rfl) (by decide) (by as_aux_lemma => kernel_rfl) (fun _ _ _ _ _ h => h) (fun _ _ _ => rfl) (fun hH => ?_)
                iterate 2 (refine T_pure ?_ (by rfl) (fun w hSw => ?_) ?_; rotate_left; ((try dsimp only at hSw); simp only [pickOp]; go_simp; try with_reducible rfl); try simp only [pickOp, Act.put, List.setIfInBounds_toArray, List.set_cons_zero, List.set_cons_succ])
                obtain ⟨wd, hwd⟩ : ∃ x, x = v1.drew := ⟨_, rfl⟩
                rw [← hwd] at hH ⊢
                have MD : MapS wd W0.heap.size (E.take (2 * i + 1)) := by rw [hwd]; exact M.out.drew
                have cd : ∀ b o, (v1.cell? ⟨b, o, none⟩).isSome = true → wd.cell? ⟨b, o, none⟩ = v1.cell? ⟨b, o, none⟩ := by rw [hwd]; exact fun _ _ _ => rfl
                have BD : Below W0.heap.size W0 wd := by rw [hwd]; exact BM.out.drew
                clear hwd
                have hlk := mapS_lookup MD hek
                rw [if_neg hmem] at hlk
                obtain ⟨st, w1, w2, hme, hlk1, hes, MS, o1, o2⟩ := mapS_entry MD hek hmem hSlen
                obtain ⟨mes, mclk, mb, -⟩ := MD
                have s1 : ∀ b o, (v1.cell? ⟨b, o, none⟩).isSome = true → w1.cell? ⟨b, o, none⟩ = v1.cell? ⟨b, o, none⟩ := fun b o h => (o1.cell mb b o (by rw [cd b o h]; exact h)).trans (cd b o h)
                have s2 : ∀ b o, (v1.cell? ⟨b, o, none⟩).isSome = true → w2.cell? ⟨b, o, none⟩ = v1.cell? ⟨b, o, none⟩ := fun b o h => (o2.cell mb b o (by rw [cd b o h]; exact h)).trans (cd b o h)
                have B7 := Lib.hid (o2.below BD (Nat.le_refl _))
                have M7 := Lib.hid MS
                unfold kv at hlk hme hlk1
                clear MS o1 o2 mb BD
                refine T_b2 (fun K hK => ?_) (fun K hK => ?_)
                · simp only [pickOp]
                  go_simp
                  refine hK.out _ _ cd (fun hH' => ?_)
                  clear hK K
                  try simp only [pickOp, Act.put, List.setIfInBounds_toArray, List.set_cons_zero, List.set_cons_succ]
                  refine T_pure ?_ (by rfl) (fun w hSw => ?_) ?_; rotate_left; ((try dsimp only at hSw); simp only [pickOp]; go_simp; try with_reducible rfl); try simp only [pickOp, Act.put, List.setIfInBounds_toArray, List.set_cons_zero, List.set_cons_succ]
                  refine T_b1 (fun K hK => ?_)
                  simp only [pickOp]
                  go_simp
                  refine hK.out _ _ s1 (fun hH' => ?_)
                  clear hK K
                  try simp only [pickOp, Act.put, List.setIfInBounds_toArray, List.set_cons_zero, List.set_cons_succ]
                  refine T_pure ?_ (by rfl) (fun w hSw => ?_) ?_; rotate_left; ((try dsimp only at hSw); simp only [pickOp]; go_simp; try with_reducible rfl); try simp only [pickOp, Act.put, List.setIfInBounds_toArray, List.set_cons_zero, List.set_cons_succ]
                  refine T_b1 (fun K hK => ?_)
                  simp only [pickOp]
                  go_simp
                  refine hK.out _ _ s2 (fun hH' => ?_)
                  clear hK K
                  try simp only [pickOp, Act.put, List.setIfInBounds_toArray, List.set_cons_zero, List.set_cons_succ]
                  refine T_done (NoPanic.normal ?_)
                  clear hH' hlk hme hlk1 hes s1 s2 cd
                  have M8 : Hid (MapS w2 W0.heap.size (E.take (2 * (i + 1)))) := by
                    show MapS _ _ _
                    rw [show 2 * (i + 1) = 2 * i + 1 + 1 by omega, htk]; exact M7.out
                  have HZ2 : Hid (lnkE ps (E.take (2 * (i + 1))) (E.drop (2 * (i + 1))) = R) := HZ
                  go_wp2_with fail
                  rw [rounds_succ]
                  go_wp2
                  refine ⟨?_, ?_⟩
                  · first | exact ⟨i + 1, by go_num, by omega, HZ2, B7, M8⟩ | ((repeat apply Exists.intro); exact ⟨⟨i + 1, by go_num, by omega, HZ2, B7, M8⟩, rfl⟩)
                  · simp [intOf]; omega
                · simp only [pickOp]
                  go_simp
                  refine hK.out _ _ s1 (fun hH' => ?_)
                  clear hK K
                  try simp only [pickOp, Act.put, List.setIfInBounds_toArray, List.set_cons_zero, List.set_cons_succ]
                  refine T_pure ?_ (by rfl) (fun w hSw => ?_) ?_; rotate_left; ((try dsimp only at hSw); simp only [pickOp]; go_simp; try with_reducible rfl); try simp only [pickOp, Act.put, List.setIfInBounds_toArray, List.set_cons_zero, List.set_cons_succ]
                  refine T_b1 (fun K hK => ?_)
                  simp only [pickOp]
                  go_simp
                  refine hK.out _ _ s1 (fun hH' => ?_)
                  clear hK K
                  try simp only [pickOp, Act.put, List.setIfInBounds_toArray, List.set_cons_zero, List.set_cons_succ]
                  refine T_pure ?_ (by rfl) (fun w hSw => ?_) ?_; rotate_left; ((try dsimp only at hSw); simp only [pickOp]; go_simp; try with_reducible rfl); try simp only [pickOp, Act.put, List.setIfInBounds_toArray, List.set_cons_zero, List.set_cons_succ]
                  refine T_b1 (fun K hK => ?_)
                  simp only [pickOp]
                  go_simp
                  refine hK.out _ _ s2 (fun hH' => ?_)
                  clear hK K
                  try simp only [pickOp, Act.put, List.setIfInBounds_toArray, List.set_cons_zero, List.set_cons_succ]
                  refine T_done (NoPanic.normal ?_)
                  clear hH' hlk hme hlk1 hes s1 s2 cd
                  have M8 : Hid (MapS w2 W0.heap.size (E.take (2 * (i + 1)))) := by
                    show MapS _ _ _
                    rw [show 2 * (i + 1) = 2 * i + 1 + 1 by omega, htk]; exact M7.out
                  have HZ2 : Hid (lnkE ps (E.take (2 * (i + 1))) (E.drop (2 * (i + 1))) = R) := HZ
                  go_wp2_with fail
                  rw [rounds_succ]
                  go_wp2
                  refine ⟨?_, ?_⟩
                  · first | exact ⟨i + 1, by go_num, by omega, HZ2, B7, M8⟩ | ((repeat apply Exists.intro); exact ⟨⟨i + 1, by go_num, by omega, HZ2, B7, M8⟩, rfl⟩)
                  · simp [intOf]; omega
            · have HZ : Hid (R = q1) := by
                show _ = _
                have k := lnkE_port g2 HZ.out (by show portE ps cc cd' ≠ 0; rw [HQ1.out]; exact y1)
                rw [k]; exact HQ1.out
              have y1' : (q1 != 0) = true := by simp; exact y1
              go_wp2
              go_ret
              exact ⟨by rw [HZ.out]; rfl, cbelow_on BB.out BM.out⟩
      · have HZ : Hid (R = q0) := by
          show _ = _
          have k := lnkE_port g1 hE1.out (by show portE ps ca cb ≠ 0; rw [HQ0.out]; exact y0)
          rw [k]; exact HQ0.out
        have y0' : (q0 != 0) = true := by simp; exact y0
        go_wp2
        go_ret
        exact ⟨by rw [HZ.out]; rfl, cbelow_on BB.out BM.out⟩
    · obtain rfl : i = nl := by omega
      have HZ : Hid (R = 0) := by
        show _ = _
        rw [← hE1.out, List.drop_eq_nil_of_le (by rw [hel.out]; omega)]; rfl
      go_wp2
      go_ret
      exact ⟨by rw [HZ.out]; rfl, cbelow_on BB.out B1.out⟩
end Go.Proofs.Ytoiopjdbmaffeaa
