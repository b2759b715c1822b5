/- What the document says is wrong with a topology. -/
import Derived.Test.YtoiopjdbmaffeaaT3
import Derived.Test.YtoiopjdbmaffeaaFK
import Derived.Test.YtoiopjdbmaffeaaAlong2
namespace Go.Proofs.Ytoiopjdbmaffeaa
open Go.RowKit
set_option linter.unusedVariables false

theorem lnkE_step {ps : List Int} {E : List (Int × Int)} {i : Nat} {e : Int × Int} {R : Int} (he : E[i]? = some e) (h : lnkE ps (E.take i) (E.drop i) = R) (hp : portE ps e.1 e.2 = 0) (hne : ∀ j, j < i → E[j]? ≠ E[i]?) : lnkE ps (E.take (i + 1)) (E.drop (i + 1)) = R := by
  have hi : i < E.length := by
    rcases Nat.lt_or_ge i E.length with q | q
    · exact q
    · rw [List.getElem?_eq_none q] at he; cases he
  have hd : E.drop i = e :: E.drop (i + 1) := by
    obtain ⟨x, h1, h2, -⟩ := drop_at hi
    rw [he] at h1; cases h1; exact h2
  rw [hd, lnkE, if_neg (by omega), if_neg (fun hm => ?_)] at h
  · rw [take_at he]; exact h
  · obtain ⟨j, hj, e1⟩ := List.getElem_of_mem hm
    rw [List.length_take] at hj
    rw [List.getElem_take] at e1
    exact hne j (by omega) (by rw [he, ← e1]; exact List.getElem?_eq_getElem (by omega))
theorem lnkE_port {ps : List Int} {E : List (Int × Int)} {i : Nat} {e : Int × Int} {R : Int} (he : E[i]? = some e) (h : lnkE ps (E.take i) (E.drop i) = R) (hp : portE ps e.1 e.2 ≠ 0) : R = portE ps e.1 e.2 := by
  have hi : i < E.length := by
    rcases Nat.lt_or_ge i E.length with q | q
    · exact q
    · rw [List.getElem?_eq_none q] at he; cases he
  have hd : E.drop i = e :: E.drop (i + 1) := by
    obtain ⟨x, h1, h2, -⟩ := drop_at hi
    rw [he] at h1; cases h1; exact h2
  rw [hd, lnkE, if_pos hp] at h; exact h.symm
theorem lnkE_twice {ps : List Int} {E : List (Int × Int)} {i k : Nat} {e : Int × Int} {R : Int} (he : E[i]? = some e) (h : lnkE ps (E.take i) (E.drop i) = R) (hp : portE ps e.1 e.2 = 0) (hk : k < i) (hek : E[k]? = some e) : R = 12 := by
  have hi : i < E.length := by
    rcases Nat.lt_or_ge i E.length with q | q
    · exact q
    · rw [List.getElem?_eq_none q] at he; cases he
  have hd : E.drop i = e :: E.drop (i + 1) := by
    obtain ⟨x, h1, h2, -⟩ := drop_at hi
    rw [he] at h1; cases h1; exact h2
  rw [hd, lnkE, if_neg (by omega), if_pos ?_] at h
  · exact h.symm
  · refine List.mem_of_getElem? (i := k) ?_
    rw [List.getElem?_take, if_pos hk]; exact hek
set_option maxRecDepth 100000 in
set_option maxHeartbeats 8000000 in
theorem rcheck_any (ps : List Int) (ls : List Lk) (es : List Ac) (pa : Option Addr) (pc : Nat) (la : Option Addr) (lc : Nat) (aa : Option Addr) (ac : Nat) (w : World) (hok : ∀ c ∈ es, c.Ok) (hp : Rw w pa (ints ps)) (hl : Rw w la (ls.flatMap Lk.cells)) (he : Rw w aa (es.flatMap Ac.cells))
    (hlp : ps.length < 1000000) (hll : ls.length < 1000000) (hle : es.length < 1000000) :
    Calls Try.prog 5 #[tv pa ps.length pc la ls.length lc aa es.length ac] w fun e w' => e = .returned (.int .i64 (TP.chk ⟨ps, ls, es⟩)) ∧ Below w.heap.size w w' := by
  obtain ⟨R, hR⟩ : ∃ R, TP.chk ⟨ps, ls, es⟩ = R := ⟨_, rfl⟩
  rw [hR]
  unfold TP.chk at hR
  simp only at hR
  obtain ⟨W0, hW0⟩ : ∃ W0, w.alloc (Obj.cells (tc pa ps.length pc la ls.length lc aa es.length ac).toArray 26) = W0 := ⟨_, rfl⟩
  have hb0 : Below w.heap.size w W0 := by rw [← hW0]; exact cbelow_al (Below.refl _ _) _
  have T0 := Lib.hid (show Blk W0 w.heap.size (tc pa ps.length pc la ls.length lc aa es.length ac) by rw [← hW0]; exact Blk.new _ _ _)
  have P0 := Lib.hid (hp.on hb0)
  have L0 := Lib.hid (hl.on hb0)
  have E0 := Lib.hid (he.on hb0)
  have BB := Lib.hid hb0
  have HR := Lib.hid hR
  have HO := Lib.hid hok
  clear hb0 hR hp hl he hok
  have CP := Lib.hid (fun d p w hr => rport_any ps pa pc la ls.length lc aa es.length ac d p w hr)
  have CE := Lib.hid (fun w hr => rends_any ls pa ps.length pc la lc aa es.length ac w hr hll)
  unfold tc at *
  unfold tv at *
  obtain ⟨na, hna⟩ : ∃ n, es.length = n := ⟨_, rfl⟩
  obtain ⟨nl, hnl⟩ : ∃ n, ls.length = n := ⟨_, rfl⟩
  obtain ⟨np, hnp⟩ : ∃ n, ps.length = n := ⟨_, rfl⟩
  rw [hna] at T0 hW0 CP CE HR hle ⊢
  rw [hnl] at T0 hW0 CP CE hll ⊢
  rw [hnp] at T0 hW0 CP CE HR hlp ⊢
  by_cases a1 : np < 1
  · have a1' : decide ((np : Int) < 1) = true := decide_eq_true (by omega)
    have HQ : Hid (R = 15) := by show _ = _; rw [← HR.out, if_pos (Or.inl a1)]
    go_enter Try.func5, Try.ntmps5
    go_upto_region 1 with fail
    clear hW0
    obtain ⟨t_0, t_1, t_2⟩ : _ ∧ _ ∧ _ := ⟨T0.out.1 0 _ rfl, T0.out.1 1 _ rfl, T0.out.1 2 _ rfl⟩
    go_wp2
    go_ret
    exact ⟨by rw [HQ.out]; rfl, BB.out⟩
  · have a1' : decide ((np : Int) < 1) = false := decide_eq_false (by omega)
    by_cases a2 : 16 < np
    · have a2' : decide (16 < (np : Int)) = true := decide_eq_true (by omega)
      have HQ : Hid (R = 15) := by show _ = _; rw [← HR.out, if_pos (Or.inr (Or.inl a2))]
      go_enter Try.func5, Try.ntmps5
      go_upto_region 1 with fail
      clear hW0
      obtain ⟨t_0, t_1, t_2⟩ : _ ∧ _ ∧ _ := ⟨T0.out.1 0 _ rfl, T0.out.1 1 _ rfl, T0.out.1 2 _ rfl⟩
      go_wp2
      go_ret
      exact ⟨by rw [HQ.out]; rfl, BB.out⟩
    · have a2' : decide (16 < (np : Int)) = false := decide_eq_false (by omega)
      by_cases a3 : 32 < na
      · have a3' : decide (32 < (na : Int)) = true := decide_eq_true (by omega)
        have HQ : Hid (R = 15) := by show _ = _; rw [← HR.out, if_pos (Or.inr (Or.inr a3))]
        go_enter Try.func5, Try.ntmps5
        go_upto_region 1 with fail
        clear hW0
        obtain ⟨t_0, t_1, t_2⟩ : _ ∧ _ ∧ _ := ⟨T0.out.1 0 _ rfl, T0.out.1 1 _ rfl, T0.out.1 2 _ rfl⟩
        go_wp2
        go_ret
        exact ⟨by rw [HQ.out]; rfl, BB.out⟩
      · have a3' : decide (32 < (na : Int)) = false := decide_eq_false (by omega)
        have HR1 : Hid ((if cntE ps ≠ 0 then cntE ps else if lnkE ps [] (ends ls) ≠ 0 then lnkE ps [] (ends ls) else entE ps es) = R) := by
          have k := HR.out
          rw [if_neg (by omega)] at k
          exact k
        clear HR
        go_enter Try.func5, Try.ntmps5
        go_upto_region 1 with fail
        clear hW0
        obtain ⟨t_0, t_1, t_2⟩ : _ ∧ _ ∧ _ := ⟨T0.out.1 0 _ rfl, T0.out.1 1 _ rfl, T0.out.1 2 _ rfl⟩
        go_wp2_with fail
        clear t_0 t_1 t_2
        go_loopw [3] (fun iv wr => ∃ i : Nat, iv = .int .i64 i ∧ i ≤ np ∧ Hid (cntE (ps.drop i) = cntE ps) ∧ Hid (Below W0.heap.size W0 wr)) (fun iv _ => np - (intOf iv).toNat)
        case atStart => exact ⟨0, rfl, Nat.zero_le _, Lib.hid rfl, Lib.hid (Below.refl _ _)⟩
        case round =>
          obtain ⟨i, rfl, hi, hE1, B1⟩ := hrel
          have T1 := Lib.hid (T0.out.on B1.out)
          have P1 := Lib.hid (P0.out.on B1.out)
          have L1 := Lib.hid (L0.out.on B1.out)
          have E1 := Lib.hid (E0.out.on B1.out)
          clear T0 P0 L0 E0
          obtain ⟨t_0, t_1, t_2⟩ : _ ∧ _ ∧ _ := ⟨T1.out.1 0 _ rfl, T1.out.1 1 _ rfl, T1.out.1 2 _ rfl⟩
          by_cases hlt : i < np
          · have hg := ints_get (l := ps) (k := i) (by omega)
            obtain ⟨bb, off, rfl, -⟩ := P1.out i _ hg
            have k0 := P1.out.cell hg
            obtain ⟨x, hx1, hx2, -⟩ := drop_at (l := ps) (i := i) (by omega)
            have hx : ps.getD i 0 = x := by rw [List.getD_eq_getElem?_getD, hx1]; rfl
            rw [hx] at k0
            have HX : Hid ((if x < 0 ∨ 8 < x then 11 else cntE (ps.drop (i + 1))) = cntE ps) := by show _ = _; rw [← hE1.out, hx2]; rfl
            clear hg hx hx1 hx2
            have hw1 : IntKind.i64.wrap ((i : Int) + 1) = (i : Int) + 1 := by rw [IntKind.wrap_i64]; omega
            by_cases z1 : x < 0
            · have z1' : decide (x < 0) = true := decide_eq_true z1
              have HQ : Hid (R = 11) := by
                show _ = _
                rw [if_pos (Or.inl z1)] at HX
                rw [← HR1.out, ← HX.out, if_pos (by omega)]
              go_wp2
              go_ret
              exact ⟨by rw [HQ.out]; rfl, cbelow_on BB.out B1.out⟩
            · have z1' : decide (x < 0) = false := decide_eq_false z1
              by_cases z2 : 8 < x
              · have z2' : decide (8 < x) = true := decide_eq_true z2
                have HQ : Hid (R = 11) := by
                  show _ = _
                  rw [if_pos (Or.inr z2)] at HX
                  rw [← HR1.out, ← HX.out, if_pos (by omega)]
                go_wp2
                go_ret
                exact ⟨by rw [HQ.out]; rfl, cbelow_on BB.out B1.out⟩
              · have z2' : decide (8 < x) = false := decide_eq_false z2
                rw [if_neg (by omega)] at HX
                go_wp2
                refine ⟨⟨i + 1, by go_num, by omega, HX, B1⟩, ?_⟩
                simp [intOf]; omega
          · obtain rfl : i = np := by omega
            have HR2 : Hid ((if lnkE ps [] (ends ls) ≠ 0 then lnkE ps [] (ends ls) else entE ps es) = R) := by
              show _ = _
              have k : cntE ps = 0 := by rw [← hE1.out, List.drop_eq_nil_of_le (by omega)]; rfl
              have k2 := HR1.out
              rw [if_neg (by omega)] at k2
              exact k2
            clear HR1 hE1
            go_wp2_with fail
            refine (CE.out _ L1.out).mono ?_
            rintro e W1 ⟨a, cap, rfl, hD, hb⟩
            have BB2 := Lib.hid (cbelow_on (cbelow_on BB.out B1.out) hb)
            have T9 := Lib.hid (T1.out.on hb)
            have P9 := Lib.hid (P1.out.on hb)
            have E9 := Lib.hid (E1.out.on hb)
            have D1 := Lib.hid hD
            clear hb hD T1 P1 L1 E1 CE t_0 t_1 t_2 B1 BB
            have T1 := T9
            have P1 := P9
            have E1 := E9
            clear T9 P9 E9
            have hN := ends_len ls
            generalize ends ls = E at *
            obtain ⟨N, hNN⟩ : ∃ N, E.length = N := ⟨_, rfl⟩
            rw [hNN] at hN ⊢
            have hN2 := Lib.hid hN
            have hN3 : N < 2000000 := by omega
            clear hN
            go_wp2_with fail
            go_loopw [5] (fun iv wr => ∃ i : Nat, iv = .int .i64 i ∧ i ≤ N ∧ Hid (lnkE ps (E.take i) (E.drop i) = lnkE ps [] E) ∧ Hid (Below W1.heap.size W1 wr)) (fun iv _ => N - (intOf iv).toNat)
            case atStart => exact ⟨0, rfl, Nat.zero_le _, Lib.hid rfl, Lib.hid (Below.refl _ _)⟩
            case round =>
              obtain ⟨i, rfl, hi, hE1, B3⟩ := hrel
              have T3 := Lib.hid (T1.out.on B3.out)
              have P3 := Lib.hid (P1.out.on B3.out)
              have E3 := Lib.hid (E1.out.on B3.out)
              have D3 := Lib.hid (D1.out.on B3.out)
              clear T1 P1 E1 D1
              obtain ⟨t_0, t_1, t_2⟩ : _ ∧ _ ∧ _ := ⟨T3.out.1 0 _ rfl, T3.out.1 1 _ rfl, T3.out.1 2 _ rfl⟩
              by_cases hlt : i < N
              · obtain ⟨e, hc1, -, -⟩ := drop_at (l := E) (i := i) (by omega)
                obtain ⟨bb, off, rfl⟩ := D3.out.elemAd 1 (fun _ => rfl) hc1
                have k0 : wr.cell? ⟨bb, off + i * 2, none⟩ = some (.int .i64 e.1) := D3.out.elem 2 (fun _ => rfl) hc1 0 rfl
                have k1 : wr.cell? ⟨bb, off + i * 2 + 1, none⟩ = some (.int .i64 e.2) := D3.out.elem 2 (fun _ => rfl) hc1 1 rfl
                have CQ := Lib.hid (CP.out e.1 e.2)
                obtain ⟨d, p⟩ := e
                simp only at k0 k1 CQ
                obtain ⟨q, hq⟩ : ∃ q, portE ps d p = q := ⟨_, rfl⟩
                rw [hq] at CQ
                have hw1 : IntKind.i64.wrap ((i : Int) + 1) = (i : Int) + 1 := by rw [IntKind.wrap_i64]; omega
                have hq' := Lib.hid hq
                clear hq
                go_upto_region 12 with fail
                refine wp_region_noPanic ?_
                refine wp_region_along (S := fun w' => Below wr.heap.size wr w' ∧ ∀ b o, (wr.cell? ⟨b, o, none⟩).isSome = true → w'.cell? ⟨b, o, none⟩ = wr.cell? ⟨b, o, none⟩) ([(0, true), (1, true), (2, true), (3, true), (4, true), (5, true), (6, true), (7, true), (8, true), (9, true), (10, true), (11, false), (12, true)]) (by kernel_rfl) (by as_aux_lemma => kernel_rfl) (by kernel_rfl) (by kernel_rfl) (by as_aux_lemma => kernel_rfl) (by as_aux_lemma => kernel_rfl) (fun _ _ _ _ _ h => h) (ckeep (Below.refl _ _).drew) (fun hH => ?_)
                simp only [stepsOf, pickOp]
                iterate 11 (first | (refine along_skip (by rfl) ?_; try simp only [Act.put, List.setIfInBounds_toArray, List.set_cons_zero, List.set_cons_succ]) | (refine along_pure ?_ (by rfl) (fun w hSw => ?_) ?_; rotate_left; ((try dsimp only at hSw); go_simp; try with_reducible rfl); try simp only [Act.put, List.setIfInBounds_toArray, List.set_cons_zero, List.set_cons_succ]))
                refine along_bar (fun K hK => ?_)
                go_simp
                refine (CQ.out _ (P3.out.on hH.1)).mono ?_
                rintro e w' ⟨rfl, hbx⟩
                try go_wp2_with fail
                refine hK.out _ _ (ckeep (cbelow_on hH.1 hbx)) (fun hH' => ?_)
                clear hK K hH
                have hH := hH'
                clear hH'
                clear hbx
                try simp only [Act.put, List.setIfInBounds_toArray, List.set_cons_zero, List.set_cons_succ]
                iterate 1 (first | (refine along_skip (by rfl) ?_; try simp only [Act.put, List.setIfInBounds_toArray, List.set_cons_zero, List.set_cons_succ]) | (refine along_pure ?_ (by rfl) (fun w hSw => ?_) ?_; rotate_left; ((try dsimp only at hSw); go_simp; try with_reducible rfl); try simp only [Act.put, List.setIfInBounds_toArray, List.set_cons_zero, List.set_cons_succ]))
                refine along_end (NoPanic.normal ?_)
                have B4 := Lib.hid (cbelow_on B3.out hH.1)
                have D4 := Lib.hid (D3.out.on hH.1)
                clear hH t_0 t_1 t_2 k0 k1 CQ T3 P3 E3 D3
                obtain ⟨W2, rfl⟩ : ∃ W2 : World, W2 = w' := ⟨_, rfl⟩
                by_cases y0 : q = 0
                · subst y0
                  have y1 : Hid (portE ps (d, p).1 (d, p).2 = 0) := hq'
                  go_wp2_with fail
                  go_loopw [7] (fun kv wr2 => ∃ k : Nat, kv = .int .i64 k ∧ k ≤ i ∧ Hid (∀ j, j < k → E[j]? ≠ E[i]?) ∧ Hid (Below W2.heap.size W2 wr2)) (fun kv _ => i - (intOf kv).toNat)
                  case atStart => exact ⟨0, rfl, Nat.zero_le _, Lib.hid (fun j hj => absurd hj (by omega)), Lib.hid (Below.refl _ _)⟩
                  case round =>
                    obtain ⟨k, rfl, hk, hne, B5⟩ := hrel
                    have D5 := Lib.hid (D4.out.on B5.out)
                    clear D4
                    by_cases hlt2 : k < i
                    · obtain ⟨e2, he1, -, -⟩ := drop_at (l := E) (i := k) (by omega)
                      have k0 : wr.cell? ⟨bb, off + i * 2, none⟩ = some (.int .i64 d) := D5.out.elem 2 (fun _ => rfl) hc1 0 rfl
                      have k1 : wr.cell? ⟨bb, off + i * 2 + 1, none⟩ = some (.int .i64 p) := D5.out.elem 2 (fun _ => rfl) hc1 1 rfl
                      have m0 : wr.cell? ⟨bb, off + k * 2, none⟩ = some (.int .i64 e2.1) := D5.out.elem 2 (fun _ => rfl) he1 0 rfl
                      have m1 : wr.cell? ⟨bb, off + k * 2 + 1, none⟩ = some (.int .i64 e2.2) := D5.out.elem 2 (fun _ => rfl) he1 1 rfl
                      obtain ⟨d2, p2⟩ := e2
                      simp only at m0 m1
                      have hkN : k < N := by omega
                      have hw2 : IntKind.i64.wrap ((k : Int) + 1) = (k : Int) + 1 := by rw [IntKind.wrap_i64]; omega
                      have eqp := fun w => eq_pair d2 p2 d p w
                      go_upto_region 18 with fail
                      by_cases z1 : d2 = d ∧ p2 = p
                      · obtain ⟨rfl, rfl⟩ := z1
                        have HQ : Hid (R = 12) := by
                          show _ = _
                          have q := lnkE_twice hc1 hE1.out y1.out hlt2 he1
                          rw [← HR2.out, q, if_pos (by omega)]
                        refine wp_region_noPanic ?_
                        refine wp_region_along (S := fun w' => Below wr.heap.size wr w' ∧ ∀ b o, (wr.cell? ⟨b, o, none⟩).isSome = true → w'.cell? ⟨b, o, none⟩ = wr.cell? ⟨b, o, none⟩) ([(0, true), (1, true), (2, true), (3, true), (4, true), (5, true), (6, true), (7, true), (8, true)]) (by kernel_rfl) (by as_aux_lemma => kernel_rfl) (by kernel_rfl) (by kernel_rfl) (by as_aux_lemma => kernel_rfl) (by as_aux_lemma => kernel_rfl) (fun _ _ _ _ _ h => h) (ckeep (Below.refl _ _).drew) (fun hH => ?_)
                        simp only [stepsOf, pickOp]
                        iterate 9 (first | (refine along_skip (by rfl) ?_; try simp only [Act.put, List.setIfInBounds_toArray, List.set_cons_zero, List.set_cons_succ]) | (refine along_pure ?_ (by rfl) (fun w hSw => ?_) ?_; rotate_left; ((try dsimp only at hSw); go_simp; try with_reducible rfl); try simp only [Act.put, List.setIfInBounds_toArray, List.set_cons_zero, List.set_cons_succ]))
                        refine along_end (NoPanic.normal ?_)
                        have B6 := Lib.hid (cbelow_on B5.out hH.1)
                        clear hH
                        go_wp2
                        go_ret
                        exact ⟨by rw [HQ.out]; rfl, cbelow_on BB2.out (cbelow_on B4.out B6.out)⟩
                      · have z1' : (d2 == d && p2 == p) = false := by rw [Bool.eq_false_iff]; intro q; simp at q; exact z1 q
                        have z2 : ¬ (d2 = d ∧ p2 = p) := z1
                        refine wp_region_noPanic ?_
                        refine wp_region_along (S := fun w' => Below wr.heap.size wr w' ∧ ∀ b o, (wr.cell? ⟨b, o, none⟩).isSome = true → w'.cell? ⟨b, o, none⟩ = wr.cell? ⟨b, o, none⟩) ([(0, true), (1, true), (2, true), (3, true), (4, true), (5, true), (6, true), (7, true), (8, true)]) (by kernel_rfl) (by as_aux_lemma => kernel_rfl) (by kernel_rfl) (by kernel_rfl) (by as_aux_lemma => kernel_rfl) (by as_aux_lemma => kernel_rfl) (fun _ _ _ _ _ h => h) (ckeep (Below.refl _ _).drew) (fun hH => ?_)
                        simp only [stepsOf, pickOp]
                        iterate 9 (first | (refine along_skip (by rfl) ?_; try simp only [Act.put, List.setIfInBounds_toArray, List.set_cons_zero, List.set_cons_succ]) | (refine along_pure ?_ (by rfl) (fun w hSw => ?_) ?_; rotate_left; ((try dsimp only at hSw); go_simp; try with_reducible rfl); try simp only [Act.put, List.setIfInBounds_toArray, List.set_cons_zero, List.set_cons_succ]))
                        refine along_end (NoPanic.normal ?_)
                        have B6 := Lib.hid (cbelow_on B5.out hH.1)
                        clear hH
                        have HQ : Hid (∀ j, j < k + 1 → E[j]? ≠ E[i]?) := fun j hj => by
                          rcases (show j < k ∨ j = k by omega) with q | rfl
                          · exact hne.out j q
                          · rw [he1, hc1]; intro q; cases q; exact z2 ⟨rfl, rfl⟩
                        go_wp2
                        refine ⟨?_, ?_⟩
                        · first | exact ⟨k + 1, by go_num, by omega, HQ, B6⟩ | ((repeat apply Exists.intro); exact ⟨⟨k + 1, by go_num, by omega, HQ, B6⟩, rfl⟩)
                        · simp [intOf]; omega
                    · obtain rfl : k = i := by omega
                      have HQ : Hid (lnkE ps (E.take (k + 1)) (E.drop (k + 1)) = lnkE ps [] E) := lnkE_step hc1 hE1.out y1.out hne.out
                      have B6 := Lib.hid (cbelow_on B4.out B5.out)
                      go_wp2
                      refine ⟨?_, ?_⟩
                      · first | exact ⟨k + 1, by go_num, by omega, HQ, B6⟩ | ((repeat apply Exists.intro); exact ⟨⟨k + 1, by go_num, by omega, HQ, B6⟩, rfl⟩)
                      · simp [intOf]; omega
                · have HQ : Hid (R = q) := by
                    show _ = _
                    have k := lnkE_port hc1 hE1.out (by show portE ps d p ≠ 0; rw [hq'.out]; exact y0)
                    rw [← HR2.out, if_pos (by rw [k]; show portE ps d p ≠ 0; rw [hq'.out]; exact y0), k]; exact hq'.out
                  have y0' : (q != 0) = true := by simp; exact y0
                  go_wp2
                  go_ret
                  exact ⟨by rw [HQ.out]; rfl, cbelow_on BB2.out B4.out⟩
              · obtain rfl : i = N := by omega
                have HR3 : Hid (entE ps es = R) := by
                  show _ = _
                  have k : lnkE ps [] E = 0 := by rw [← hE1.out, List.drop_eq_nil_of_le (by omega)]; rfl
                  have k2 := HR2.out
                  rw [if_neg (by omega)] at k2
                  exact k2
                have BB3 := Lib.hid (cbelow_on BB2.out B3.out)
                obtain ⟨W3, rfl⟩ : ∃ W3 : World, W3 = wr := ⟨_, rfl⟩
                clear B3 t_0 t_1 t_2 D3
                go_wp2_with fail
                go_loopw [8] (fun iv wr => ∃ i : Nat, iv = .int .i64 i ∧ i ≤ na ∧ Hid (entE ps (es.drop i) = R) ∧ Hid (Below W3.heap.size W3 wr)) (fun iv _ => na - (intOf iv).toNat)
                case atStart => exact ⟨0, rfl, Nat.zero_le _, HR3, Lib.hid (Below.refl _ _)⟩
                case round =>
                  obtain ⟨i, rfl, hi, hE1, B4⟩ := hrel
                  have T4 := Lib.hid (T3.out.on B4.out)
                  have P4 := Lib.hid (P3.out.on B4.out)
                  have E4 := Lib.hid (E3.out.on B4.out)
                  clear T3 P3 E3 HR3
                  obtain ⟨t_0, t_1, t_2⟩ : _ ∧ _ ∧ _ := ⟨T4.out.1 0 _ rfl, T4.out.1 1 _ rfl, T4.out.1 2 _ rfl⟩
                  by_cases hlt : i < na
                  · obtain ⟨c, hc1, hc2, hc3⟩ := drop_at (l := es) (i := i) (by omega)
                    obtain ⟨bb, off, rfl⟩ := E4.out.elemAd 12 (fun _ => rfl) hc1
                    obtain ⟨ha, hb⟩ := HO.out c hc3
                    have HX : Hid ((if portE ps c.x c.y ≠ 0 then portE ps c.x c.y else if c.chk ≠ 0 then c.chk else entE ps (es.drop (i + 1))) = R) := by
                      show _ = _
                      rw [← hE1.out, hc2]; rfl
                    have CF := Lib.hid (fun w => rfcheck_any c.a c.n c.b c.m c.p c.l c.h c.u c.v ha hb w)
                    have CQ := Lib.hid (CP.out c.x c.y)
                    rw [show Go.Proofs.Ytoiopjdbmaffeaa.chk (rightB c.a c.n) (rightB c.b c.m) c.p (decide (c.h < c.l)) (decide (c.v < c.u)) = c.chk from rfl] at CF
                    generalize c.chk = r at *
                    generalize portE ps c.x c.y = q at *
                    have k0 : wr.cell? ⟨bb, off + i * 13, none⟩ = some (.int .i64 c.x) := E4.out.elem 13 (fun _ => rfl) hc1 0 rfl
                    have k1 : wr.cell? ⟨bb, off + i * 13 + 1, none⟩ = some (.int .i64 c.y) := E4.out.elem 13 (fun _ => rfl) hc1 1 rfl
                    have k2 : wr.cell? ⟨bb, off + i * 13 + 2, none⟩ = some (.bool c.i) := E4.out.elem 13 (fun _ => rfl) hc1 2 rfl
                    have k3 : wr.cell? ⟨bb, off + i * 13 + 3, none⟩ = some (.bool c.z) := E4.out.elem 13 (fun _ => rfl) hc1 3 rfl
                    have k4 : wr.cell? ⟨bb, off + i * 13 + 4, none⟩ = some (.int .u32 c.a) := E4.out.elem 13 (fun _ => rfl) hc1 4 rfl
                    have k5 : wr.cell? ⟨bb, off + i * 13 + 5, none⟩ = some (.int .i64 c.n) := E4.out.elem 13 (fun _ => rfl) hc1 5 rfl
                    have k6 : wr.cell? ⟨bb, off + i * 13 + 6, none⟩ = some (.int .u32 c.b) := E4.out.elem 13 (fun _ => rfl) hc1 6 rfl
                    have k7 : wr.cell? ⟨bb, off + i * 13 + 7, none⟩ = some (.int .i64 c.m) := E4.out.elem 13 (fun _ => rfl) hc1 7 rfl
                    have k8 : wr.cell? ⟨bb, off + i * 13 + 8, none⟩ = some (.int .i64 c.p) := E4.out.elem 13 (fun _ => rfl) hc1 8 rfl
                    have k9 : wr.cell? ⟨bb, off + i * 13 + 9, none⟩ = some (.int .u16 c.l) := E4.out.elem 13 (fun _ => rfl) hc1 9 rfl
                    have k10 : wr.cell? ⟨bb, off + i * 13 + 10, none⟩ = some (.int .u16 c.h) := E4.out.elem 13 (fun _ => rfl) hc1 10 rfl
                    have k11 : wr.cell? ⟨bb, off + i * 13 + 11, none⟩ = some (.int .u16 c.u) := E4.out.elem 13 (fun _ => rfl) hc1 11 rfl
                    have k12 : wr.cell? ⟨bb, off + i * 13 + 12, none⟩ = some (.int .u16 c.v) := E4.out.elem 13 (fun _ => rfl) hc1 12 rfl
                    have E5 : Hid (∀ w, Below wr.heap.size wr w → w.cell? ⟨bb, off + i * 13 + 4, none⟩ = some (.int .u32 c.a) ∧ w.cell? ⟨bb, off + i * 13 + 5, none⟩ = some (.int .i64 c.n) ∧ w.cell? ⟨bb, off + i * 13 + 6, none⟩ = some (.int .u32 c.b) ∧ w.cell? ⟨bb, off + i * 13 + 7, none⟩ = some (.int .i64 c.m) ∧ w.cell? ⟨bb, off + i * 13 + 8, none⟩ = some (.int .i64 c.p) ∧ w.cell? ⟨bb, off + i * 13 + 9, none⟩ = some (.int .u16 c.l) ∧ w.cell? ⟨bb, off + i * 13 + 10, none⟩ = some (.int .u16 c.h) ∧ w.cell? ⟨bb, off + i * 13 + 11, none⟩ = some (.int .u16 c.u) ∧ w.cell? ⟨bb, off + i * 13 + 12, none⟩ = some (.int .u16 c.v)) := fun w h => ⟨(E4.out.on h).elem 13 (fun _ => rfl) hc1 4 rfl, (E4.out.on h).elem 13 (fun _ => rfl) hc1 5 rfl, (E4.out.on h).elem 13 (fun _ => rfl) hc1 6 rfl, (E4.out.on h).elem 13 (fun _ => rfl) hc1 7 rfl, (E4.out.on h).elem 13 (fun _ => rfl) hc1 8 rfl, (E4.out.on h).elem 13 (fun _ => rfl) hc1 9 rfl, (E4.out.on h).elem 13 (fun _ => rfl) hc1 10 rfl, (E4.out.on h).elem 13 (fun _ => rfl) hc1 11 rfl, (E4.out.on h).elem 13 (fun _ => rfl) hc1 12 rfl⟩
                    obtain ⟨x, y, ii, zz, a, n', b, m, p, l, h, u, v⟩ := c
                    simp only at *
                    clear hc1 hc2 hc3 hE1 CP
                    unfold fv at CF
                    have hw1 : IntKind.i64.wrap ((i : Int) + 1) = (i : Int) + 1 := by rw [IntKind.wrap_i64]; omega
                    go_upto_region 23 with fail
                    refine wp_region_noPanic ?_
                    refine wp_region_along (S := fun w' => Below wr.heap.size wr w' ∧ ∀ b o, (wr.cell? ⟨b, o, none⟩).isSome = true → w'.cell? ⟨b, o, none⟩ = wr.cell? ⟨b, o, none⟩) ([(0, true), (1, true), (2, true), (3, true), (4, true), (5, true), (6, true), (7, true), (8, true), (9, true), (10, true), (11, true), (12, true), (13, false), (14, true)]) (by kernel_rfl) (by as_aux_lemma => kernel_rfl) (by kernel_rfl) (by kernel_rfl) (by as_aux_lemma => kernel_rfl) (by as_aux_lemma => kernel_rfl) (fun _ _ _ _ _ h => h) (ckeep (Below.refl _ _).drew) (fun hH => ?_)
                    simp only [stepsOf, pickOp]
                    iterate 13 (first | (refine along_skip (by rfl) ?_; try simp only [Act.put, List.setIfInBounds_toArray, List.set_cons_zero, List.set_cons_succ]) | (refine along_pure ?_ (by rfl) (fun w hSw => ?_) ?_; rotate_left; ((try dsimp only at hSw); go_simp; try with_reducible rfl); try simp only [Act.put, List.setIfInBounds_toArray, List.set_cons_zero, List.set_cons_succ]))
                    refine along_bar (fun K hK => ?_)
                    go_simp
                    refine (CQ.out _ (P4.out.on hH.1)).mono ?_
                    rintro e w' ⟨rfl, hbx⟩
                    try go_wp2_with fail
                    refine hK.out _ _ (ckeep (cbelow_on hH.1 hbx)) (fun hH' => ?_)
                    clear hK K hH
                    have hH := hH'
                    clear hH'
                    clear hbx
                    try simp only [Act.put, List.setIfInBounds_toArray, List.set_cons_zero, List.set_cons_succ]
                    iterate 1 (first | (refine along_skip (by rfl) ?_; try simp only [Act.put, List.setIfInBounds_toArray, List.set_cons_zero, List.set_cons_succ]) | (refine along_pure ?_ (by rfl) (fun w hSw => ?_) ?_; rotate_left; ((try dsimp only at hSw); go_simp; try with_reducible rfl); try simp only [Act.put, List.setIfInBounds_toArray, List.set_cons_zero, List.set_cons_succ]))
                    refine along_end (NoPanic.normal ?_)
                    have B5 := Lib.hid (cbelow_on B4.out hH.1)
                    have T5 := Lib.hid (T4.out.on hH.1)
                    obtain ⟨j4, j5, j6, j7, j8, j9, j10, j11, j12⟩ := E5.out _ hH.1
                    clear hH t_0 t_1 t_2 k0 k1 k2 k3 k4 k5 k6 k7 k8 k9 k10 k11 k12 CQ E5
                    obtain ⟨t_0, t_1, t_2⟩ : _ ∧ _ ∧ _ := ⟨T5.out.1 0 _ rfl, T5.out.1 1 _ rfl, T5.out.1 2 _ rfl⟩
                    by_cases y1 : q = 0
                    · subst y1
                      go_wp2_with fail
                      refine (CF.out _).mono ?_
                      rintro e w6 ⟨rfl, hb⟩
                      have B6 := Lib.hid (cbelow_on B5.out hb)
                      clear hb t_0 t_1 t_2 j4 j5 j6 j7 j8 j9 j10 j11 j12
                      by_cases y2 : r = 0
                      · subst y2
                        have HQ : Hid (entE ps (es.drop (i + 1)) = R) := by show _ = _; rw [← HX.out, if_neg (by omega), if_neg (by omega)]
                        go_wp2
                        refine ⟨?_, ?_⟩
                        · first | exact ⟨i + 1, by go_num, by omega, HQ, B6⟩ | ((repeat apply Exists.intro); exact ⟨⟨i + 1, by go_num, by omega, HQ, B6⟩, rfl⟩)
                        · simp [intOf]; omega
                      · have HQ : Hid (R = r) := by show _ = _; rw [← HX.out, if_neg (by omega), if_pos y2]
                        have y2' : (r != 0) = true := by simp; exact y2
                        go_wp2
                        go_ret
                        exact ⟨by rw [HQ.out]; rfl, cbelow_on BB3.out B6.out⟩
                    · have HQ : Hid (R = q) := by show _ = _; rw [← HX.out, if_pos y1]
                      have y1' : (q != 0) = true := by simp; exact y1
                      go_wp2
                      go_ret
                      exact ⟨by rw [HQ.out]; rfl, cbelow_on BB3.out B5.out⟩
                  · obtain rfl : i = na := by omega
                    have HQ : Hid (R = 0) := by
                      show _ = _
                      rw [← hE1.out, List.drop_eq_nil_of_le (by omega)]; rfl
                    go_wp2
                    go_ret
                    exact ⟨by rw [HQ.out]; rfl, cbelow_on BB3.out B4.out⟩
end Go.Proofs.Ytoiopjdbmaffeaa
