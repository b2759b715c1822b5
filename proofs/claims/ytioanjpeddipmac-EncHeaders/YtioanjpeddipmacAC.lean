/- Nodes that are cut. -/
import Derived.Test.YtioanjpeddipmacAP
import Derived.LoopN
namespace Go.Proofs.Ytioanjpeddipmac
open Go.RowKit
set_option linter.unusedVariables false

set_option maxRecDepth 100000 in
set_option maxHeartbeats 4000000 in
theorem cut_any (a : AL) (most : Nat) (ns : List Nd) (n : Int) (w : World) (h : Ar w a most ns) (hw : WF ns) :
    Calls Try.prog 58 #[.pointer (some ⟨a.p, 0, none⟩), .int .i64 n] w fun e w' => e = .returned (.tuple #[]) ∧ Ar w' a most (ns.take (max n.toNat 2)) ∧ Tr (fun _ => False) w a w' a := by
  obtain ⟨M, hM⟩ : ∃ M, max n.toNat 2 = M := ⟨_, rfl⟩
  rw [hM]
  have h2 := hw.len
  have C := Lib.hid (len_any a most ns w h)
  have A0 := Lib.hid h
  have HW := Lib.hid hw
  have HM := Lib.hid hM
  clear h hw hM
  have hlen := A0.out.len
  have hw0 : IntKind.i64.wrap ((ns.length : Int) - 1) = ((ns.length - 1 : Nat) : Int) := by rw [IntKind.wrap_i64]; omega
  go_enter Try.func58, Try.ntmps58
  go_wp2_with fail
  refine C.out.mono ?_
  rintro e w' ⟨rfl, rfl⟩
  go_wp2_with fail
  go_loopw [4] (fun iv wr => ∃ d : Nat, iv = .int .i64 (d : Nat) ∧ 1 ≤ d ∧ d + 1 ≤ ns.length ∧ (M ≤ d + 1 ∨ d + 1 = ns.length) ∧ Hid (Ar wr a most (ns.take (d + 1))) ∧ Hid (Tr (fun _ => False) w a wr a)) (fun iv _ => (intOf iv).toNat)
  case atStart =>
    refine ⟨ns.length - 1, rfl, by omega, by omega, Or.inr (by omega), ?_, Lib.hid (Tr.refl _ _ _)⟩
    rw [show ns.length - 1 + 1 = ns.length by omega, List.take_length]; exact A0
  case round =>
    obtain ⟨d, rfl, hd1, hd2, hd3, hA, hT⟩ := hrel
    clear C hw0
    by_cases hn : n < 2
    · have hn' : n ≤ 2 := by omega
      by_cases hge : 2 ≤ (d : Int)
      · have hMd : M ≤ d := by have := HM.out; omega
        have hdl : d < (ns.take (d + 1)).length := by rw [List.length_take]; omega
        have hln : (ns.take (d + 1)).length = d + 1 := by rw [List.length_take]; omega
        have hgd : (ns.take (d + 1)).getD d bot = ns.getD d bot := by rw [List.getD_eq_getElem?_getD, List.getD_eq_getElem?_getD, List.getElem?_take, if_pos (by omega)]
        obtain ⟨nd, hnd⟩ : ∃ x, ns.getD d bot = x := ⟨_, rfl⟩
        have hok : nd.Ok := by
          obtain ⟨q1, q2, -, -, -, q3⟩ := HW.out.parts (f := d) (by have := HM.out; omega) (by omega)
          rw [hnd] at q1 q2
          unfold lv at q3
          rw [hnd] at q3
          exact ⟨by omega, by omega, by omega⟩
        obtain ⟨KL, hKL⟩ := key_node nd hok
        have n_0 : wr.cell? ⟨a.q, d * 3, none⟩ = some (.int .i64 (nd.v : Nat)) := hA.out.node (j := 0) hdl (by rw [hgd, hnd]; rfl)
        have n_1 : wr.cell? ⟨a.q, d * 3 + 1, none⟩ = some (.int .i64 (nd.l : Nat)) := hA.out.node (j := 1) hdl (by rw [hgd, hnd]; rfl)
        have n_2 : wr.cell? ⟨a.q, d * 3 + 2, none⟩ = some (.int .i64 (nd.h : Nat)) := hA.out.node (j := 2) hdl (by rw [hgd, hnd]; rfl)
        obtain ⟨a_0, a_1, a_2⟩ : _ ∧ _ ∧ _ := ⟨hA.out.s.1 0 _ rfl, hA.out.s.1 1 _ rfl, hA.out.s.1 2 _ rfl⟩
        obtain ⟨c, hc⟩ : ∃ c, d + 1 = c := ⟨_, rfl⟩
        have hdc : d < c := by omega
        rw [hln, hc] at a_1
        have hdrop : ∀ p : Nd × Nat, p ∈ numL (ns.take d) ↔ p ∈ numL (ns.take (d + 1)) ∧ p.1 ≠ nd := fun p => by
          obtain ⟨p1, p2⟩ := p
          rw [mem_numL, mem_numL]
          have hdg : ns[d]? = some nd := by rw [← hnd]; exact get_of_lt (by omega)
          constructor
          · rintro ⟨e1, e2⟩
            have hlt := lt_of_get e2
            rw [List.length_take] at hlt
            rw [List.getElem?_take, if_pos (by omega)] at e2
            refine ⟨⟨e1, by rw [List.getElem?_take, if_pos (by omega)]; exact e2⟩, fun e => ?_⟩
            simp only at e
            rw [e] at e2
            have := HW.out.inj p2 d nd e2 hdg
            omega
          · rintro ⟨⟨e1, e2⟩, e3⟩
            have hlt := lt_of_get e2
            rw [List.length_take] at hlt
            rw [List.getElem?_take, if_pos (by omega)] at e2
            refine ⟨e1, ?_⟩
            have : p2 ≠ d := fun e => by subst e; rw [hdg] at e2; cases e2; exact e3 rfl
            rw [List.getElem?_take, if_pos (by omega)]; exact e2
        obtain ⟨W2, hdel, hM2, hO2⟩ := mapG_del (ty := 0) keyedNode Try.underlying75 nv_inj hA.out.m.drew (k := nd) hKL hdrop
        simp only [nv] at hdel
        have M2 := Lib.hid hM2
        have O2 := Lib.hid hO2
        have hnx : IntKind.i64.wrap ((d : Int) - 1) = ((d - 1 : Nat) : Int) := by rw [IntKind.wrap_i64]; omega
        clear hM2 hO2 hdrop hKL hok
        have HCe := Lib.hid hc
        clear hc
        go_upto_region 3 with fail
        refine wp_region_noPanic ?_
        refine wp_region_along (S := fun w' => w'.cell? ⟨a.p, 1, none⟩ = some (.slice (some ⟨a.q, 0, none⟩) c a.cap) ∧ w'.cell? ⟨a.p, 2, none⟩ = some (.map (some a.m)) ∧ w'.cell? ⟨a.q, d * 3, none⟩ = some (.int .i64 (nd.v : Nat)) ∧ w'.cell? ⟨a.q, d * 3 + 1, none⟩ = some (.int .i64 (nd.l : Nat)) ∧ w'.cell? ⟨a.q, d * 3 + 2, none⟩ = some (.int .i64 (nd.h : Nat))) ([(0, true), (1, true), (2, true), (3, true), (4, true), (5, true), (6, true), (7, true), (8, true), (9, true), (10, true), (11, false)]) (by kernel_rfl) (by as_aux_lemma => kernel_rfl) (by kernel_rfl) (by kernel_rfl) (by as_aux_lemma => kernel_rfl) (by as_aux_lemma => kernel_rfl) (fun _ _ _ _ _ h => h) ⟨a_1, a_2, n_0, n_1, n_2⟩ (fun hH => ?_)
        simp only [stepsOf, pickOp]
        iterate 11 (first | (refine along_skip (by rfl) ?_; try simp only [Act.put, List.setIfInBounds_toArray, List.set_cons_zero, List.set_cons_succ]) | (refine along_pure ?_ (by rfl) (fun w hSw => ?_) ?_; rotate_left; (obtain ⟨s_1, s_2, s_3, s_4, s_5⟩ := hSw; go_simp; try with_reducible rfl); try simp only [Act.put, List.setIfInBounds_toArray, List.set_cons_zero, List.set_cons_succ]))
        clear hH
        refine along_bar (fun K hK => ?_)
        go_simp
        obtain ⟨es, clk, hmb⟩ := hA.out.m.isMap
        have hc2 : ∀ i o, (wr.cell? ⟨i, o, none⟩).isSome = true → W2.cell? ⟨i, o, none⟩ = wr.cell? ⟨i, o, none⟩ := fun i o h => O2.out.cell (w := wr.drew) hmb i o h
        refine hK.out _ _ ⟨(hc2 _ _ (by rw [a_1]; rfl)).trans a_1, (hc2 _ _ (by rw [a_2]; rfl)).trans a_2, (hc2 _ _ (by rw [n_0]; rfl)).trans n_0, (hc2 _ _ (by rw [n_1]; rfl)).trans n_1, (hc2 _ _ (by rw [n_2]; rfl)).trans n_2⟩ (fun hH => ?_)
        clear hK hH K
        try simp only [Act.put, List.setIfInBounds_toArray, List.set_cons_zero, List.set_cons_succ]
        refine along_end (NoPanic.normal ?_)
        have K2 := Lib.hid (show Keep (fun i => i = a.m) wr W2 from (Keep.refl _ _).drew.only O2.out (fun _ => rfl))
        have S2 := Lib.hid (K2.out.blk hA.out.s hA.out.pm)
        clear hc2 hmb hdel n_0 n_1 n_2 a_0 a_1 a_2
        obtain ⟨cur, q1, q2, q3, q4, q5⟩ := hA.out.row
        have hq2 : W2.heap[a.q]? = some (.cells cur 73 (0, 0)) := (K2.out.block _ hA.out.ql hA.out.qm).trans q1
        have hcap : d ≤ a.cap := by omega
        obtain ⟨a_0, a_1, a_2⟩ : _ ∧ _ ∧ _ := ⟨S2.out.1 0 _ rfl, S2.out.1 1 _ rfl, S2.out.1 2 _ rfl⟩
        obtain ⟨z_0, z_1, z_2⟩ : _ ∧ _ ∧ _ := ⟨S2.out.2 0 _ rfl, S2.out.2 1 _ rfl, S2.out.2 2 _ rfl⟩
        rw [hln, HCe.out] at a_1
        have HC := Lib.hid (And.intro hq2 (And.intro q2 (And.intro q3 (And.intro q4 q5))))
        clear hq2 q1 q2 q3 q4 q5
        go_upto_region 4 with fail
        go_wp2_with fail
        refine ⟨⟨d - 1, rfl, by omega, by omega, Or.inl (by omega), ?_, ?_⟩, by simp [intOf]; omega⟩
        · show Ar _ a most _
          rw [show d - 1 + 1 = d by omega]
          have hld : (ns.take d).length = d := by rw [List.length_take]; omega
          obtain ⟨o1, o2, o3, o4, o5⟩ := HC.out
          refine ⟨?_, ⟨by rw [flat_len], Or.inr ⟨a.q, a.cap, cur, by rw [hld], Nat.zero_le _, ?_, by rw [hld]; omega, o3, o4, ?_⟩⟩, M2.out.same (Below.heap_setCell _ _ _ _ (fun e => hA.out.pm e.symm)), by rw [hld]; omega, hA.out.most, hA.out.pq⟩
          · rw [hld]; exact S2.out.set 1 _ (by simp)
          · rw [Below.heap_setCell _ _ _ _ (fun e => hA.out.pq e.symm)]; exact o1
          · rw [hld]
            have e1 : cur.toList.take (d * 3) = (cur.toList.take ((ns.take (d + 1)).length * 3)).take (d * 3) := by rw [List.take_take, hln]; congr 1; omega
            rw [e1, o5, flat_take, List.take_take]; congr 2; omega
        · exact hT.out.trans ⟨(K2.out.mono (fun i _ e => Or.inl (Or.inr (Or.inr e)))).set _ _ (fun _ => Or.inl (Or.inl rfl)), Mv.refl _ _⟩
      · have hMd : d < M := by have := HM.out; omega
        go_wp2
        refine bodyPost_end (v := .tuple #[]) (by simp [results, Try.results58, go_sem]) rfl ?_
        have e1 : ns.take (d + 1) = ns.take M := by
          rcases hd3 with q | q
          · rw [show d + 1 = M by omega]
          · rw [q, List.take_length, List.take_of_length_le (by omega)]
        exact ⟨rfl, by rw [← e1]; exact hA.out, hT.out⟩
    · have hn' : 2 ≤ n := by omega
      by_cases hge : n ≤ (d : Int)
      · have hMd : M ≤ d := by have := HM.out; omega
        have hdl : d < (ns.take (d + 1)).length := by rw [List.length_take]; omega
        have hln : (ns.take (d + 1)).length = d + 1 := by rw [List.length_take]; omega
        have hgd : (ns.take (d + 1)).getD d bot = ns.getD d bot := by rw [List.getD_eq_getElem?_getD, List.getD_eq_getElem?_getD, List.getElem?_take, if_pos (by omega)]
        obtain ⟨nd, hnd⟩ : ∃ x, ns.getD d bot = x := ⟨_, rfl⟩
        have hok : nd.Ok := by
          obtain ⟨q1, q2, -, -, -, q3⟩ := HW.out.parts (f := d) (by have := HM.out; omega) (by omega)
          rw [hnd] at q1 q2
          unfold lv at q3
          rw [hnd] at q3
          exact ⟨by omega, by omega, by omega⟩
        obtain ⟨KL, hKL⟩ := key_node nd hok
        have n_0 : wr.cell? ⟨a.q, d * 3, none⟩ = some (.int .i64 (nd.v : Nat)) := hA.out.node (j := 0) hdl (by rw [hgd, hnd]; rfl)
        have n_1 : wr.cell? ⟨a.q, d * 3 + 1, none⟩ = some (.int .i64 (nd.l : Nat)) := hA.out.node (j := 1) hdl (by rw [hgd, hnd]; rfl)
        have n_2 : wr.cell? ⟨a.q, d * 3 + 2, none⟩ = some (.int .i64 (nd.h : Nat)) := hA.out.node (j := 2) hdl (by rw [hgd, hnd]; rfl)
        obtain ⟨a_0, a_1, a_2⟩ : _ ∧ _ ∧ _ := ⟨hA.out.s.1 0 _ rfl, hA.out.s.1 1 _ rfl, hA.out.s.1 2 _ rfl⟩
        obtain ⟨c, hc⟩ : ∃ c, d + 1 = c := ⟨_, rfl⟩
        have hdc : d < c := by omega
        rw [hln, hc] at a_1
        have hdrop : ∀ p : Nd × Nat, p ∈ numL (ns.take d) ↔ p ∈ numL (ns.take (d + 1)) ∧ p.1 ≠ nd := fun p => by
          obtain ⟨p1, p2⟩ := p
          rw [mem_numL, mem_numL]
          have hdg : ns[d]? = some nd := by rw [← hnd]; exact get_of_lt (by omega)
          constructor
          · rintro ⟨e1, e2⟩
            have hlt := lt_of_get e2
            rw [List.length_take] at hlt
            rw [List.getElem?_take, if_pos (by omega)] at e2
            refine ⟨⟨e1, by rw [List.getElem?_take, if_pos (by omega)]; exact e2⟩, fun e => ?_⟩
            simp only at e
            rw [e] at e2
            have := HW.out.inj p2 d nd e2 hdg
            omega
          · rintro ⟨⟨e1, e2⟩, e3⟩
            have hlt := lt_of_get e2
            rw [List.length_take] at hlt
            rw [List.getElem?_take, if_pos (by omega)] at e2
            refine ⟨e1, ?_⟩
            have : p2 ≠ d := fun e => by subst e; rw [hdg] at e2; cases e2; exact e3 rfl
            rw [List.getElem?_take, if_pos (by omega)]; exact e2
        obtain ⟨W2, hdel, hM2, hO2⟩ := mapG_del (ty := 0) keyedNode Try.underlying75 nv_inj hA.out.m.drew (k := nd) hKL hdrop
        simp only [nv] at hdel
        have M2 := Lib.hid hM2
        have O2 := Lib.hid hO2
        have hnx : IntKind.i64.wrap ((d : Int) - 1) = ((d - 1 : Nat) : Int) := by rw [IntKind.wrap_i64]; omega
        clear hM2 hO2 hdrop hKL hok
        have HCe := Lib.hid hc
        clear hc
        go_upto_region 3 with fail
        refine wp_region_noPanic ?_
        refine wp_region_along (S := fun w' => w'.cell? ⟨a.p, 1, none⟩ = some (.slice (some ⟨a.q, 0, none⟩) c a.cap) ∧ w'.cell? ⟨a.p, 2, none⟩ = some (.map (some a.m)) ∧ w'.cell? ⟨a.q, d * 3, none⟩ = some (.int .i64 (nd.v : Nat)) ∧ w'.cell? ⟨a.q, d * 3 + 1, none⟩ = some (.int .i64 (nd.l : Nat)) ∧ w'.cell? ⟨a.q, d * 3 + 2, none⟩ = some (.int .i64 (nd.h : Nat))) ([(0, true), (1, true), (2, true), (3, true), (4, true), (5, true), (6, true), (7, true), (8, true), (9, true), (10, true), (11, false)]) (by kernel_rfl) (by as_aux_lemma => kernel_rfl) (by kernel_rfl) (by kernel_rfl) (by as_aux_lemma => kernel_rfl) (by as_aux_lemma => kernel_rfl) (fun _ _ _ _ _ h => h) ⟨a_1, a_2, n_0, n_1, n_2⟩ (fun hH => ?_)
        simp only [stepsOf, pickOp]
        iterate 11 (first | (refine along_skip (by rfl) ?_; try simp only [Act.put, List.setIfInBounds_toArray, List.set_cons_zero, List.set_cons_succ]) | (refine along_pure ?_ (by rfl) (fun w hSw => ?_) ?_; rotate_left; (obtain ⟨s_1, s_2, s_3, s_4, s_5⟩ := hSw; go_simp; try with_reducible rfl); try simp only [Act.put, List.setIfInBounds_toArray, List.set_cons_zero, List.set_cons_succ]))
        clear hH
        refine along_bar (fun K hK => ?_)
        go_simp
        obtain ⟨es, clk, hmb⟩ := hA.out.m.isMap
        have hc2 : ∀ i o, (wr.cell? ⟨i, o, none⟩).isSome = true → W2.cell? ⟨i, o, none⟩ = wr.cell? ⟨i, o, none⟩ := fun i o h => O2.out.cell (w := wr.drew) hmb i o h
        refine hK.out _ _ ⟨(hc2 _ _ (by rw [a_1]; rfl)).trans a_1, (hc2 _ _ (by rw [a_2]; rfl)).trans a_2, (hc2 _ _ (by rw [n_0]; rfl)).trans n_0, (hc2 _ _ (by rw [n_1]; rfl)).trans n_1, (hc2 _ _ (by rw [n_2]; rfl)).trans n_2⟩ (fun hH => ?_)
        clear hK hH K
        try simp only [Act.put, List.setIfInBounds_toArray, List.set_cons_zero, List.set_cons_succ]
        refine along_end (NoPanic.normal ?_)
        have K2 := Lib.hid (show Keep (fun i => i = a.m) wr W2 from (Keep.refl _ _).drew.only O2.out (fun _ => rfl))
        have S2 := Lib.hid (K2.out.blk hA.out.s hA.out.pm)
        clear hc2 hmb hdel n_0 n_1 n_2 a_0 a_1 a_2
        obtain ⟨cur, q1, q2, q3, q4, q5⟩ := hA.out.row
        have hq2 : W2.heap[a.q]? = some (.cells cur 73 (0, 0)) := (K2.out.block _ hA.out.ql hA.out.qm).trans q1
        have hcap : d ≤ a.cap := by omega
        obtain ⟨a_0, a_1, a_2⟩ : _ ∧ _ ∧ _ := ⟨S2.out.1 0 _ rfl, S2.out.1 1 _ rfl, S2.out.1 2 _ rfl⟩
        obtain ⟨z_0, z_1, z_2⟩ : _ ∧ _ ∧ _ := ⟨S2.out.2 0 _ rfl, S2.out.2 1 _ rfl, S2.out.2 2 _ rfl⟩
        rw [hln, HCe.out] at a_1
        have HC := Lib.hid (And.intro hq2 (And.intro q2 (And.intro q3 (And.intro q4 q5))))
        clear hq2 q1 q2 q3 q4 q5
        go_upto_region 4 with fail
        go_wp2_with fail
        refine ⟨⟨d - 1, rfl, by omega, by omega, Or.inl (by omega), ?_, ?_⟩, by simp [intOf]; omega⟩
        · show Ar _ a most _
          rw [show d - 1 + 1 = d by omega]
          have hld : (ns.take d).length = d := by rw [List.length_take]; omega
          obtain ⟨o1, o2, o3, o4, o5⟩ := HC.out
          refine ⟨?_, ⟨by rw [flat_len], Or.inr ⟨a.q, a.cap, cur, by rw [hld], Nat.zero_le _, ?_, by rw [hld]; omega, o3, o4, ?_⟩⟩, M2.out.same (Below.heap_setCell _ _ _ _ (fun e => hA.out.pm e.symm)), by rw [hld]; omega, hA.out.most, hA.out.pq⟩
          · rw [hld]; exact S2.out.set 1 _ (by simp)
          · rw [Below.heap_setCell _ _ _ _ (fun e => hA.out.pq e.symm)]; exact o1
          · rw [hld]
            have e1 : cur.toList.take (d * 3) = (cur.toList.take ((ns.take (d + 1)).length * 3)).take (d * 3) := by rw [List.take_take, hln]; congr 1; omega
            rw [e1, o5, flat_take, List.take_take]; congr 2; omega
        · exact hT.out.trans ⟨(K2.out.mono (fun i _ e => Or.inl (Or.inr (Or.inr e)))).set _ _ (fun _ => Or.inl (Or.inl rfl)), Mv.refl _ _⟩
      · have hMd : d < M := by have := HM.out; omega
        go_wp2
        refine bodyPost_end (v := .tuple #[]) (by simp [results, Try.results58, go_sem]) rfl ?_
        have e1 : ns.take (d + 1) = ns.take M := by
          rcases hd3 with q | q
          · rw [show d + 1 = M by omega]
          · rw [q, List.take_length, List.take_of_length_le (by omega)]
        exact ⟨rfl, by rw [← e1]; exact hA.out, hT.out⟩
end Go.Proofs.Ytioanjpeddipmac
