/- Texts joined, in their order: AC, AS. -/
import Derived.Test.YtggcbklififcgabG9625338efe
import Derived.LoopN
import Derived.Test.YtggcbklififcgabGa789b297eb
/- Nodes that are cut. -/
namespace Go.Proofs.Ytggcbklififcgab
open Go.RowKit
set_option linter.unusedVariables false

set_option maxRecDepth 100000 in
set_option maxHeartbeats 4000000 in
theorem cut_any (a : AL) (most : Nat) (ns : List Nd) (n : Int) (w : World) (h : Ar w a most ns) (hw : WF ns) :
    Calls Try.prog 57 #[.pointer (some ⟨a.p, 0, none⟩), .int .i64 n] w fun e w' => e = .returned (.tuple #[]) ∧ Ar w' a most (ns.take (max n.toNat 2)) ∧ Tr (fun _ => False) w a w' a := by
  obtain ⟨M, hM⟩ : ∃ M, max n.toNat 2 = M := ⟨_, rfl⟩
  rw [hM]
  have h2 := hw.len
  have C := Lib.hid (len_any a most ns w h)
  have A0 := Lib.hid h
  have HW := Lib.hid hw
  have HM := Lib.hid hM
  clear h hw hM
  have hlen := A0.out.len
  have hw0 : IntKind.i64.wrap ((ns.length : Int) - 1) = ((ns.length - 1 : Nat) : Int) := by rw [IntKind.wrap_i64]; omega
  go_enter Try.func57, Try.ntmps57
  go_wp2_with fail
  refine C.out.mono ?_
  rintro e w' ⟨rfl, rfl⟩
  go_wp2_with fail
  go_loopw [4] (fun iv wr => ∃ d : Nat, iv = .int .i64 (d : Nat) ∧ 1 ≤ d ∧ d + 1 ≤ ns.length ∧ (M ≤ d + 1 ∨ d + 1 = ns.length) ∧ Hid (Ar wr a most (ns.take (d + 1))) ∧ Hid (Tr (fun _ => False) w a wr a)) (fun iv _ => (intOf iv).toNat)
  case atStart =>
    refine ⟨ns.length - 1, rfl, by omega, by omega, Or.inr (by omega), ?_, Lib.hid (Tr.refl _ _ _)⟩
    rw [show ns.length - 1 + 1 = ns.length by omega, List.take_length]; exact A0
  case round =>
    obtain ⟨d, rfl, hd1, hd2, hd3, hA, hT⟩ := hrel
    clear C hw0
    by_cases hn : n < 2
    · have hn' : n ≤ 2 := by omega
      by_cases hge : 2 ≤ (d : Int)
      · have hMd : M ≤ d := by have := HM.out; omega
        have hdl : d < (ns.take (d + 1)).length := by rw [List.length_take]; omega
        have hln : (ns.take (d + 1)).length = d + 1 := by rw [List.length_take]; omega
        have hgd : (ns.take (d + 1)).getD d bot = ns.getD d bot := by rw [List.getD_eq_getElem?_getD, List.getD_eq_getElem?_getD, List.getElem?_take, if_pos (by omega)]
        obtain ⟨nd, hnd⟩ : ∃ x, ns.getD d bot = x := ⟨_, rfl⟩
        have hok : nd.Ok := by
          obtain ⟨q1, q2, -, -, -, q3⟩ := HW.out.parts (f := d) (by have := HM.out; omega) (by omega)
          rw [hnd] at q1 q2
          unfold lv at q3
          rw [hnd] at q3
          exact ⟨by omega, by omega, by omega⟩
        obtain ⟨KL, hKL⟩ := key_node nd hok
        have n_0 : wr.cell? ⟨a.q, d * 3, none⟩ = some (.int .i64 (nd.v : Nat)) := hA.out.node (j := 0) hdl (by rw [hgd, hnd]; rfl)
        have n_1 : wr.cell? ⟨a.q, d * 3 + 1, none⟩ = some (.int .i64 (nd.l : Nat)) := hA.out.node (j := 1) hdl (by rw [hgd, hnd]; rfl)
        have n_2 : wr.cell? ⟨a.q, d * 3 + 2, none⟩ = some (.int .i64 (nd.h : Nat)) := hA.out.node (j := 2) hdl (by rw [hgd, hnd]; rfl)
        obtain ⟨a_0, a_1, a_2⟩ : _ ∧ _ ∧ _ := ⟨hA.out.s.1 0 _ rfl, hA.out.s.1 1 _ rfl, hA.out.s.1 2 _ rfl⟩
        obtain ⟨c, hc⟩ : ∃ c, d + 1 = c := ⟨_, rfl⟩
        have hdc : d < c := by omega
        rw [hln, hc] at a_1
        have hdrop : ∀ p : Nd × Nat, p ∈ numL (ns.take d) ↔ p ∈ numL (ns.take (d + 1)) ∧ p.1 ≠ nd := fun p => by
          obtain ⟨p1, p2⟩ := p
          rw [mem_numL, mem_numL]
          have hdg : ns[d]? = some nd := by rw [← hnd]; exact get_of_lt (by omega)
          constructor
          · rintro ⟨e1, e2⟩
            have hlt := lt_of_get e2
            rw [List.length_take] at hlt
            rw [List.getElem?_take, if_pos (by omega)] at e2
            refine ⟨⟨e1, by rw [List.getElem?_take, if_pos (by omega)]; exact e2⟩, fun e => ?_⟩
            simp only at e
            rw [e] at e2
            have := HW.out.inj p2 d nd e2 hdg
            omega
          · rintro ⟨⟨e1, e2⟩, e3⟩
            have hlt := lt_of_get e2
            rw [List.length_take] at hlt
            rw [List.getElem?_take, if_pos (by omega)] at e2
            refine ⟨e1, ?_⟩
            have : p2 ≠ d := fun e => by subst e; rw [hdg] at e2; cases e2; exact e3 rfl
            rw [List.getElem?_take, if_pos (by omega)]; exact e2
        obtain ⟨W2, hdel, hM2, hO2⟩ := mapG_del (ty := 0) keyedNode Try.underlying74 nv_inj hA.out.m.drew (k := nd) hKL hdrop
        simp only [nv] at hdel
        have M2 := Lib.hid hM2
        have O2 := Lib.hid hO2
        have hnx : IntKind.i64.wrap ((d : Int) - 1) = ((d - 1 : Nat) : Int) := by rw [IntKind.wrap_i64]; omega
        clear hM2 hO2 hdrop hKL hok
        have HCe := Lib.hid hc
        clear hc
        go_upto_region 3 with fail
        refine wp_region_noPanic ?_
        refine wp_region_along (S := fun w' => w'.cell? ⟨a.p, 1, none⟩ = some (.slice (some ⟨a.q, 0, none⟩) c a.cap) ∧ w'.cell? ⟨a.p, 2, none⟩ = some (.map (some a.m)) ∧ w'.cell? ⟨a.q, d * 3, none⟩ = some (.int .i64 (nd.v : Nat)) ∧ w'.cell? ⟨a.q, d * 3 + 1, none⟩ = some (.int .i64 (nd.l : Nat)) ∧ w'.cell? ⟨a.q, d * 3 + 2, none⟩ = some (.int .i64 (nd.h : Nat))) ([(0, true), (1, true), (2, true), (3, true), (4, true), (5, true), (6, true), (7, true), (8, true), (9, true), (10, true), (11, false)]) (by kernel_rfl) (by as_aux_lemma => kernel_rfl) (by kernel_rfl) (by kernel_rfl) (by as_aux_lemma => kernel_rfl) (by as_aux_lemma => kernel_rfl) (fun _ _ _ _ _ h => h) ⟨a_1, a_2, n_0, n_1, n_2⟩ (fun hH => ?_)
        simp only [stepsOf, pickOp]
        iterate 11 (first | (refine along_skip (by rfl) ?_; try simp only [Act.put, List.setIfInBounds_toArray, List.set_cons_zero, List.set_cons_succ]) | (refine along_pure ?_ (by rfl) (fun w hSw => ?_) ?_; rotate_left; (obtain ⟨s_1, s_2, s_3, s_4, s_5⟩ := hSw; go_simp; try with_reducible rfl); try simp only [Act.put, List.setIfInBounds_toArray, List.set_cons_zero, List.set_cons_succ]))
        clear hH
        refine along_bar (fun K hK => ?_)
        go_simp
        obtain ⟨es, clk, hmb⟩ := hA.out.m.isMap
        have hc2 : ∀ i o, (wr.cell? ⟨i, o, none⟩).isSome = true → W2.cell? ⟨i, o, none⟩ = wr.cell? ⟨i, o, none⟩ := fun i o h => O2.out.cell (w := wr.drew) hmb i o h
        refine hK.out _ _ ⟨(hc2 _ _ (by rw [a_1]; rfl)).trans a_1, (hc2 _ _ (by rw [a_2]; rfl)).trans a_2, (hc2 _ _ (by rw [n_0]; rfl)).trans n_0, (hc2 _ _ (by rw [n_1]; rfl)).trans n_1, (hc2 _ _ (by rw [n_2]; rfl)).trans n_2⟩ (fun hH => ?_)
        clear hK hH K
        try simp only [Act.put, List.setIfInBounds_toArray, List.set_cons_zero, List.set_cons_succ]
        refine along_end (NoPanic.normal ?_)
        have K2 := Lib.hid (show Keep (fun i => i = a.m) wr W2 from (Keep.refl _ _).drew.only O2.out (fun _ => rfl))
        have S2 := Lib.hid (K2.out.blk hA.out.s hA.out.pm)
        clear hc2 hmb hdel n_0 n_1 n_2 a_0 a_1 a_2
        obtain ⟨cur, q1, q2, q3, q4, q5⟩ := hA.out.row
        have hq2 : W2.heap[a.q]? = some (.cells cur 72 (0, 0)) := (K2.out.block _ hA.out.ql hA.out.qm).trans q1
        have hcap : d ≤ a.cap := by omega
        obtain ⟨a_0, a_1, a_2⟩ : _ ∧ _ ∧ _ := ⟨S2.out.1 0 _ rfl, S2.out.1 1 _ rfl, S2.out.1 2 _ rfl⟩
        obtain ⟨z_0, z_1, z_2⟩ : _ ∧ _ ∧ _ := ⟨S2.out.2 0 _ rfl, S2.out.2 1 _ rfl, S2.out.2 2 _ rfl⟩
        rw [hln, HCe.out] at a_1
        have HC := Lib.hid (And.intro hq2 (And.intro q2 (And.intro q3 (And.intro q4 q5))))
        clear hq2 q1 q2 q3 q4 q5
        go_upto_region 4 with fail
        go_wp2_with fail
        refine ⟨⟨d - 1, rfl, by omega, by omega, Or.inl (by omega), ?_, ?_⟩, by simp [intOf]; omega⟩
        · show Ar _ a most _
          rw [show d - 1 + 1 = d by omega]
          have hld : (ns.take d).length = d := by rw [List.length_take]; omega
          obtain ⟨o1, o2, o3, o4, o5⟩ := HC.out
          refine ⟨?_, ⟨by rw [flat_len], Or.inr ⟨a.q, a.cap, cur, by rw [hld], Nat.zero_le _, ?_, by rw [hld]; omega, o3, o4, ?_⟩⟩, M2.out.same (Below.heap_setCell _ _ _ _ (fun e => hA.out.pm e.symm)), by rw [hld]; omega, hA.out.most, hA.out.pq⟩
          · rw [hld]; exact S2.out.set 1 _ (by simp)
          · rw [Below.heap_setCell _ _ _ _ (fun e => hA.out.pq e.symm)]; exact o1
          · rw [hld]
            have e1 : cur.toList.take (d * 3) = (cur.toList.take ((ns.take (d + 1)).length * 3)).take (d * 3) := by rw [List.take_take, hln]; congr 1; omega
            rw [e1, o5, flat_take, List.take_take]; congr 2; omega
        · exact hT.out.trans ⟨(K2.out.mono (fun i _ e => Or.inl (Or.inr (Or.inr e)))).set _ _ (fun _ => Or.inl (Or.inl rfl)), Mv.refl _ _⟩
      · have hMd : d < M := by have := HM.out; omega
        go_wp2
        refine bodyPost_end (v := .tuple #[]) (by simp [results, Try.results57, go_sem]) rfl ?_
        have e1 : ns.take (d + 1) = ns.take M := by
          rcases hd3 with q | q
          · rw [show d + 1 = M by omega]
          · rw [q, List.take_length, List.take_of_length_le (by omega)]
        exact ⟨rfl, by rw [← e1]; exact hA.out, hT.out⟩
    · have hn' : 2 ≤ n := by omega
      by_cases hge : n ≤ (d : Int)
      · have hMd : M ≤ d := by have := HM.out; omega
        have hdl : d < (ns.take (d + 1)).length := by rw [List.length_take]; omega
        have hln : (ns.take (d + 1)).length = d + 1 := by rw [List.length_take]; omega
        have hgd : (ns.take (d + 1)).getD d bot = ns.getD d bot := by rw [List.getD_eq_getElem?_getD, List.getD_eq_getElem?_getD, List.getElem?_take, if_pos (by omega)]
        obtain ⟨nd, hnd⟩ : ∃ x, ns.getD d bot = x := ⟨_, rfl⟩
        have hok : nd.Ok := by
          obtain ⟨q1, q2, -, -, -, q3⟩ := HW.out.parts (f := d) (by have := HM.out; omega) (by omega)
          rw [hnd] at q1 q2
          unfold lv at q3
          rw [hnd] at q3
          exact ⟨by omega, by omega, by omega⟩
        obtain ⟨KL, hKL⟩ := key_node nd hok
        have n_0 : wr.cell? ⟨a.q, d * 3, none⟩ = some (.int .i64 (nd.v : Nat)) := hA.out.node (j := 0) hdl (by rw [hgd, hnd]; rfl)
        have n_1 : wr.cell? ⟨a.q, d * 3 + 1, none⟩ = some (.int .i64 (nd.l : Nat)) := hA.out.node (j := 1) hdl (by rw [hgd, hnd]; rfl)
        have n_2 : wr.cell? ⟨a.q, d * 3 + 2, none⟩ = some (.int .i64 (nd.h : Nat)) := hA.out.node (j := 2) hdl (by rw [hgd, hnd]; rfl)
        obtain ⟨a_0, a_1, a_2⟩ : _ ∧ _ ∧ _ := ⟨hA.out.s.1 0 _ rfl, hA.out.s.1 1 _ rfl, hA.out.s.1 2 _ rfl⟩
        obtain ⟨c, hc⟩ : ∃ c, d + 1 = c := ⟨_, rfl⟩
        have hdc : d < c := by omega
        rw [hln, hc] at a_1
        have hdrop : ∀ p : Nd × Nat, p ∈ numL (ns.take d) ↔ p ∈ numL (ns.take (d + 1)) ∧ p.1 ≠ nd := fun p => by
          obtain ⟨p1, p2⟩ := p
          rw [mem_numL, mem_numL]
          have hdg : ns[d]? = some nd := by rw [← hnd]; exact get_of_lt (by omega)
          constructor
          · rintro ⟨e1, e2⟩
            have hlt := lt_of_get e2
            rw [List.length_take] at hlt
            rw [List.getElem?_take, if_pos (by omega)] at e2
            refine ⟨⟨e1, by rw [List.getElem?_take, if_pos (by omega)]; exact e2⟩, fun e => ?_⟩
            simp only at e
            rw [e] at e2
            have := HW.out.inj p2 d nd e2 hdg
            omega
          · rintro ⟨⟨e1, e2⟩, e3⟩
            have hlt := lt_of_get e2
            rw [List.length_take] at hlt
            rw [List.getElem?_take, if_pos (by omega)] at e2
            refine ⟨e1, ?_⟩
            have : p2 ≠ d := fun e => by subst e; rw [hdg] at e2; cases e2; exact e3 rfl
            rw [List.getElem?_take, if_pos (by omega)]; exact e2
        obtain ⟨W2, hdel, hM2, hO2⟩ := mapG_del (ty := 0) keyedNode Try.underlying74 nv_inj hA.out.m.drew (k := nd) hKL hdrop
        simp only [nv] at hdel
        have M2 := Lib.hid hM2
        have O2 := Lib.hid hO2
        have hnx : IntKind.i64.wrap ((d : Int) - 1) = ((d - 1 : Nat) : Int) := by rw [IntKind.wrap_i64]; omega
        clear hM2 hO2 hdrop hKL hok
        have HCe := Lib.hid hc
        clear hc
        go_upto_region 3 with fail
        refine wp_region_noPanic ?_
        refine wp_region_along (S := fun w' => w'.cell? ⟨a.p, 1, none⟩ = some (.slice (some ⟨a.q, 0, none⟩) c a.cap) ∧ w'.cell? ⟨a.p, 2, none⟩ = some (.map (some a.m)) ∧ w'.cell? ⟨a.q, d * 3, none⟩ = some (.int .i64 (nd.v : Nat)) ∧ w'.cell? ⟨a.q, d * 3 + 1, none⟩ = some (.int .i64 (nd.l : Nat)) ∧ w'.cell? ⟨a.q, d * 3 + 2, none⟩ = some (.int .i64 (nd.h : Nat))) ([(0, true), (1, true), (2, true), (3, true), (4, true), (5, true), (6, true), (7, true), (8, true), (9, true), (10, true), (11, false)]) (by kernel_rfl) (by as_aux_lemma => kernel_rfl) (by kernel_rfl) (by kernel_rfl) (by as_aux_lemma => kernel_rfl) (by as_aux_lemma => kernel_rfl) (fun _ _ _ _ _ h => h) ⟨a_1, a_2, n_0, n_1, n_2⟩ (fun hH => ?_)
        simp only [stepsOf, pickOp]
        iterate 11 (first | (refine along_skip (by rfl) ?_; try simp only [Act.put, List.setIfInBounds_toArray, List.set_cons_zero, List.set_cons_succ]) | (refine along_pure ?_ (by rfl) (fun w hSw => ?_) ?_; rotate_left; (obtain ⟨s_1, s_2, s_3, s_4, s_5⟩ := hSw; go_simp; try with_reducible rfl); try simp only [Act.put, List.setIfInBounds_toArray, List.set_cons_zero, List.set_cons_succ]))
        clear hH
        refine along_bar (fun K hK => ?_)
        go_simp
        obtain ⟨es, clk, hmb⟩ := hA.out.m.isMap
        have hc2 : ∀ i o, (wr.cell? ⟨i, o, none⟩).isSome = true → W2.cell? ⟨i, o, none⟩ = wr.cell? ⟨i, o, none⟩ := fun i o h => O2.out.cell (w := wr.drew) hmb i o h
        refine hK.out _ _ ⟨(hc2 _ _ (by rw [a_1]; rfl)).trans a_1, (hc2 _ _ (by rw [a_2]; rfl)).trans a_2, (hc2 _ _ (by rw [n_0]; rfl)).trans n_0, (hc2 _ _ (by rw [n_1]; rfl)).trans n_1, (hc2 _ _ (by rw [n_2]; rfl)).trans n_2⟩ (fun hH => ?_)
        clear hK hH K
        try simp only [Act.put, List.setIfInBounds_toArray, List.set_cons_zero, List.set_cons_succ]
        refine along_end (NoPanic.normal ?_)
        have K2 := Lib.hid (show Keep (fun i => i = a.m) wr W2 from (Keep.refl _ _).drew.only O2.out (fun _ => rfl))
        have S2 := Lib.hid (K2.out.blk hA.out.s hA.out.pm)
        clear hc2 hmb hdel n_0 n_1 n_2 a_0 a_1 a_2
        obtain ⟨cur, q1, q2, q3, q4, q5⟩ := hA.out.row
        have hq2 : W2.heap[a.q]? = some (.cells cur 72 (0, 0)) := (K2.out.block _ hA.out.ql hA.out.qm).trans q1
        have hcap : d ≤ a.cap := by omega
        obtain ⟨a_0, a_1, a_2⟩ : _ ∧ _ ∧ _ := ⟨S2.out.1 0 _ rfl, S2.out.1 1 _ rfl, S2.out.1 2 _ rfl⟩
        obtain ⟨z_0, z_1, z_2⟩ : _ ∧ _ ∧ _ := ⟨S2.out.2 0 _ rfl, S2.out.2 1 _ rfl, S2.out.2 2 _ rfl⟩
        rw [hln, HCe.out] at a_1
        have HC := Lib.hid (And.intro hq2 (And.intro q2 (And.intro q3 (And.intro q4 q5))))
        clear hq2 q1 q2 q3 q4 q5
        go_upto_region 4 with fail
        go_wp2_with fail
        refine ⟨⟨d - 1, rfl, by omega, by omega, Or.inl (by omega), ?_, ?_⟩, by simp [intOf]; omega⟩
        · show Ar _ a most _
          rw [show d - 1 + 1 = d by omega]
          have hld : (ns.take d).length = d := by rw [List.length_take]; omega
          obtain ⟨o1, o2, o3, o4, o5⟩ := HC.out
          refine ⟨?_, ⟨by rw [flat_len], Or.inr ⟨a.q, a.cap, cur, by rw [hld], Nat.zero_le _, ?_, by rw [hld]; omega, o3, o4, ?_⟩⟩, M2.out.same (Below.heap_setCell _ _ _ _ (fun e => hA.out.pm e.symm)), by rw [hld]; omega, hA.out.most, hA.out.pq⟩
          · rw [hld]; exact S2.out.set 1 _ (by simp)
          · rw [Below.heap_setCell _ _ _ _ (fun e => hA.out.pq e.symm)]; exact o1
          · rw [hld]
            have e1 : cur.toList.take (d * 3) = (cur.toList.take ((ns.take (d + 1)).length * 3)).take (d * 3) := by rw [List.take_take, hln]; congr 1; omega
            rw [e1, o5, flat_take, List.take_take]; congr 2; omega
        · exact hT.out.trans ⟨(K2.out.mono (fun i _ e => Or.inl (Or.inr (Or.inr e)))).set _ _ (fun _ => Or.inl (Or.inl rfl)), Mv.refl _ _⟩
      · have hMd : d < M := by have := HM.out; omega
        go_wp2
        refine bodyPost_end (v := .tuple #[]) (by simp [results, Try.results57, go_sem]) rfl ?_
        have e1 : ns.take (d + 1) = ns.take M := by
          rcases hd3 with q | q
          · rw [show d + 1 = M by omega]
          · rw [q, List.take_length, List.take_of_length_le (by omega)]
        exact ⟨rfl, by rw [← e1]; exact hA.out, hT.out⟩
end Go.Proofs.Ytggcbklififcgab
/- Two sets joined; whole or not at all; numbers that ought to be sets'. -/
namespace Go.Proofs.Ytggcbklififcgab
open Go.RowKit
set_option linter.unusedVariables false

/-- What a call that may turn the arena answers, and leaves. -/
def Ans (most : Nat) (R : Option Nat × List Nd) (w : World) (a : AL) (e : Ending) (w' : World) : Prop :=
  e = .returned (.tuple #[.int .i64 (rv R.1 : Nat), .int .i64 (er R.1)]) ∧ ∃ a', Ar w' a' most R.2 ∧ Tr (fun _ => False) w a w' a'
/-- .. and the blocks X. -/
def AnsX (X : Nat → Prop) (most : Nat) (R : Option Nat × List Nd) (w : World) (a : AL) (e : Ending) (w' : World) : Prop :=
  e = .returned (.tuple #[.int .i64 (rv R.1 : Nat), .int .i64 (er R.1)]) ∧ ∃ a', Ar w' a' most R.2 ∧ Tr X w a w' a'
set_option maxRecDepth 100000 in
set_option maxHeartbeats 2000000 in
theorem join_core (kind most : Nat) (ns : List Nd) (f g : Nat) (w : World) (a : AL) (h : Ar w a most ns) (R : Option Nat × List Nd × Memo)
    (HP : Hid (∀ W jb db, Ar W a most ns → Jn W a jb db kind [] → Calls Try.prog 63 #[.pointer (some ⟨jb, 0, none⟩), .int .i64 (f : Nat), .int .i64 (g : Nat)] W fun e w' => e = .returned (.tuple #[.int .i64 (rv R.1 : Nat), .int .i64 (er R.1)]) ∧ ∃ a', Ar w' a' most R.2.1 ∧ Jn w' a' jb db kind R.2.2 ∧ Tr (fun i => i = db) W a w' a')) :
    Calls Try.prog 44 #[.pointer (some ⟨a.p, 0, none⟩), .int .i64 (kind : Nat), .int .i64 (f : Nat), .int .i64 (g : Nat)] w (Ans most (R.1, R.2.1) w a) := by
  unfold Ans
  obtain ⟨r0, e0, hr⟩ : ∃ r0 e0 : Int, ((rv R.1 : Nat) : Int) = r0 ∧ er R.1 = e0 := ⟨_, _, rfl, rfl⟩
  simp only
  rw [hr.1, hr.2] at HP ⊢
  clear hr
  have A0 := Lib.hid h
  clear h
  have hmm := @run_makeMap Try.prog
  go_enter Try.func44, Try.ntmps44
  go_upto_region 2 with fail
  refine at_code (S := fun W => Blk W (w.heap.size + 1) [.pointer (some ⟨a.p, 0, none⟩), .int .i64 (kind : Nat), .map (some w.heap.size)] ∧ MapG Try.prog 96 3 pkv W w.heap.size [] ∧ Below w.heap.size w W) ?_ (fun W1 hW => ?_)
  · refine ⟨?_, ?_, ?_⟩
    · have k := Blk.new (w.alloc (.map #[] 0)) 118 [.pointer (some ⟨a.p, 0, none⟩), .int .i64 (kind : Nat), .map (some w.heap.size)]
      rw [World.size_alloc] at k
      exact k
    · exact (MapG.made w).same (Below.heap_alloc _ _ _ (by simp))
    · exact bel_al (bel_al (Below.refl _ _) _) _
  obtain ⟨hJ, hD, hb⟩ := hW
  have A1 := Lib.hid (A0.out.on hb)
  have J1 := Lib.hid (show Jn W1 a (w.heap.size + 1) w.heap.size kind [] from ⟨hJ, hD, ⟨by have := A0.out.pl; omega, by have := A0.out.ql; omega, by have := A0.out.ml; omega⟩, ⟨by have := A0.out.pl; omega, by have := A0.out.ql; omega, by have := A0.out.ml; omega⟩⟩)
  have B1 := Lib.hid hb
  clear hJ hD hb hmm
  go_wp2_with fail
  refine (HP.out _ _ _ A1.out J1.out).mono ?_
  rintro e w2 ⟨rfl, a2, hA, -, hT⟩
  have F := Lib.hid (And.intro hA hT)
  clear hA hT
  go_wp2
  go_ret2
  exact ⟨rfl, a2, F.out.1, ⟨(Keep.of B1.out).trans F.out.2.k (fun i hi q => q.imp id (fun e => by omega)), (Tr.ahead B1.out F.out.2).m⟩⟩
set_option maxRecDepth 100000 in
set_option maxHeartbeats 2000000 in
/-- What was made stays, or is cut. -/
theorem whole_coreX (X : Nat → Prop) (most : Nat) (ns ns1 : List Nd) (r : Option Nat) (fn : Nat) (cap : Array Value) (w : World) (a : AL) (h : Ar w a most ns) (hw : WF ns) (hw1 : WF ns1) (hx : Ext ns ns1) (eg : ∀ args w, (callFunc fn args).run Try.prog w = .ok (.enter fn args) w)
    (HC : Hid (Calls Try.prog fn cap w (AnsX X most (r, ns1) w a))) :
    Calls Try.prog 42 #[.pointer (some ⟨a.p, 0, none⟩), .func (.func fn) #[] cap] w (AnsX X most (wholeF ns (r, ns1)) w a) := by
  have C0 := Lib.hid (len_any a most ns w h)
  have hl2 := hw.len
  unfold AnsX at HC ⊢
  cases r with
  | none =>
    have CU := Lib.hid (fun (a' : AL) (W : World) (hA : Ar W a' most ns1) => cut_any a' most ns1 (ns.length : Nat) W hA hw1)
    have htk : ns1.take (max ((ns.length : Nat) : Int).toNat 2) = ns := by rw [show max ((ns.length : Nat) : Int).toNat 2 = ns.length by omega]; exact hx.take
    rw [htk] at CU
    replace HC : Hid (Calls Try.prog fn cap w fun e w' => e = .returned (.tuple #[.int .i64 0, .int .i64 20]) ∧ ∃ a', Ar w' a' most ns1 ∧ Tr X w a w' a') := HC
    show Calls Try.prog 42 _ w fun e w' => e = .returned (.tuple #[.int .i64 0, .int .i64 20]) ∧ ∃ a', Ar w' a' most ns ∧ Tr X w a w' a'
    clear h hw hw1 hx htk hl2
    go_enter Try.func42, Try.ntmps42
    go_wp2_with fail
    refine C0.out.mono ?_
    rintro e w' ⟨rfl, rfl⟩
    go_wp2_with fail
    refine HC.out.mono ?_
    rintro e w1 ⟨rfl, a1, hA, hT⟩
    have A1 := Lib.hid hA
    have T1 := Lib.hid hT
    have hp := hT.m.1
    have CC := Lib.hid (CU.out a1 w1 hA)
    rw [hp] at CC
    clear hA hT hp C0 HC CU
    go_wp2_with fail
    refine CC.out.mono ?_
    rintro e w2 ⟨rfl, hA, hT⟩
    have F := Lib.hid (And.intro hA hT)
    clear hA hT
    go_wp2
    go_ret2
    exact ⟨rfl, a1, F.out.1, T1.out.trans F.out.2.weak⟩
  | some q =>
    replace HC : Hid (Calls Try.prog fn cap w fun e w' => e = .returned (.tuple #[.int .i64 (q : Nat), .int .i64 0]) ∧ ∃ a', Ar w' a' most ns1 ∧ Tr X w a w' a') := HC
    show Calls Try.prog 42 _ w fun e w' => e = .returned (.tuple #[.int .i64 (q : Nat), .int .i64 0]) ∧ ∃ a', Ar w' a' most ns1 ∧ Tr X w a w' a'
    clear h hw hw1 hx hl2
    go_enter Try.func42, Try.ntmps42
    go_wp2_with fail
    refine C0.out.mono ?_
    rintro e w' ⟨rfl, rfl⟩
    go_wp2_with fail
    refine HC.out.mono ?_
    rintro e w1 ⟨rfl, a1, hA, hT⟩
    have F := Lib.hid (And.intro hA hT)
    clear hA hT
    go_wp2
    go_ret2
    exact ⟨rfl, a1, F.out.1, F.out.2⟩
theorem whole_core (most : Nat) (ns ns1 : List Nd) (r : Option Nat) (fn : Nat) (cap : Array Value) (w : World) (a : AL) (h : Ar w a most ns) (hw : WF ns) (hw1 : WF ns1) (hx : Ext ns ns1) (eg : ∀ args w, (callFunc fn args).run Try.prog w = .ok (.enter fn args) w)
    (HC : Hid (Calls Try.prog fn cap w (Ans most (r, ns1) w a))) :
    Calls Try.prog 42 #[.pointer (some ⟨a.p, 0, none⟩), .func (.func fn) #[] cap] w (Ans most (wholeF ns (r, ns1)) w a) :=
  whole_coreX (fun _ => False) most ns ns1 r fn cap w a h hw hw1 hx eg HC
/-- The first number that is no set's is told. -/
def chkF (n : Nat) (l : List Int) : Int := if l.all (hasB n) then 0 else 1
set_option maxRecDepth 100000 in
set_option maxHeartbeats 2000000 in
theorem check_any (a : AL) (most : Nat) (ns : List Nd) (w : World) (h : Ar w a most ns) (b cap : Nat) (l : List Int) (hl : l.length ≤ 1000) (hc : ∀ i v, l[i]? = some v → w.cell? ⟨b, i, none⟩ = some (.int .i64 v)) :
    Calls Try.prog 41 #[.pointer (some ⟨a.p, 0, none⟩), .slice (some ⟨b, 0, none⟩) l.length cap] w fun e w' => e = .returned (.int .i64 (chkF ns.length l)) ∧ w = w' := by
  have C0 := Lib.hid (fun f => has_any a most ns f w h)
  have HC := Lib.hid hc
  clear h hc
  obtain ⟨n, hn⟩ : ∃ n, l.length = n := ⟨_, rfl⟩
  rw [hn]
  have HL := Lib.hid hn
  rw [hn] at hl
  clear hn
  go_enter Try.func41, Try.ntmps41
  go_wp2_with fail
  go_loopw [11] (fun iv wr => ∃ k : Nat, iv = .int .i64 (k : Nat) ∧ k ≤ n ∧ wr = w ∧ Hid ((l.take k).all (hasB ns.length) = true)) (fun iv _ => n - (intOf iv).toNat)
  case atStart => exact ⟨0, rfl, Nat.zero_le _, by first | rfl | trivial, Lib.hid (by simp)⟩
  case round =>
    obtain ⟨k, rfl, hk, rfl, hA⟩ := hrel
    by_cases hkn : k < n
    · obtain ⟨v, hv⟩ : ∃ v, l[k]? = some v := ⟨_, List.getElem?_eq_getElem (by have := HL.out; omega)⟩
      have c0 := HC.out k v hv
      have HV := Lib.hid hv
      have C := Lib.hid (C0.out v)
      clear C0 hv
      have hwk : IntKind.i64.wrap ((k : Int) + 1) = ((k + 1 : Nat) : Int) := by rw [IntKind.wrap_i64]; omega
      cases hb : hasB ns.length v with
      | true =>
        rw [hb] at C
        have HB := Lib.hid hb
        clear hb
        go_wp2_with fail
        refine C.out.mono ?_
        rintro e w' ⟨rfl, rfl⟩
        go_wp2_with fail
        refine ⟨⟨k + 1, ?_, by omega, by first | rfl | trivial, Lib.hid ?_⟩, by simp [intOf]; omega⟩
        · first | rfl | simp
        · rw [List.take_add_one, HV.out, List.all_append, hA.out]
          simp [HB.out]
      | false =>
        rw [hb] at C
        have HB := Lib.hid hb
        clear hb
        go_wp2_with fail
        refine C.out.mono ?_
        rintro e w' ⟨rfl, rfl⟩
        go_wp2
        go_ret
        refine ⟨?_, rfl⟩
        have : chkF ns.length l = 1 := by
          unfold chkF
          rw [if_neg]
          intro q
          rw [List.all_eq_true] at q
          have := q v (List.mem_of_getElem? HV.out)
          rw [HB.out] at this
          cases this
        rw [this]; rfl
    · have hkn' : k = n := by omega
      subst hkn'
      go_wp2
      go_ret
      refine ⟨?_, rfl⟩
      have : chkF ns.length l = 0 := by
        unfold chkF
        rw [if_pos]
        have := hA.out
        rw [← HL.out, List.take_length] at this
        exact this
      rw [this]; rfl
set_option maxHeartbeats 1000000 in
theorem check_nil (v : Value) (w : World) : Calls Try.prog 41 #[.pointer none, v] w fun e w' => e = .returned (.int .i64 2) ∧ w = w' := by
  go_enter Try.func41, Try.ntmps41
  go_wp2
  go_ret
  exact ⟨rfl, rfl⟩
end Go.Proofs.Ytggcbklififcgab
