/- Texts joined, in their order: AN, AP, AQ0. -/
import Derived.Test.YtggcbklififcgabGb914f46262
import Derived.Test.YtggcbklififcgabProg
/- A node's number. -/
namespace Go.Proofs.Ytggcbklififcgab
open Go.RowKit
set_option linter.unusedVariables false

/-- What a step answers: the set, or 0; what is wrong. -/
def rv (r : Option Nat) : Nat := r.getD 0
def er (r : Option Nat) : Int := if r = none then 20 else 0
theorem at_act {K : Act → World → Prop} {a : Act} {W : World} {S : World → Prop} (h : S W) (k : ∀ W, S W → K a W) : K a W := k W h
theorem wanted_then {c : Bool} {A B : Prop} (hc : c = true) (h : A) : if c = true then A else B := by rw [if_pos hc]; exact h
theorem wp_append_run {P : Program} {o : Oper} {a : Act} {w w' : World} {K : Act → World → Prop} {Q : Exit → Act → World → Prop} (s x : Operand) (t : TypeId) {v xv v' : Value}
    (ho : o.op = .call { callee := .builtin .append, args := #[s, x], argTypes := #[t, t] }) (hs : a.eval s = v) (hx : a.eval x = xv) (hr : (Builtin.append_ #[t, t] o.type #[v, xv]).run P w = .ok v' w') (h : K (a.put o.dst v') w') : o.wp P a w K Q := by
  unfold Oper.wp execOp
  simp only [ho, resolve, invoke, builtin, Sem.run_bind, Sem.run_pure, Result.andThen_ok, List.map_toArray, List.map_cons, List.map_nil, hs, hx, hr]
  exact h
set_option maxRecDepth 100000 in
set_option maxHeartbeats 4000000 in
theorem number_any (a : AL) (most : Nat) (ns : List Nd) (v l hi : Nat) (w : World) (h : Ar w a most ns) (hw : WF ns) (hn : (⟨v, l, hi⟩ : Nd).Ok) :
    Calls Try.prog 68 #[.pointer (some ⟨a.p, 0, none⟩), .agg #[.int .i64 (v : Nat), .int .i64 (l : Nat), .int .i64 (hi : Nat)]] w fun e w' => e = .returned (.tuple #[.int .i64 (rv (numF most ns ⟨v, l, hi⟩).1 : Nat), .int .i64 (er (numF most ns ⟨v, l, hi⟩).1)]) ∧ ∃ a', Ar w' a' most (numF most ns ⟨v, l, hi⟩).2 ∧ Tr (fun _ => False) w a w' a' := by
  obtain ⟨R, hR⟩ : ∃ R, numF most ns ⟨v, l, hi⟩ = R := ⟨_, rfl⟩
  rw [hR]
  have H0 := Lib.hid h
  have HR := Lib.hid hR
  have HW := Lib.hid hw
  have HN := Lib.hid hn
  clear h hR hw hn
  obtain ⟨KL, hKL⟩ := key_node ⟨v, l, hi⟩ HN.out
  have HK := Lib.hid hKL
  clear hKL
  go_enter Try.func68, Try.ntmps68
  go_upto_region 1 with fail
  refine at_code (S := fun W => Blk W w.heap.size [.int .i64 (v : Nat), .int .i64 (l : Nat), .int .i64 (hi : Nat)] ∧ Below w.heap.size w W) ⟨Blk.new _ _ _, bel_al (Below.refl _ _) _⟩ (fun W1 hW => ?_)
  obtain ⟨hN, hb⟩ := hW
  have N1 := Lib.hid hN
  have A1 := Lib.hid (H0.out.on hb)
  have B1 := Lib.hid hb
  have hpne := Lib.hid (show a.p ≠ w.heap.size by have := H0.out.pl; omega)
  have hqne := Lib.hid (show a.q ≠ w.heap.size by have := H0.out.ql; omega)
  have hmne := Lib.hid (show a.m ≠ w.heap.size by have := H0.out.ml; omega)
  clear hN hb
  obtain ⟨n_0, n_1, n_2⟩ : _ ∧ _ ∧ _ := ⟨N1.out.1 0 _ rfl, N1.out.1 1 _ rfl, N1.out.1 2 _ rfl⟩
  obtain ⟨a_0, a_1, a_2⟩ : _ ∧ _ ∧ _ := ⟨A1.out.s.1 0 _ rfl, A1.out.s.1 1 _ rfl, A1.out.s.1 2 _ rfl⟩
  by_cases c1 : l = hi
  · subst c1
    have hz : R = (some l, ns) := by rw [← HR.out]; unfold numF; rw [if_pos rfl]
    subst hz
    go_wp2
    go_ret2
    exact ⟨rfl, a, A1.out, ⟨Keep.of B1.out, Mv.refl _ _⟩⟩
  · have c1' : ((l : Int) == (hi : Int)) = false := by simp; omega
    go_upto_region 3 with fail
    cases hk : lookN ⟨v, l, hi⟩ ns with
    | some f =>
      have hz : R = (some f, ns) := by rw [← HR.out]; unfold numF; rw [if_neg c1, hk]
      subst hz
      have hf := lookN_some hk
      have hf2 : 2 ≤ f := by
        rcases Nat.lt_or_ge f 2 with q | q
        · exfalso
          have : f = 0 ∨ f = 1 := by omega
          rcases this with rfl | rfl
          · rw [HW.out.z] at hf; cases hf; exact c1 rfl
          · rw [HW.out.o] at hf; cases hf; exact c1 rfl
        · exact q
      have hlk : (Instr.lookup 74 (.map (some a.m)) (.agg #[.int .i64 (v : Nat), .int .i64 (l : Nat), .int .i64 (hi : Nat)]) true).run Try.prog W1.drew = .ok (.tuple #[.int .i64 (f : Nat), .bool true]) W1.drew := mapG_some keyedNode Try.underlying74 zeroInt nv_inj true A1.out.m.drew (k := ⟨v, l, hi⟩) HK.out (mem_numL.2 ⟨hf2, hf⟩) (numL_one HW.out)
      clear hf hf2 hk
      refine wp_region_noPanic ?_
      refine wp_region_along (S := fun w' => w' = W1.drew) ([(0, true), (1, true), (2, true), (3, true), (4, true), (5, true), (6, true), (7, true), (8, true), (9, true), (10, true)]) (by kernel_rfl) (by as_aux_lemma => kernel_rfl) (by kernel_rfl) (by kernel_rfl) (by as_aux_lemma => kernel_rfl) (by as_aux_lemma => kernel_rfl) (fun _ _ _ _ _ h => h) rfl (fun hH => ?_)
      simp only [stepsOf, pickOp]
      iterate 11 (first | (refine along_skip (by rfl) ?_; try simp only [Act.put, List.setIfInBounds_toArray, List.set_cons_zero, List.set_cons_succ]) | (refine along_pure ?_ (by rfl) (fun w hSw => ?_) ?_; rotate_left; (obtain rfl := hSw; go_simp; try with_reducible rfl); try simp only [Act.put, List.setIfInBounds_toArray, List.set_cons_zero, List.set_cons_succ]))
      refine along_end (NoPanic.normal ?_)
      clear hH
      go_wp2
      go_ret2
      exact ⟨rfl, a, A1.out.on (Below.refl _ _).drew, ⟨Keep.of B1.out.drew, Mv.refl _ _⟩⟩
    | none =>
      have hnot : (⟨v, l, hi⟩ : Nd) ∉ (numL ns).map (·.1) := fun q => by
        obtain ⟨p, hp1, hp2⟩ := List.mem_map.1 q
        obtain ⟨p1, p2⟩ := p
        have := (mem_numL.1 hp1).2
        exact lookN_none hk (by rw [← hp2]; exact List.mem_of_getElem? this)
      have hlk : (Instr.lookup 74 (.map (some a.m)) (.agg #[.int .i64 (v : Nat), .int .i64 (l : Nat), .int .i64 (hi : Nat)]) true).run Try.prog W1.drew = .ok (.tuple #[.int .i64 0, .bool false]) W1.drew := mapG_none keyedNode Try.underlying74 zeroInt nv_inj true A1.out.m.drew (k := ⟨v, l, hi⟩) HK.out hnot
      have HNot := Lib.hid hnot
      clear hnot
      refine wp_region_noPanic ?_
      refine wp_region_along (S := fun w' => w' = W1.drew) ([(0, true), (1, true), (2, true), (3, true), (4, true), (5, true), (6, true), (7, true), (8, true), (9, true), (10, true)]) (by kernel_rfl) (by as_aux_lemma => kernel_rfl) (by kernel_rfl) (by kernel_rfl) (by as_aux_lemma => kernel_rfl) (by as_aux_lemma => kernel_rfl) (fun _ _ _ _ _ h => h) rfl (fun hH => ?_)
      simp only [stepsOf, pickOp]
      iterate 11 (first | (refine along_skip (by rfl) ?_; try simp only [Act.put, List.setIfInBounds_toArray, List.set_cons_zero, List.set_cons_succ]) | (refine along_pure ?_ (by rfl) (fun w hSw => ?_) ?_; rotate_left; (obtain rfl := hSw; go_simp; try with_reducible rfl); try simp only [Act.put, List.setIfInBounds_toArray, List.set_cons_zero, List.set_cons_succ]))
      refine along_end (NoPanic.normal ?_)
      clear hH
      clear hlk
      obtain ⟨W2, hW⟩ : ∃ W, W = W1.drew := ⟨_, rfl⟩
      have N2 := Lib.hid (show Blk W2 w.heap.size [.int .i64 (v : Nat), .int .i64 (l : Nat), .int .i64 (hi : Nat)] by rw [hW]; exact N1.out.drew)
      have A2 := Lib.hid (show Ar W2 a most ns by rw [hW]; exact A1.out.on (Below.refl _ _).drew)
      have B2 := Lib.hid (show Below w.heap.size w W2 by rw [hW]; exact B1.out.drew)
      rw [← hW]
      clear hW n_0 n_1 n_2 a_0 a_1 a_2 N1 A1 B1
      obtain ⟨n_0, n_1, n_2⟩ : _ ∧ _ ∧ _ := ⟨N2.out.1 0 _ rfl, N2.out.1 1 _ rfl, N2.out.1 2 _ rfl⟩
      obtain ⟨a_0, a_1, a_2⟩ : _ ∧ _ ∧ _ := ⟨A2.out.s.1 0 _ rfl, A2.out.s.1 1 _ rfl, A2.out.s.1 2 _ rfl⟩
      go_upto_region 6 with fail
      refine wp_region_noPanic ?_
      refine wp_region_along (S := fun w' => w' = W2.drew) ([(0, true), (1, true), (2, true), (3, true), (4, true), (5, true), (6, true), (7, true), (8, true), (9, true)]) (by kernel_rfl) (by as_aux_lemma => kernel_rfl) (by kernel_rfl) (by kernel_rfl) (by as_aux_lemma => kernel_rfl) (by as_aux_lemma => kernel_rfl) (fun _ _ _ _ _ h => h) rfl (fun hH => ?_)
      simp only [stepsOf, pickOp]
      iterate 10 (first | (refine along_skip (by rfl) ?_; try simp only [Act.put, List.setIfInBounds_toArray, List.set_cons_zero, List.set_cons_succ]) | (refine along_pure ?_ (by rfl) (fun w hSw => ?_) ?_; rotate_left; (obtain rfl := hSw; go_simp; try with_reducible rfl); try simp only [Act.put, List.setIfInBounds_toArray, List.set_cons_zero, List.set_cons_succ]))
      refine along_end (NoPanic.normal ?_)
      clear hH
      obtain ⟨W3, hW⟩ : ∃ W, W = W2.drew := ⟨_, rfl⟩
      have N3 := Lib.hid (show Blk W3 w.heap.size [.int .i64 (v : Nat), .int .i64 (l : Nat), .int .i64 (hi : Nat)] by rw [hW]; exact N2.out.drew)
      have A3 := Lib.hid (show Ar W3 a most ns by rw [hW]; exact A2.out.on (Below.refl _ _).drew)
      have B3 := Lib.hid (show Below w.heap.size w W3 by rw [hW]; exact B2.out.drew)
      rw [← hW]
      clear hW n_0 n_1 n_2 a_0 a_1 a_2 N2 A2 B2
      obtain ⟨n_0, n_1, n_2⟩ : _ ∧ _ ∧ _ := ⟨N3.out.1 0 _ rfl, N3.out.1 1 _ rfl, N3.out.1 2 _ rfl⟩
      obtain ⟨a_0, a_1, a_2⟩ : _ ∧ _ ∧ _ := ⟨A3.out.s.1 0 _ rfl, A3.out.s.1 1 _ rfl, A3.out.s.1 2 _ rfl⟩
      by_cases c2 : most ≤ ns.length
      · have hz : R = (none, ns) := by rw [← HR.out]; unfold numF; rw [if_neg c1, hk]; simp only; rw [if_pos c2]
        subst hz
        have c2' : ((most : Int) ≤ (ns.length : Int)) := by omega
        go_wp2
        go_ret2
        exact ⟨rfl, a, A3.out, ⟨Keep.of B3.out, Mv.refl _ _⟩⟩
      · have hz : R = (some ns.length, ns ++ [⟨v, l, hi⟩]) := by rw [← HR.out]; unfold numF; rw [if_neg c1, hk]; simp only; rw [if_neg c2]
        subst hz
        have c2' : ¬ ((most : Int) ≤ (ns.length : Int)) := by omega
        go_upto_region 9 with fail
        refine wp_region_noPanic ?_
        refine wp_region_alongT (S := fun w' => w'.cell? ⟨w.heap.size, 0, none⟩ = some (.int .i64 (v : Nat)) ∧ w'.cell? ⟨w.heap.size, 1, none⟩ = some (.int .i64 (l : Nat)) ∧ w'.cell? ⟨w.heap.size, 2, none⟩ = some (.int .i64 (hi : Nat))) (.pure 0 (.pure 1 (.pure 2 (.pure 3 (.pure 5 (.b2 4 (.b1 6 (.b1 7 (.pure 8 (.pure 9 (.b1 10 .done))))) 6 (.b1 4 (.b1 7 (.pure 8 (.pure 9 (.b1 10 .done))))))))))) (by kernel_rfl) (by as_aux_lemma => kernel_rfl) (by decide) (by as_aux_lemma => kernel_rfl) (fun _ _ _ _ _ h => h) ⟨n_0, n_1, n_2⟩ (fun hH => ?_)
        iterate 5 (refine T_pure ?_ (by rfl) (fun w hSw => ?_) ?_; rotate_left; (obtain ⟨s_1, s_2, s_3⟩ := hSw; simp only [pickOp]; go_simp; try with_reducible rfl); try simp only [pickOp, Act.put, List.setIfInBounds_toArray, List.set_cons_zero, List.set_cons_succ])
        clear hH
        have hit := infoNode
        refine T_b2 (fun K hK => ?_) (fun K hK => ?_)
        · simp only [pickOp]
          go_simp
          refine hK.out _ _ ⟨n_0, n_1, n_2⟩ (fun hH => ?_)
          clear hK hH K
          try simp only [pickOp, Act.put, List.setIfInBounds_toArray, List.set_cons_zero, List.set_cons_succ]
          refine T_b1 (fun K hK => ?_)
          simp only [pickOp]
          go_simp
          refine at_act (S := fun W => Blk W W3.heap.size [.int .i64 (v : Nat), .int .i64 (l : Nat), .int .i64 (hi : Nat)] ∧ Below W3.heap.size W3 W) ⟨(Blk.new _ _ _).drew, (bel_al (Below.refl _ _) _).drew⟩ (fun W4 hW => ?_)
          obtain ⟨hX4, hb4⟩ := hW
          have X4 := Lib.hid hX4
          have N4 := Lib.hid (N3.out.on hb4)
          have A4 := Lib.hid (A3.out.on hb4)
          have B4 := Lib.hid (bel_on' B3.out hb4)
          have h34 := Lib.hid (show w.heap.size < W3.heap.size by have := N3.out.lt; omega)
          clear hX4 hb4 n_0 n_1 n_2 a_0 a_1 a_2 N3 A3 B3
          refine hK.out _ _ ⟨N4.out.1 0 _ rfl, N4.out.1 1 _ rfl, N4.out.1 2 _ rfl⟩ (fun hH => ?_)
          clear hK hH K
          try simp only [pickOp, Act.put, List.setIfInBounds_toArray, List.set_cons_zero, List.set_cons_succ]
          obtain ⟨it, hit, iz, isz, iby⟩ := hinfo_parts hit
          obtain ⟨v', W5, happ, hown, hgr, hnil, hat⟩ := run_append_own_at (P := Try.prog) W4 0 73 73 72 it (.agg #[.int .i64 0, .int .i64 0, .int .i64 0]) 3 24 Try.underlying73 hit iz isz iby rfl (by decide) (.slice (some ⟨a.q, 0, none⟩) ns.length a.cap) ns.length (ns.flatMap nc) A4.out.o ⟨W3.heap.size, 0, none⟩ 1 1 [.int .i64 (v : Nat), .int .i64 (l : Nat), .int .i64 (hi : Nat)] rfl
            (fun j u hj => by
              have := X4.out.1 j u hj
              match j, hj with
              | 0, _ => exact this
              | 1, _ => exact this
              | 2, _ => exact this) (by intro u hu; simp at hu; rcases hu with rfl | rfl | rfl <;> rfl) (by have := A4.out.len; unfold maxLen; omega) (by have := A4.out.len; omega) (Nat.zero_le _)
          have hv : ∃ q' cap', v' = .slice (some ⟨q', 0, none⟩) (ns.length + 1) cap' := by
            rcases hown.2 with ⟨-, e⟩ | ⟨g, cap, cur, e, -⟩
            · omega
            · exact ⟨g, cap, e⟩
          obtain ⟨q', cap', rfl⟩ := hv
          have G5 := Lib.hid hgr
          have O5 := Lib.hid hown
          have Q5 := Lib.hid (show q' = a.q ∨ q' = W4.heap.size by rcases hat with e | e <;> simp [Value.ownBlock] at e <;> omega)
          clear hgr hown hnil hat hit iz isz iby it
          refine T_b1 (fun K hK => ?_)
          refine wanted_then (by rfl) (wp_append_run _ _ 73 rfl rfl rfl happ ?_)
          have K5 := Lib.hid (show Keep (fun i => i = a.q) W4 W5 from (Keep.refl _ _).grown G5.out (fun k hk _ => by simp [Value.ownBlock] at hk; exact hk.symm))
          have S5 := Lib.hid (K5.out.blk A4.out.s A4.out.pq)
          have N5 := Lib.hid (K5.out.blk N4.out (fun e => hqne.out e.symm))
          clear happ
          refine hK.out _ _ ⟨N5.out.1 0 _ rfl, N5.out.1 1 _ rfl, N5.out.1 2 _ rfl⟩ (fun hH => ?_)
          clear hK hH K
          try simp only [pickOp, Act.put, List.setIfInBounds_toArray, List.set_cons_zero, List.set_cons_succ]
          iterate 2 (refine T_pure ?_ (by rfl) (fun w hSw => ?_) ?_; rotate_left; (obtain ⟨s_1, s_2, s_3⟩ := hSw; simp only [pickOp]; go_simp; try with_reducible rfl); try simp only [pickOp, Act.put, List.setIfInBounds_toArray, List.set_cons_zero, List.set_cons_succ])
          refine T_b1 (fun K hK => ?_)
          obtain ⟨s_0, s_1, s_2⟩ : _ ∧ _ ∧ _ := ⟨S5.out.1 0 _ rfl, S5.out.1 1 _ rfl, S5.out.1 2 _ rfl⟩
          obtain ⟨z_0, z_1, z_2⟩ : _ ∧ _ ∧ _ := ⟨S5.out.2 0 _ rfl, S5.out.2 1 _ rfl, S5.out.2 2 _ rfl⟩
          simp only [pickOp]
          go_simp
          refine at_act (S := fun W => Keep (fun i => i = a.p) W5 W ∧ Blk W a.p [.int .i64 (most : Nat), .slice (some ⟨q', 0, none⟩) (ns.length + 1) cap', .map (some a.m)]) ⟨(Keep.refl _ _).set _ _ (fun _ => rfl), S5.out.set 1 _ (by simp)⟩ (fun W6 hW => ?_)
          obtain ⟨hK6, hS6⟩ := hW
          have K6 := Lib.hid hK6
          have S6 := Lib.hid hS6
          have N6 := Lib.hid (K6.out.blk N5.out (fun e => hpne.out e.symm))
          clear hK6 hS6 s_0 s_1 s_2 z_0 z_1 z_2
          refine hK.out _ _ ⟨N6.out.1 0 _ rfl, N6.out.1 1 _ rfl, N6.out.1 2 _ rfl⟩ (fun hH => ?_)
          clear hK hH K
          try simp only [pickOp, Act.put, List.setIfInBounds_toArray, List.set_cons_zero, List.set_cons_succ]
          refine T_done (NoPanic.normal ?_)
          obtain ⟨n_0, n_1, n_2⟩ : _ ∧ _ ∧ _ := ⟨N6.out.1 0 _ rfl, N6.out.1 1 _ rfl, N6.out.1 2 _ rfl⟩
          obtain ⟨a_0, a_1, a_2⟩ : _ ∧ _ ∧ _ := ⟨S6.out.1 0 _ rfl, S6.out.1 1 _ rfl, S6.out.1 2 _ rfl⟩
          have M6 := Lib.hid (show MapG Try.prog 72 3 nv W6.drew a.m (numL ns) from ((A4.out.m.same (K5.out.block _ A4.out.ml (fun e => A4.out.qm e.symm))).same (K6.out.block _ (by have := K5.out.size; have := A4.out.ml; omega) (fun e => A4.out.pm e.symm))).drew)
          obtain ⟨W7, hup, hM7, hO7⟩ := mapG_store keyedNode Try.underlying74 Try.underlying3 nv_inj M6.out (k := ⟨v, l, hi⟩) (v := ns.length) HK.out HNot.out (by have := A4.out.len; omega) (by have := numL_len ns; have := A4.out.len; unfold maxLen; omega)
          have M7 := Lib.hid hM7
          have O7 := Lib.hid hO7
          clear hM7 hO7
          simp only [nv] at hup
          go_upto_region 10 with fail
          refine wp_region_noPanic ?_
          refine wp_region_along (S := fun w' => w'.cell? ⟨a.p, 2, none⟩ = some (.map (some a.m)) ∧ w'.cell? ⟨w.heap.size, 0, none⟩ = some (.int .i64 (v : Nat)) ∧ w'.cell? ⟨w.heap.size, 1, none⟩ = some (.int .i64 (l : Nat)) ∧ w'.cell? ⟨w.heap.size, 2, none⟩ = some (.int .i64 (hi : Nat))) ([(0, true), (1, true), (2, true), (3, true), (4, true), (5, true), (6, false)]) (by kernel_rfl) (by as_aux_lemma => kernel_rfl) (by kernel_rfl) (by kernel_rfl) (by as_aux_lemma => kernel_rfl) (by as_aux_lemma => kernel_rfl) (fun _ _ _ _ _ h => h) ⟨a_2, n_0, n_1, n_2⟩ (fun hH => ?_)
          simp only [stepsOf, pickOp]
          iterate 6 (first | (refine along_skip (by rfl) ?_; try simp only [Act.put, List.setIfInBounds_toArray, List.set_cons_zero, List.set_cons_succ]) | (refine along_pure ?_ (by rfl) (fun w hSw => ?_) ?_; rotate_left; (obtain ⟨s_0, s_1, s_2, s_3⟩ := hSw; go_simp; try with_reducible rfl); try simp only [Act.put, List.setIfInBounds_toArray, List.set_cons_zero, List.set_cons_succ]))
          clear hH
          refine along_bar (fun K hK => ?_)
          go_simp
          have K7 := Lib.hid (show Keep (fun i => i = a.m) W6 W7 from (Keep.refl _ _).drew.only O7.out (fun _ => rfl))
          have S7 := Lib.hid (K7.out.blk S6.out A4.out.pm)
          have N7 := Lib.hid (K7.out.blk N6.out (fun e => hmne.out e.symm))
          refine hK.out _ _ ⟨S7.out.1 2 _ rfl, N7.out.1 0 _ rfl, N7.out.1 1 _ rfl, N7.out.1 2 _ rfl⟩ (fun hH => ?_)
          clear hK hH K
          try simp only [Act.put, List.setIfInBounds_toArray, List.set_cons_zero, List.set_cons_succ]
          refine along_end (NoPanic.normal ?_)
          clear hup n_0 n_1 n_2 a_0 a_1 a_2
          have AF : Ar W7 ⟨a.p, q', a.m, cap'⟩ most (ns ++ [⟨v, l, hi⟩]) := by
            have hlen : (ns ++ [(⟨v, l, hi⟩ : Nd)]).length = ns.length + 1 := by simp
            have hq6 : W6.heap[q']? = W5.heap[q']? := K6.out.block q' (by
              rcases Q5.out with e | e
              · have := A4.out.ql; have := K5.out.size; omega
              · rcases O5.out.2 with ⟨e1, -⟩ | ⟨g, cap, cur, e1, -, hg, -⟩
                · cases e1
                · cases e1
                  rcases Nat.lt_or_ge q' W5.heap.size with r | r
                  · exact r
                  · rw [Array.getElem?_eq_none r] at hg; cases hg) (fun e => by
              rcases Q5.out with e1 | e1
              · exact A4.out.pq (e.symm.trans e1)
              · have := A4.out.pl; omega)
            have hq7 : W7.heap[q']? = W6.heap[q']? := O7.out.blk q' (fun e => by
              rcases Q5.out with e1 | e1
              · exact A4.out.qm (e1.symm.trans e)
              · have := A4.out.ml; omega)
            refine ⟨?_, ?_, ?_, by rw [hlen]; have := A4.out.most; omega, A4.out.most, ?_⟩
            · rw [hlen]; exact S7.out
            · rw [hlen]
              rcases O5.out with ⟨o1, o2⟩
              have hfl : (ns ++ [(⟨v, l, hi⟩ : Nd)]).flatMap nc = ns.flatMap nc ++ [.int .i64 (v : Nat), .int .i64 (l : Nat), .int .i64 (hi : Nat)] := by rw [List.flatMap_append]; rfl
              rw [hfl]
              refine ⟨o1, ?_⟩
              rcases o2 with ⟨e1, -⟩ | ⟨g, cap, cur, e1, o3, hg, o4⟩
              · cases e1
              · cases e1
                exact Or.inr ⟨q', cap', cur, rfl, Nat.zero_le _, by rw [hq7, hq6]; exact hg, o4⟩
            · refine M7.out.perm (fun p => ?_)
              obtain ⟨p1, p2⟩ := p
              rw [mem_numL, List.mem_cons, mem_numL]
              have h2 := HW.out.len
              constructor
              · rintro (e | ⟨e1, e2⟩)
                · cases e
                  exact ⟨h2, by simp⟩
                · exact ⟨e1, by rw [List.getElem?_append_left (lt_of_get e2)]; exact e2⟩
              · rintro ⟨e1, e2⟩
                rcases Nat.lt_or_ge p2 ns.length with r | r
                · rw [List.getElem?_append_left r] at e2
                  exact Or.inr ⟨e1, e2⟩
                · have : p2 < (ns ++ [(⟨v, l, hi⟩ : Nd)]).length := lt_of_get e2
                  have : p2 = ns.length := by omega
                  subst this
                  rw [List.getElem?_append_right (Nat.le_refl _), Nat.sub_self] at e2
                  cases e2
                  exact Or.inl rfl
            · show a.p ≠ q'
              rcases Q5.out with e1 | e1
              · rw [e1]; exact A4.out.pq
              · have := A4.out.pl; omega
          have TF : Tr (fun _ => False) w a W7 ⟨a.p, q', a.m, cap'⟩ := by
            refine ⟨?_, rfl, rfl, ?_⟩
            · have k4 : Keep (fun i => a.has i ∨ False) w W4 := Keep.of B4.out
              exact ((k4.trans K5.out (fun i _ e => Or.inl (Or.inr (Or.inl e)))).trans K6.out (fun i _ e => Or.inl (Or.inl e))).trans K7.out (fun i _ e => Or.inl (Or.inr (Or.inr e)))
            · rcases Q5.out with e1 | e1
              · exact Or.inl e1
              · right; show w.heap.size ≤ q'; have := B4.out.size; omega
          have HF := Lib.hid (And.intro AF TF)
          clear AF TF
          go_wp2
          go_ret2
          exact ⟨rfl, _, HF.out.1, HF.out.2⟩
        · simp only [pickOp]
          go_simp
          refine at_act (S := fun W => Blk W W3.heap.size [.int .i64 (v : Nat), .int .i64 (l : Nat), .int .i64 (hi : Nat)] ∧ Below W3.heap.size W3 W) ⟨(Blk.new _ _ _).drew, (bel_al (Below.refl _ _) _).drew⟩ (fun W4 hW => ?_)
          obtain ⟨hX4, hb4⟩ := hW
          have X4 := Lib.hid hX4
          have N4 := Lib.hid (N3.out.on hb4)
          have A4 := Lib.hid (A3.out.on hb4)
          have B4 := Lib.hid (bel_on' B3.out hb4)
          have h34 := Lib.hid (show w.heap.size < W3.heap.size by have := N3.out.lt; omega)
          clear hX4 hb4 n_0 n_1 n_2 a_0 a_1 a_2 N3 A3 B3
          refine hK.out _ _ ⟨N4.out.1 0 _ rfl, N4.out.1 1 _ rfl, N4.out.1 2 _ rfl⟩ (fun hH => ?_)
          clear hK hH K
          try simp only [pickOp, Act.put, List.setIfInBounds_toArray, List.set_cons_zero, List.set_cons_succ]
          obtain ⟨a_0, a_1, a_2⟩ : _ ∧ _ ∧ _ := ⟨A4.out.s.1 0 _ rfl, A4.out.s.1 1 _ rfl, A4.out.s.1 2 _ rfl⟩
          refine T_b1 (fun K hK => ?_)
          simp only [pickOp]
          go_simp
          refine hK.out _ _ ⟨N4.out.1 0 _ rfl, N4.out.1 1 _ rfl, N4.out.1 2 _ rfl⟩ (fun hH => ?_)
          clear hK hH K a_0 a_1 a_2
          try simp only [pickOp, Act.put, List.setIfInBounds_toArray, List.set_cons_zero, List.set_cons_succ]
          obtain ⟨it, hit, iz, isz, iby⟩ := hinfo_parts hit
          obtain ⟨v', W5, happ, hown, hgr, hnil, hat⟩ := run_append_own_at (P := Try.prog) W4 0 73 73 72 it (.agg #[.int .i64 0, .int .i64 0, .int .i64 0]) 3 24 Try.underlying73 hit iz isz iby rfl (by decide) (.slice (some ⟨a.q, 0, none⟩) ns.length a.cap) ns.length (ns.flatMap nc) A4.out.o ⟨W3.heap.size, 0, none⟩ 1 1 [.int .i64 (v : Nat), .int .i64 (l : Nat), .int .i64 (hi : Nat)] rfl
            (fun j u hj => by
              have := X4.out.1 j u hj
              match j, hj with
              | 0, _ => exact this
              | 1, _ => exact this
              | 2, _ => exact this) (by intro u hu; simp at hu; rcases hu with rfl | rfl | rfl <;> rfl) (by have := A4.out.len; unfold maxLen; omega) (by have := A4.out.len; omega) (Nat.zero_le _)
          have hv : ∃ q' cap', v' = .slice (some ⟨q', 0, none⟩) (ns.length + 1) cap' := by
            rcases hown.2 with ⟨-, e⟩ | ⟨g, cap, cur, e, -⟩
            · omega
            · exact ⟨g, cap, e⟩
          obtain ⟨q', cap', rfl⟩ := hv
          have G5 := Lib.hid hgr
          have O5 := Lib.hid hown
          have Q5 := Lib.hid (show q' = a.q ∨ q' = W4.heap.size by rcases hat with e | e <;> simp [Value.ownBlock] at e <;> omega)
          clear hgr hown hnil hat hit iz isz iby it
          refine T_b1 (fun K hK => ?_)
          refine wanted_then (by rfl) (wp_append_run _ _ 73 rfl rfl rfl happ ?_)
          have K5 := Lib.hid (show Keep (fun i => i = a.q) W4 W5 from (Keep.refl _ _).grown G5.out (fun k hk _ => by simp [Value.ownBlock] at hk; exact hk.symm))
          have S5 := Lib.hid (K5.out.blk A4.out.s A4.out.pq)
          have N5 := Lib.hid (K5.out.blk N4.out (fun e => hqne.out e.symm))
          clear happ
          refine hK.out _ _ ⟨N5.out.1 0 _ rfl, N5.out.1 1 _ rfl, N5.out.1 2 _ rfl⟩ (fun hH => ?_)
          clear hK hH K
          try simp only [pickOp, Act.put, List.setIfInBounds_toArray, List.set_cons_zero, List.set_cons_succ]
          iterate 2 (refine T_pure ?_ (by rfl) (fun w hSw => ?_) ?_; rotate_left; (obtain ⟨s_1, s_2, s_3⟩ := hSw; simp only [pickOp]; go_simp; try with_reducible rfl); try simp only [pickOp, Act.put, List.setIfInBounds_toArray, List.set_cons_zero, List.set_cons_succ])
          refine T_b1 (fun K hK => ?_)
          obtain ⟨s_0, s_1, s_2⟩ : _ ∧ _ ∧ _ := ⟨S5.out.1 0 _ rfl, S5.out.1 1 _ rfl, S5.out.1 2 _ rfl⟩
          obtain ⟨z_0, z_1, z_2⟩ : _ ∧ _ ∧ _ := ⟨S5.out.2 0 _ rfl, S5.out.2 1 _ rfl, S5.out.2 2 _ rfl⟩
          simp only [pickOp]
          go_simp
          refine at_act (S := fun W => Keep (fun i => i = a.p) W5 W ∧ Blk W a.p [.int .i64 (most : Nat), .slice (some ⟨q', 0, none⟩) (ns.length + 1) cap', .map (some a.m)]) ⟨(Keep.refl _ _).set _ _ (fun _ => rfl), S5.out.set 1 _ (by simp)⟩ (fun W6 hW => ?_)
          obtain ⟨hK6, hS6⟩ := hW
          have K6 := Lib.hid hK6
          have S6 := Lib.hid hS6
          have N6 := Lib.hid (K6.out.blk N5.out (fun e => hpne.out e.symm))
          clear hK6 hS6 s_0 s_1 s_2 z_0 z_1 z_2
          refine hK.out _ _ ⟨N6.out.1 0 _ rfl, N6.out.1 1 _ rfl, N6.out.1 2 _ rfl⟩ (fun hH => ?_)
          clear hK hH K
          try simp only [pickOp, Act.put, List.setIfInBounds_toArray, List.set_cons_zero, List.set_cons_succ]
          refine T_done (NoPanic.normal ?_)
          obtain ⟨n_0, n_1, n_2⟩ : _ ∧ _ ∧ _ := ⟨N6.out.1 0 _ rfl, N6.out.1 1 _ rfl, N6.out.1 2 _ rfl⟩
          obtain ⟨a_0, a_1, a_2⟩ : _ ∧ _ ∧ _ := ⟨S6.out.1 0 _ rfl, S6.out.1 1 _ rfl, S6.out.1 2 _ rfl⟩
          have M6 := Lib.hid (show MapG Try.prog 72 3 nv W6.drew a.m (numL ns) from ((A4.out.m.same (K5.out.block _ A4.out.ml (fun e => A4.out.qm e.symm))).same (K6.out.block _ (by have := K5.out.size; have := A4.out.ml; omega) (fun e => A4.out.pm e.symm))).drew)
          obtain ⟨W7, hup, hM7, hO7⟩ := mapG_store keyedNode Try.underlying74 Try.underlying3 nv_inj M6.out (k := ⟨v, l, hi⟩) (v := ns.length) HK.out HNot.out (by have := A4.out.len; omega) (by have := numL_len ns; have := A4.out.len; unfold maxLen; omega)
          have M7 := Lib.hid hM7
          have O7 := Lib.hid hO7
          clear hM7 hO7
          simp only [nv] at hup
          go_upto_region 10 with fail
          refine wp_region_noPanic ?_
          refine wp_region_along (S := fun w' => w'.cell? ⟨a.p, 2, none⟩ = some (.map (some a.m)) ∧ w'.cell? ⟨w.heap.size, 0, none⟩ = some (.int .i64 (v : Nat)) ∧ w'.cell? ⟨w.heap.size, 1, none⟩ = some (.int .i64 (l : Nat)) ∧ w'.cell? ⟨w.heap.size, 2, none⟩ = some (.int .i64 (hi : Nat))) ([(0, true), (1, true), (2, true), (3, true), (4, true), (5, true), (6, false)]) (by kernel_rfl) (by as_aux_lemma => kernel_rfl) (by kernel_rfl) (by kernel_rfl) (by as_aux_lemma => kernel_rfl) (by as_aux_lemma => kernel_rfl) (fun _ _ _ _ _ h => h) ⟨a_2, n_0, n_1, n_2⟩ (fun hH => ?_)
          simp only [stepsOf, pickOp]
          iterate 6 (first | (refine along_skip (by rfl) ?_; try simp only [Act.put, List.setIfInBounds_toArray, List.set_cons_zero, List.set_cons_succ]) | (refine along_pure ?_ (by rfl) (fun w hSw => ?_) ?_; rotate_left; (obtain ⟨s_0, s_1, s_2, s_3⟩ := hSw; go_simp; try with_reducible rfl); try simp only [Act.put, List.setIfInBounds_toArray, List.set_cons_zero, List.set_cons_succ]))
          clear hH
          refine along_bar (fun K hK => ?_)
          go_simp
          have K7 := Lib.hid (show Keep (fun i => i = a.m) W6 W7 from (Keep.refl _ _).drew.only O7.out (fun _ => rfl))
          have S7 := Lib.hid (K7.out.blk S6.out A4.out.pm)
          have N7 := Lib.hid (K7.out.blk N6.out (fun e => hmne.out e.symm))
          refine hK.out _ _ ⟨S7.out.1 2 _ rfl, N7.out.1 0 _ rfl, N7.out.1 1 _ rfl, N7.out.1 2 _ rfl⟩ (fun hH => ?_)
          clear hK hH K
          try simp only [Act.put, List.setIfInBounds_toArray, List.set_cons_zero, List.set_cons_succ]
          refine along_end (NoPanic.normal ?_)
          clear hup n_0 n_1 n_2 a_0 a_1 a_2
          have AF : Ar W7 ⟨a.p, q', a.m, cap'⟩ most (ns ++ [⟨v, l, hi⟩]) := by
            have hlen : (ns ++ [(⟨v, l, hi⟩ : Nd)]).length = ns.length + 1 := by simp
            have hq6 : W6.heap[q']? = W5.heap[q']? := K6.out.block q' (by
              rcases Q5.out with e | e
              · have := A4.out.ql; have := K5.out.size; omega
              · rcases O5.out.2 with ⟨e1, -⟩ | ⟨g, cap, cur, e1, -, hg, -⟩
                · cases e1
                · cases e1
                  rcases Nat.lt_or_ge q' W5.heap.size with r | r
                  · exact r
                  · rw [Array.getElem?_eq_none r] at hg; cases hg) (fun e => by
              rcases Q5.out with e1 | e1
              · exact A4.out.pq (e.symm.trans e1)
              · have := A4.out.pl; omega)
            have hq7 : W7.heap[q']? = W6.heap[q']? := O7.out.blk q' (fun e => by
              rcases Q5.out with e1 | e1
              · exact A4.out.qm (e1.symm.trans e)
              · have := A4.out.ml; omega)
            refine ⟨?_, ?_, ?_, by rw [hlen]; have := A4.out.most; omega, A4.out.most, ?_⟩
            · rw [hlen]; exact S7.out
            · rw [hlen]
              rcases O5.out with ⟨o1, o2⟩
              have hfl : (ns ++ [(⟨v, l, hi⟩ : Nd)]).flatMap nc = ns.flatMap nc ++ [.int .i64 (v : Nat), .int .i64 (l : Nat), .int .i64 (hi : Nat)] := by rw [List.flatMap_append]; rfl
              rw [hfl]
              refine ⟨o1, ?_⟩
              rcases o2 with ⟨e1, -⟩ | ⟨g, cap, cur, e1, o3, hg, o4⟩
              · cases e1
              · cases e1
                exact Or.inr ⟨q', cap', cur, rfl, Nat.zero_le _, by rw [hq7, hq6]; exact hg, o4⟩
            · refine M7.out.perm (fun p => ?_)
              obtain ⟨p1, p2⟩ := p
              rw [mem_numL, List.mem_cons, mem_numL]
              have h2 := HW.out.len
              constructor
              · rintro (e | ⟨e1, e2⟩)
                · cases e
                  exact ⟨h2, by simp⟩
                · exact ⟨e1, by rw [List.getElem?_append_left (lt_of_get e2)]; exact e2⟩
              · rintro ⟨e1, e2⟩
                rcases Nat.lt_or_ge p2 ns.length with r | r
                · rw [List.getElem?_append_left r] at e2
                  exact Or.inr ⟨e1, e2⟩
                · have : p2 < (ns ++ [(⟨v, l, hi⟩ : Nd)]).length := lt_of_get e2
                  have : p2 = ns.length := by omega
                  subst this
                  rw [List.getElem?_append_right (Nat.le_refl _), Nat.sub_self] at e2
                  cases e2
                  exact Or.inl rfl
            · show a.p ≠ q'
              rcases Q5.out with e1 | e1
              · rw [e1]; exact A4.out.pq
              · have := A4.out.pl; omega
          have TF : Tr (fun _ => False) w a W7 ⟨a.p, q', a.m, cap'⟩ := by
            refine ⟨?_, rfl, rfl, ?_⟩
            · have k4 : Keep (fun i => a.has i ∨ False) w W4 := Keep.of B4.out
              exact ((k4.trans K5.out (fun i _ e => Or.inl (Or.inr (Or.inl e)))).trans K6.out (fun i _ e => Or.inl (Or.inl e))).trans K7.out (fun i _ e => Or.inl (Or.inr (Or.inr e)))
            · rcases Q5.out with e1 | e1
              · exact Or.inl e1
              · right; show w.heap.size ≤ q'; have := B4.out.size; omega
          have HF := Lib.hid (And.intro AF TF)
          clear AF TF
          go_wp2
          go_ret2
          exact ⟨rfl, _, HF.out.1, HF.out.2⟩
end Go.Proofs.Ytggcbklififcgab
/- What two sets are joined to without a bit; a set's parts; how many there are. -/
namespace Go.Proofs.Ytggcbklififcgab
open Go.RowKit
set_option linter.unusedVariables false
set_option linter.unusedSimpArgs false

set_option maxHeartbeats 1000000 in
theorem pand_any (f g : Nat) (w : World) : Calls Try.prog 75 #[.int .i64 (f : Nat), .int .i64 (g : Nat)] w fun e w' => e = .returned (.tuple #[.int .i64 (rv (plainF 0 f g) : Nat), .bool (plainF 0 f g).isSome]) ∧ w = w' := by
  by_cases c0 : f = 0
  · subst c0
    have hz : plainF 0 0 g = some 0 := by simp [plainF]
    rw [hz]
    go_enter Try.func75, Try.ntmps75
    go_wp2
    go_ret2
    exact ⟨rfl, rfl⟩
  · have e0 : ((f : Int) == 0) = false := by simp; omega
    by_cases c1 : g = 0
    · subst c1
      have hz : plainF 0 f 0 = some 0 := by simp [plainF, c0]
      rw [hz]
      go_enter Try.func75, Try.ntmps75
      go_wp2
      go_ret2
      exact ⟨rfl, rfl⟩
    · have e1 : ((g : Int) == 0) = false := by simp; omega
      by_cases c2 : f = 1
      · subst c2
        have hz : plainF 0 1 g = some g := by simp [plainF, c0, c1]
        rw [hz]
        go_enter Try.func75, Try.ntmps75
        go_wp2
        go_ret2
        exact ⟨rfl, rfl⟩
      · have e2 : ((f : Int) == 1) = false := by simp; omega
        by_cases c3 : g = 1
        · subst c3
          have hz : plainF 0 f 1 = some f := by simp [plainF, c0, c1, c2]
          rw [hz]
          go_enter Try.func75, Try.ntmps75
          go_wp2
          go_ret2
          exact ⟨rfl, rfl⟩
        · have e3 : ((g : Int) == 1) = false := by simp; omega
          by_cases c4 : f = g
          · subst c4
            have hz : plainF 0 f f = some f := by simp [plainF, c0, c1, c2, c3]
            rw [hz]
            go_enter Try.func75, Try.ntmps75
            go_wp2
            go_ret2
            exact ⟨rfl, rfl⟩
          · have e4 : ((f : Int) == (g : Int)) = false := by simp; omega
            have hz : plainF 0 f g = none := by simp [plainF, c0, c1, c2, c3, c4]
            rw [hz]
            go_enter Try.func75, Try.ntmps75
            go_wp2
            go_ret2
            exact ⟨rfl, rfl⟩
set_option maxHeartbeats 1000000 in
theorem por_any (f g : Nat) (w : World) : Calls Try.prog 76 #[.int .i64 (f : Nat), .int .i64 (g : Nat)] w fun e w' => e = .returned (.tuple #[.int .i64 (rv (plainF 1 f g) : Nat), .bool (plainF 1 f g).isSome]) ∧ w = w' := by
  by_cases c0 : f = 1
  · subst c0
    have hz : plainF 1 1 g = some 1 := by simp [plainF]
    rw [hz]
    go_enter Try.func76, Try.ntmps76
    go_wp2
    go_ret2
    exact ⟨rfl, rfl⟩
  · have e0 : ((f : Int) == 1) = false := by simp; omega
    by_cases c1 : g = 1
    · subst c1
      have hz : plainF 1 f 1 = some 1 := by simp [plainF, c0]
      rw [hz]
      go_enter Try.func76, Try.ntmps76
      go_wp2
      go_ret2
      exact ⟨rfl, rfl⟩
    · have e1 : ((g : Int) == 1) = false := by simp; omega
      by_cases c2 : f = 0
      · subst c2
        have hz : plainF 1 0 g = some g := by simp [plainF, c0, c1]
        rw [hz]
        go_enter Try.func76, Try.ntmps76
        go_wp2
        go_ret2
        exact ⟨rfl, rfl⟩
      · have e2 : ((f : Int) == 0) = false := by simp; omega
        by_cases c3 : g = 0
        · subst c3
          have hz : plainF 1 f 0 = some f := by simp [plainF, c0, c1, c2]
          rw [hz]
          go_enter Try.func76, Try.ntmps76
          go_wp2
          go_ret2
          exact ⟨rfl, rfl⟩
        · have e3 : ((g : Int) == 0) = false := by simp; omega
          by_cases c4 : f = g
          · subst c4
            have hz : plainF 1 f f = some f := by simp [plainF, c0, c1, c2, c3]
            rw [hz]
            go_enter Try.func76, Try.ntmps76
            go_wp2
            go_ret2
            exact ⟨rfl, rfl⟩
          · have e4 : ((f : Int) == (g : Int)) = false := by simp; omega
            have hz : plainF 1 f g = none := by simp [plainF, c0, c1, c2, c3, c4]
            rw [hz]
            go_enter Try.func76, Try.ntmps76
            go_wp2
            go_ret2
            exact ⟨rfl, rfl⟩
set_option maxHeartbeats 1000000 in
theorem pxor_any (f g : Nat) (w : World) : Calls Try.prog 77 #[.int .i64 (f : Nat), .int .i64 (g : Nat)] w fun e w' => e = .returned (.tuple #[.int .i64 (rv (plainF 2 f g) : Nat), .bool (plainF 2 f g).isSome]) ∧ w = w' := by
  by_cases c0 : f = g
  · subst c0
    have hz : plainF 2 f f = some 0 := by simp [plainF]
    rw [hz]
    go_enter Try.func77, Try.ntmps77
    go_wp2
    go_ret2
    exact ⟨rfl, rfl⟩
  · have e0 : ((f : Int) == (g : Int)) = false := by simp; omega
    by_cases c1 : f = 0
    · subst c1
      have hz : plainF 2 0 g = some g := by simp [plainF, c0]
      rw [hz]
      go_enter Try.func77, Try.ntmps77
      go_wp2
      go_ret2
      exact ⟨rfl, rfl⟩
    · have e1 : ((f : Int) == 0) = false := by simp; omega
      by_cases c2 : g = 0
      · subst c2
        have hz : plainF 2 f 0 = some f := by simp [plainF, c0, c1]
        rw [hz]
        go_enter Try.func77, Try.ntmps77
        go_wp2
        go_ret2
        exact ⟨rfl, rfl⟩
      · have e2 : ((g : Int) == 0) = false := by simp; omega
        have hz : plainF 2 f g = none := by simp [plainF, c0, c1, c2]
        rw [hz]
        go_enter Try.func77, Try.ntmps77
        go_wp2
        go_ret2
        exact ⟨rfl, rfl⟩
set_option maxHeartbeats 1000000 in
theorem pdiff_any (f g : Nat) (w : World) : Calls Try.prog 78 #[.int .i64 (f : Nat), .int .i64 (g : Nat)] w fun e w' => e = .returned (.tuple #[.int .i64 (rv (plainF 3 f g) : Nat), .bool (plainF 3 f g).isSome]) ∧ w = w' := by
  by_cases c0 : f = 0
  · subst c0
    have hz : plainF 3 0 g = some 0 := by simp [plainF]
    rw [hz]
    go_enter Try.func78, Try.ntmps78
    go_wp2
    go_ret2
    exact ⟨rfl, rfl⟩
  · have e0 : ((f : Int) == 0) = false := by simp; omega
    by_cases c1 : g = 1
    · subst c1
      have hz : plainF 3 f 1 = some 0 := by simp [plainF, c0]
      rw [hz]
      go_enter Try.func78, Try.ntmps78
      go_wp2
      go_ret2
      exact ⟨rfl, rfl⟩
    · have e1 : ((g : Int) == 1) = false := by simp; omega
      by_cases c2 : f = g
      · subst c2
        have hz : plainF 3 f f = some 0 := by simp [plainF, c0, c1]
        rw [hz]
        go_enter Try.func78, Try.ntmps78
        go_wp2
        go_ret2
        exact ⟨rfl, rfl⟩
      · have e2 : ((f : Int) == (g : Int)) = false := by simp; omega
        by_cases c3 : g = 0
        · subst c3
          have hz : plainF 3 f 0 = some f := by simp [plainF, c0, c1, c2]
          rw [hz]
          go_enter Try.func78, Try.ntmps78
          go_wp2
          go_ret2
          exact ⟨rfl, rfl⟩
        · have e3 : ((g : Int) == 0) = false := by simp; omega
          have hz : plainF 3 f g = none := by simp [plainF, c0, c1, c2, c3]
          rw [hz]
          go_enter Try.func78, Try.ntmps78
          go_wp2
          go_ret2
          exact ⟨rfl, rfl⟩
set_option maxHeartbeats 1000000 in
theorem plain_any (k f g : Nat) (w : World) : Calls Try.prog 71 #[.int .i64 (k : Nat), .int .i64 (f : Nat), .int .i64 (g : Nat)] w fun e w' => e = .returned (.tuple #[.int .i64 (rv (plainF k f g) : Nat), .bool (plainF k f g).isSome]) ∧ w = w' := by
  by_cases c0 : k = 0
  · subst c0
    have C := Lib.hid (pand_any f g w)
    go_enter Try.func71, Try.ntmps71
    go_wp2_with fail
    refine C.out.mono ?_
    rintro e w' ⟨rfl, rfl⟩
    go_wp2
    go_ret2
    exact ⟨rfl, rfl⟩
  have e0 : ((k : Int) == 0) = false := by simp; omega
  by_cases c1 : k = 1
  · subst c1
    have C := Lib.hid (por_any f g w)
    go_enter Try.func71, Try.ntmps71
    go_wp2_with fail
    refine C.out.mono ?_
    rintro e w' ⟨rfl, rfl⟩
    go_wp2
    go_ret2
    exact ⟨rfl, rfl⟩
  have e1 : ((k : Int) == 1) = false := by simp; omega
  by_cases c2 : k = 2
  · subst c2
    have C := Lib.hid (pxor_any f g w)
    go_enter Try.func71, Try.ntmps71
    go_wp2_with fail
    refine C.out.mono ?_
    rintro e w' ⟨rfl, rfl⟩
    go_wp2
    go_ret2
    exact ⟨rfl, rfl⟩
  have e2 : ((k : Int) == 2) = false := by simp; omega
  have hk : plainF k f g = plainF 3 f g := by unfold plainF; rw [if_neg c0, if_neg c1, if_neg c2]; rfl
  rw [hk]
  have C := Lib.hid (pdiff_any f g w)
  go_enter Try.func71, Try.ntmps71
  go_wp2_with fail
  refine C.out.mono ?_
  rintro e w' ⟨rfl, rfl⟩
  go_wp2
  go_ret2
  exact ⟨rfl, rfl⟩
set_option maxRecDepth 100000 in
set_option maxHeartbeats 1000000 in
theorem parts_any (a : AL) (most : Nat) (ns : List Nd) (f lev : Nat) (w : World) (h : Ar w a most ns) (hf : f < ns.length) :
    Calls Try.prog 72 #[.pointer (some ⟨a.p, 0, none⟩), .int .i64 (f : Nat), .int .i64 (lev : Nat)] w fun e w' => e = .returned (nv (partF ns f lev)) ∧ Below w.heap.size w w' := by
  obtain ⟨R, hR⟩ : ∃ R, partF ns f lev = R := ⟨_, rfl⟩
  rw [hR]
  have HR := Lib.hid hR
  clear hR
  obtain ⟨n, hn⟩ : ∃ n, ns.getD f bot = n := ⟨_, rfl⟩
  obtain ⟨v, l, hi⟩ := n
  have HN := Lib.hid hn
  have H0 := Lib.hid h
  clear h hn
  go_enter Try.func72, Try.ntmps72
  go_upto_region 1 with fail
  refine at_code (S := fun W => Blk W w.heap.size [.int .i64 0, .int .i64 0, .int .i64 0] ∧ Below w.heap.size w W) ⟨Blk.new _ _ _, bel_al (Below.refl _ _) _⟩ (fun W1 hW => ?_)
  obtain ⟨hX, hb⟩ := hW
  have X1 := Lib.hid hX
  have B1 := Lib.hid hb
  have A1 := Lib.hid (H0.out.on hb)
  clear hX hb
  have n_0 : W1.cell? ⟨a.q, f * 3, none⟩ = some (.int .i64 (v : Nat)) := A1.out.node (j := 0) hf (by rw [HN.out]; rfl)
  have n_1 : W1.cell? ⟨a.q, f * 3 + 1, none⟩ = some (.int .i64 (l : Nat)) := A1.out.node (j := 1) hf (by rw [HN.out]; rfl)
  have n_2 : W1.cell? ⟨a.q, f * 3 + 2, none⟩ = some (.int .i64 (hi : Nat)) := A1.out.node (j := 2) hf (by rw [HN.out]; rfl)
  obtain ⟨a_0, a_1, a_2⟩ : _ ∧ _ ∧ _ := ⟨A1.out.s.1 0 _ rfl, A1.out.s.1 1 _ rfl, A1.out.s.1 2 _ rfl⟩
  go_upto_region 2 with fail
  refine at_code (S := fun W => Blk W W1.heap.size [.int .i64 (v : Nat), .int .i64 (l : Nat), .int .i64 (hi : Nat)] ∧ Below W1.heap.size W1 W) ⟨Blk.new _ _ _, bel_al (Below.refl _ _) _⟩ (fun W2 hW => ?_)
  obtain ⟨hY, hb⟩ := hW
  have Y2 := Lib.hid hY
  have B2 := Lib.hid (bel_on' B1.out hb)
  have X2 := Lib.hid (X1.out.on hb)
  clear hY hb n_0 n_1 n_2 a_0 a_1 a_2 A1 X1
  obtain ⟨y_0, y_1, y_2⟩ : _ ∧ _ ∧ _ := ⟨Y2.out.1 0 _ rfl, Y2.out.1 1 _ rfl, Y2.out.1 2 _ rfl⟩
  obtain ⟨x_0, x_1, x_2⟩ : _ ∧ _ ∧ _ := ⟨X2.out.1 0 _ rfl, X2.out.1 1 _ rfl, X2.out.1 2 _ rfl⟩
  obtain ⟨z_0, z_1, z_2⟩ : _ ∧ _ ∧ _ := ⟨X2.out.2 0 _ rfl, X2.out.2 1 _ rfl, X2.out.2 2 _ rfl⟩
  have fin : ∀ p q r : Nat, Below w.heap.size w (((W2.setCell ⟨w.heap.size, 0, none⟩ (.int .i64 p)).setCell ⟨w.heap.size, 1, none⟩ (.int .i64 q)).setCell ⟨w.heap.size, 2, none⟩ (.int .i64 r)) := fun p q r => ((B2.out.setCell (Nat.le_refl _) _).setCell (Nat.le_refl _) _).setCell (Nat.le_refl _) _
  have FIN := Lib.hid fin
  clear fin
  by_cases c : v = lev
  · subst c
    have hz : R = ⟨v, l, hi⟩ := by rw [← HR.out]; unfold partF; rw [HN.out, if_pos rfl]
    subst hz
    go_wp2
    refine bodyPost_ret (v := .agg #[.int .i64 (v : Nat), .int .i64 (l : Nat), .int .i64 (hi : Nat)]) (by simp [results, Try.results72, go_sem, x_0, x_1, x_2]) rfl ⟨rfl, FIN.out _ _ _⟩
  · have c' : ((v : Int) == (lev : Int)) = false := by simp; omega
    have hz : R = ⟨lev, f, f⟩ := by rw [← HR.out]; unfold partF; rw [HN.out, if_neg c]
    subst hz
    go_wp2
    refine bodyPost_ret (v := .agg #[.int .i64 (lev : Nat), .int .i64 (f : Nat), .int .i64 (f : Nat)]) (by simp [results, Try.results72, go_sem, x_0, x_1, x_2]) rfl ⟨rfl, FIN.out _ _ _⟩
set_option maxHeartbeats 1000000 in
theorem len_any (a : AL) (most : Nat) (ns : List Nd) (w : World) (h : Ar w a most ns) : Calls Try.prog 20 #[.pointer (some ⟨a.p, 0, none⟩)] w fun e w' => e = .returned (.int .i64 (ns.length : Nat)) ∧ w = w' := by
  obtain ⟨a_0, a_1, a_2⟩ : _ ∧ _ ∧ _ := ⟨h.s.1 0 _ rfl, h.s.1 1 _ rfl, h.s.1 2 _ rfl⟩
  go_enter Try.func20, Try.ntmps20
  go_wp2
  go_ret
  exact ⟨rfl, rfl⟩
set_option maxHeartbeats 1000000 in
theorem len_nil (w : World) : Calls Try.prog 20 #[.pointer none] w fun e w' => e = .returned (.int .i64 0) ∧ w = w' := by
  go_enter Try.func20, Try.ntmps20
  go_wp2
  go_ret
  exact ⟨rfl, rfl⟩
/-- Is a number a set's. -/
def hasB (n : Nat) (f : Int) : Bool := decide (0 ≤ f) && decide (f < n)
set_option maxHeartbeats 1000000 in
theorem has_core (p : Value) (n : Nat) (f : Int) (w : World) (C : Hid (∀ w', w = w' → Calls Try.prog 20 #[p] w' fun e w' => e = .returned (.int .i64 (n : Nat)) ∧ w = w')) : Calls Try.prog 33 #[p, .int .i64 f] w fun e w' => e = .returned (.bool (hasB n f)) ∧ w = w' := by
  by_cases c : 0 ≤ f
  · have hz : hasB n f = decide (f < (n : Int)) := by unfold hasB; rw [decide_eq_true c]; rfl
    rw [hz]
    have C1 := Lib.hid (C.out w rfl)
    clear C
    go_enter Try.func33, Try.ntmps33
    go_wp2_with fail
    refine C1.out.mono ?_
    rintro e w' ⟨rfl, rfl⟩
    go_wp2
    go_ret
    exact ⟨rfl, rfl⟩
  · have hz : hasB n f = false := by unfold hasB; rw [decide_eq_false c]; rfl
    rw [hz]
    clear C
    go_enter Try.func33, Try.ntmps33
    go_wp2
    go_ret
    exact ⟨rfl, rfl⟩
theorem has_any (a : AL) (most : Nat) (ns : List Nd) (f : Int) (w : World) (h : Ar w a most ns) : Calls Try.prog 33 #[.pointer (some ⟨a.p, 0, none⟩), .int .i64 f] w fun e w' => e = .returned (.bool (hasB ns.length f)) ∧ w = w' :=
  has_core _ _ f w (fun w' e => by subst e; exact len_any a most ns w h)
theorem has_nil (f : Int) (w : World) : Calls Try.prog 33 #[.pointer none, .int .i64 f] w fun e w' => e = .returned (.bool false) ∧ w = w' := by
  have k := has_core (.pointer none) 0 f w (fun w' e => by subst e; exact len_nil w)
  have hz : hasB 0 f = false := by
    unfold hasB
    by_cases c : 0 ≤ f
    · rw [decide_eq_false (show ¬ f < ((0 : Nat) : Int) by omega), Bool.and_false]
    · rw [decide_eq_false c, Bool.false_and]
  rw [hz] at k
  exact k
/-- Is it a bit. -/
def bitB (i : Int) : Bool := decide (0 ≤ i) && decide (i < 104)
set_option maxHeartbeats 1000000 in
theorem isbit_any (i : Int) (w : World) : Calls Try.prog 51 #[.int .i64 i] w fun e w' => e = .returned (.bool (bitB i)) ∧ w = w' := by
  by_cases c : 0 ≤ i
  · have hz : bitB i = decide (i < 104) := by unfold bitB; rw [decide_eq_true c]; rfl
    rw [hz]
    go_enter Try.func51, Try.ntmps51
    go_wp2
    go_ret
    exact ⟨rfl, rfl⟩
  · have hz : bitB i = false := by unfold bitB; rw [decide_eq_false c]; rfl
    rw [hz]
    go_enter Try.func51, Try.ntmps51
    go_wp2
    go_ret
    exact ⟨rfl, rfl⟩
end Go.Proofs.Ytggcbklififcgab
/- Two sets joined, bit by bit. -/
namespace Go.Proofs.Ytggcbklififcgab
open Go.RowKit Go.Maps Go.MapKept Go.ChangeMaps Go.WideElems Go.Joins
open Go.WideMaps (KeyLaw)
set_option linter.unusedVariables false

/-- A pair of sets as a value. -/
def pkv (k : Nat × Nat) : Value := .agg #[.int .i64 (k.1 : Nat), .int .i64 (k.2 : Nat)]
theorem pkv_inj (a b : Nat × Nat) (h : pkv a = pkv b) : a = b := by
  obtain ⟨a1, a2⟩ := a
  obtain ⟨b1, b2⟩ := b
  simp [pkv] at h
  simp; omega
set_option maxRecDepth 100000 in
theorem widePair : (match Try.prog.underlying 96 with | some (.array _ _) | some (.struct _) => true | _ => false) = true := by rw [Try.underlying96]
set_option maxRecDepth 100000 in
theorem lawPair : KeyLaw Try.prog 96 := deep_law_laid laidOutA (m := 2) (by omega) (of_decide_eq_true (by kernel_rfl)) (by kernel_rfl) widePair
theorem keyedPair : Keyed Try.prog 96 := Keyed.of_law lawPair
set_option maxRecDepth 100000 in
theorem key_pair (k : Nat × Nat) (h1 : k.1 ≤ 9223372036854775807) (h2 : k.2 ≤ 9223372036854775807) : ∃ l, keyOf Try.prog 96 (pkv k) = some l := by
  have ht : DataW.Trod (fun _ => ()) Try.prog default 0 (fun _ => true) true 96 (pkv k) (.agg [.lit (.int .i64 (k.1 : Nat)), .lit (.int .i64 (k.2 : Nat))]) [] :=
    ⟨2, by simp [pkv, Value.cells, DataW.trod, Try.underlying96, Try.underlying3, show Try.prog.cellsOf 96 = 2 by kernel_rfl, show Try.prog.cellsOf 3 = 1 by kernel_rfl, List.range_succ, wf64 _ h1, wf64 _ h2]⟩
  exact ⟨_, (keyOf_asKey (by kernel_rfl) widePair (by simp [pkv, Value.formed, Try.underlying96]; kernel_rfl) ht).1⟩
/-- The work of one join lies there. -/
structure Jn (w : World) (a : AL) (jb db kind : Nat) (m : Memo) : Prop where
  s : Blk w jb [.pointer (some ⟨a.p, 0, none⟩), .int .i64 (kind : Nat), .map (some db)]
  d : MapG Try.prog 96 3 pkv w db m
  j : jb ≠ a.p ∧ jb ≠ a.q ∧ jb ≠ a.m
  e : db ≠ a.p ∧ db ≠ a.q ∧ db ≠ a.m
theorem Jn.ne {w : World} {a : AL} {jb db kind : Nat} {m : Memo} (h : Jn w a jb db kind m) : jb ≠ db := by
  obtain ⟨es, clock, h2⟩ := h.d.isMap
  intro e
  have := h.s.1 0 _ rfl
  rw [e] at this
  simp [World.cell?, h2] at this
theorem Jn.on {w w' : World} {a : AL} {jb db kind : Nat} {m : Memo} (h : Jn w a jb db kind m) (hb : Below w.heap.size w w') : Jn w' a jb db kind m :=
  ⟨h.s.on hb, h.d.same (hb.block _ h.d.lt), h.j, h.e⟩
theorem Jn.off {w : World} {a : AL} {jb db kind : Nat} {m : Memo} (h : Jn w a jb db kind m) : Off (fun i => i = db) a jb := ⟨h.j.1, h.j.2.1, h.j.2.2, h.ne⟩
/-- Behind a call that turns the arena alone. -/
theorem Jn.tr {w w' : World} {a a' : AL} {jb db kind : Nat} {m : Memo} (h : Jn w a jb db kind m) (t : Tr (fun _ => False) w a w' a') : Jn w' a' jb db kind m := by
  have o1 : Off (fun _ => False) a jb := ⟨h.j.1, h.j.2.1, h.j.2.2, fun q => q⟩
  have o2 : Off (fun _ => False) a db := ⟨h.e.1, h.e.2.1, h.e.2.2, fun q => q⟩
  have p1 := o1.on t h.s.lt
  have p2 := o2.on t h.d.lt
  refine ⟨?_, h.d.same (t.k.block _ h.d.lt o2.not), ⟨p1.1, p1.2.1, p1.2.2.1⟩, ⟨p2.1, p2.2.1, p2.2.2.1⟩⟩
  rw [t.m.1]; exact h.s.tr t o1
theorem Tr.weak {X : Nat → Prop} {w w' : World} {a a' : AL} (t : Tr (fun _ => False) w a w' a') : Tr X w a w' a' := ⟨t.k.mono (fun i _ q => q.imp id (fun r => r.elim)), t.m⟩
/-- Pairs of few sets are few. -/
theorem MV.few {kind : Nat} {ns : List Nd} {m : Memo} (h : MV kind ns m) (hl : ns.length ≤ 262144) : m.length ≤ 262144 * 262144 := by
  have hn : (m.map (fun p => p.1.1 * 262144 + p.1.2)).Nodup := by
    have h1 := h.one
    unfold List.Nodup at h1 ⊢
    rw [List.pairwise_map] at h1 ⊢
    refine List.Pairwise.imp_of_mem (fun {x y} hx hy hne e => hne ?_) h1
    obtain ⟨x1, x2, -⟩ := h.ok x hx
    obtain ⟨y1, y2, -⟩ := h.ok y hy
    have e1 : x.1.1 = y.1.1 := by omega
    have e2 : x.1.2 = y.1.2 := by omega
    exact Prod.ext e1 e2
  have := nodup_sub _ (List.range (262144 * 262144)) hn (fun v hv => by
    obtain ⟨x, hx, rfl⟩ := List.mem_map.1 hv
    obtain ⟨x1, x2, -⟩ := h.ok x hx
    rw [List.mem_range]; omega)
  rw [List.length_map, List.length_range] at this
  exact this
/-- What the two parts' joins come to, and what there is for the node. -/
theorem pairF_step {kind most k : Nat} {ns : List Nd} {m : Memo} {f g : Nat} (h : WF ns) (hm : MV kind ns m) (hf : f < ns.length) (hg : g < ns.length) (hk : 105 ≤ k + 1 + min (lv ns f) (lv ns g)) (hp : plainF kind f g = none) (hl : lookM (f, g) m = none) {L : Nat} (hL : min (lv ns f) (lv ns g) = L) {x y : Nd} (hx : partF ns f L = x) (hy : partF ns g L = y) :
    x.l < ns.length ∧ y.l < ns.length ∧ 105 ≤ k + min (lv ns x.l) (lv ns y.l) ∧ L < 104 ∧
    ∀ r1 ns1 m1, pairF kind most k ns m x.l y.l = (r1, ns1, m1) → WF ns1 ∧ MV kind ns1 m1 ∧ (r1 = none → pairF kind most (k + 1) ns m f g = (none, ns1, m1)) ∧
      ∀ lo, r1 = some lo → lo < ns1.length ∧ x.h < ns1.length ∧ y.h < ns1.length ∧ 105 ≤ k + min (lv ns1 x.h) (lv ns1 y.h) ∧
        ∀ r2 ns2 m2, pairF kind most k ns1 m1 x.h y.h = (r2, ns2, m2) → WF ns2 ∧ MV kind ns2 m2 ∧ (r2 = none → pairF kind most (k + 1) ns m f g = (none, ns2, m2)) ∧
          ∀ hi, r2 = some hi → hi < ns2.length ∧ lo < ns2.length ∧ ∀ r3 ns3, numF most ns2 ⟨L, lo, hi⟩ = (r3, ns3) →
            (r3 = none → pairF kind most (k + 1) ns m f g = (none, ns3, m2)) ∧ (∀ r, r3 = some r → pairF kind most (k + 1) ns m f g = (some r, ns3, ((f, g), r) :: m2) ∧ (f, g) ∉ m2.map (·.1) ∧ r < ns3.length) := by
  have hL104 : L < 104 := by
    rcases Nat.lt_or_ge L 104 with q | q
    · exact q
    · exfalso
      have a : f ≤ 1 := by
        rcases Nat.lt_or_ge f 2 with r | r
        · omega
        · have := (h.parts r hf).2.2.2.2.2; omega
      have b : g ≤ 1 := by
        rcases Nat.lt_or_ge g 2 with r | r
        · omega
        · have := (h.parts r hg).2.2.2.2.2; omega
      exact plain_ends a b hp
  obtain ⟨xl, xh, xvl, xvh, -⟩ := part_ok h hf (L := L) (by omega) hL104
  obtain ⟨yl, yh, yvl, yvh, -⟩ := part_ok h hg (L := L) (by omega) hL104
  rw [hx] at xl xh xvl xvh
  rw [hy] at yl yh yvl yvh
  refine ⟨xl, yl, by omega, hL104, fun r1 ns1 m1 e1 => ?_⟩
  obtain ⟨M1, V1, -⟩ := pairF_made kind most k ns m x.l y.l h hm xl yl (by omega)
  rw [e1] at M1 V1
  replace M1 : Made most ns ns1 _ r1 _ := M1
  replace V1 : MV kind ns1 m1 := V1
  have hx1 := M1.ext
  have hl1 := hx1.len
  refine ⟨M1.wf, V1, fun q => ?_, fun lo q => ?_⟩
  · subst q; unfold pairF; rw [hp]; simp only; rw [hl]; simp only; rw [hL, hx, hy, e1]
  subst q
  have w1 : lv ns1 x.h = lv ns x.h := hx1.lv xh
  have w2 : lv ns1 y.h = lv ns y.h := hx1.lv yh
  refine ⟨(M1.set lo rfl).1, by omega, by omega, by rw [w1, w2]; omega, fun r2 ns2 m2 e2 => ?_⟩
  obtain ⟨M2, V2, -⟩ := pairF_made kind most k ns1 m1 x.h y.h M1.wf V1 (by omega) (by omega) (by rw [w1, w2]; omega)
  rw [e2] at M2 V2
  replace M2 : Made most ns1 ns2 _ r2 _ := M2
  replace V2 : MV kind ns2 m2 := V2
  refine ⟨M2.wf, V2, fun q => ?_, fun hi q => ?_⟩
  · subst q; unfold pairF; rw [hp]; simp only; rw [hl]; simp only; rw [hL, hx, hy, e1]; simp only; rw [e2]
  subst q
  have hl2 := M2.ext.len
  refine ⟨(M2.set hi rfl).1, by have := (M1.set lo rfl).1; omega, fun r3 ns3 e3 => ⟨fun q => ?_, fun r q => ?_⟩⟩
  · subst q; unfold pairF; rw [hp]; simp only; rw [hl]; simp only; rw [hL, hx, hy, e1]; simp only; rw [e2]; simp only; rw [e3]
  · subst q
    have e : pairF kind most (k + 1) ns m f g = (some r, ns3, ((f, g), r) :: m2) := by unfold pairF; rw [hp]; simp only; rw [hl]; simp only; rw [hL, hx, hy, e1]; simp only; rw [e2]; simp only; rw [e3]
    obtain ⟨M3, V3, -⟩ := pairF_made kind most (k + 1) ns m f g h hm hf hg (by omega)
    rw [e] at V3 M3
    have := V3.one
    simp only [List.map_cons] at this
    exact ⟨e, (List.nodup_cons.1 this).1, (M3.set r rfl).1⟩
end Go.Proofs.Ytggcbklififcgab
