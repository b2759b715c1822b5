/- A node's number. -/
import Derived.Test.YtgcbngephokegabGe7cc0695f7
import Derived.Test.YtgcbngephokegabProg
namespace Go.Proofs.Ytgcbngephokegab
open Go.RowKit
set_option linter.unusedVariables false

/-- What a step answers: the set, or 0; what is wrong. -/
def rv (r : Option Nat) : Nat := r.getD 0
def er (r : Option Nat) : Int := if r = none then 20 else 0
theorem at_act {K : Act → World → Prop} {a : Act} {W : World} {S : World → Prop} (h : S W) (k : ∀ W, S W → K a W) : K a W := k W h
theorem wanted_then {c : Bool} {A B : Prop} (hc : c = true) (h : A) : if c = true then A else B := by rw [if_pos hc]; exact h
theorem wp_append_run {P : Program} {o : Oper} {a : Act} {w w' : World} {K : Act → World → Prop} {Q : Exit → Act → World → Prop} (s x : Operand) (t : TypeId) {v xv v' : Value}
    (ho : o.op = .call { callee := .builtin .append, args := #[s, x], argTypes := #[t, t] }) (hs : a.eval s = v) (hx : a.eval x = xv) (hr : (Builtin.append_ #[t, t] o.type #[v, xv]).run P w = .ok v' w') (h : K (a.put o.dst v') w') : o.wp P a w K Q := by
  unfold Oper.wp execOp
  simp only [ho, resolve, invoke, builtin, Sem.run_bind, Sem.run_pure, Result.andThen_ok, List.map_toArray, List.map_cons, List.map_nil, hs, hx, hr]
  exact h
set_option maxRecDepth 100000 in
set_option maxHeartbeats 4000000 in
theorem number_any (a : AL) (most : Nat) (ns : List Nd) (v l hi : Nat) (w : World) (h : Ar w a most ns) (hw : WF ns) (hn : (⟨v, l, hi⟩ : Nd).Ok) :
    Calls Try.prog 53 #[.pointer (some ⟨a.p, 0, none⟩), .agg #[.int .i64 (v : Nat), .int .i64 (l : Nat), .int .i64 (hi : Nat)]] w fun e w' => e = .returned (.tuple #[.int .i64 (rv (numF most ns ⟨v, l, hi⟩).1 : Nat), .int .i64 (er (numF most ns ⟨v, l, hi⟩).1)]) ∧ ∃ a', Ar w' a' most (numF most ns ⟨v, l, hi⟩).2 ∧ Tr (fun _ => False) w a w' a' := by
  obtain ⟨R, hR⟩ : ∃ R, numF most ns ⟨v, l, hi⟩ = R := ⟨_, rfl⟩
  rw [hR]
  have H0 := Lib.hid h
  have HR := Lib.hid hR
  have HW := Lib.hid hw
  have HN := Lib.hid hn
  clear h hR hw hn
  obtain ⟨KL, hKL⟩ := key_node ⟨v, l, hi⟩ HN.out
  have HK := Lib.hid hKL
  clear hKL
  go_enter Try.func53, Try.ntmps53
  go_upto_region 1 with fail
  refine at_code (S := fun W => Blk W w.heap.size [.int .i64 (v : Nat), .int .i64 (l : Nat), .int .i64 (hi : Nat)] ∧ Below w.heap.size w W) ⟨Blk.new _ _ _, bel_al (Below.refl _ _) _⟩ (fun W1 hW => ?_)
  obtain ⟨hN, hb⟩ := hW
  have N1 := Lib.hid hN
  have A1 := Lib.hid (H0.out.on hb)
  have B1 := Lib.hid hb
  have hpne := Lib.hid (show a.p ≠ w.heap.size by have := H0.out.pl; omega)
  have hqne := Lib.hid (show a.q ≠ w.heap.size by have := H0.out.ql; omega)
  have hmne := Lib.hid (show a.m ≠ w.heap.size by have := H0.out.ml; omega)
  clear hN hb
  obtain ⟨n_0, n_1, n_2⟩ : _ ∧ _ ∧ _ := ⟨N1.out.1 0 _ rfl, N1.out.1 1 _ rfl, N1.out.1 2 _ rfl⟩
  obtain ⟨a_0, a_1, a_2⟩ : _ ∧ _ ∧ _ := ⟨A1.out.s.1 0 _ rfl, A1.out.s.1 1 _ rfl, A1.out.s.1 2 _ rfl⟩
  by_cases c1 : l = hi
  · subst c1
    have hz : R = (some l, ns) := by rw [← HR.out]; unfold numF; rw [if_pos rfl]
    subst hz
    go_wp2
    go_ret2
    exact ⟨rfl, a, A1.out, ⟨Keep.of B1.out, Mv.refl _ _⟩⟩
  · have c1' : ((l : Int) == (hi : Int)) = false := by simp; omega
    go_upto_region 3 with fail
    cases hk : lookN ⟨v, l, hi⟩ ns with
    | some f =>
      have hz : R = (some f, ns) := by rw [← HR.out]; unfold numF; rw [if_neg c1, hk]
      subst hz
      have hf := lookN_some hk
      have hf2 : 2 ≤ f := by
        rcases Nat.lt_or_ge f 2 with q | q
        · exfalso
          have : f = 0 ∨ f = 1 := by omega
          rcases this with rfl | rfl
          · rw [HW.out.z] at hf; cases hf; exact c1 rfl
          · rw [HW.out.o] at hf; cases hf; exact c1 rfl
        · exact q
      have hlk : (Instr.lookup 55 (.map (some a.m)) (.agg #[.int .i64 (v : Nat), .int .i64 (l : Nat), .int .i64 (hi : Nat)]) true).run Try.prog W1.drew = .ok (.tuple #[.int .i64 (f : Nat), .bool true]) W1.drew := mapG_some keyedNode Try.underlying55 zeroInt nv_inj true A1.out.m.drew (k := ⟨v, l, hi⟩) HK.out (mem_numL.2 ⟨hf2, hf⟩) (numL_one HW.out)
      clear hf hf2 hk
      refine wp_region_noPanic ?_
      refine wp_region_along (S := fun w' => w' = W1.drew) ([(0, true), (1, true), (2, true), (3, true), (4, true), (5, true), (6, true), (7, true), (8, true), (9, true), (10, true)]) (by kernel_rfl) (by as_aux_lemma => kernel_rfl) (by kernel_rfl) (by kernel_rfl) (by as_aux_lemma => kernel_rfl) (by as_aux_lemma => kernel_rfl) (fun _ _ _ _ _ h => h) rfl (fun hH => ?_)
      simp only [stepsOf, pickOp]
      iterate 11 (first | (refine along_skip (by rfl) ?_; try simp only [Act.put, List.setIfInBounds_toArray, List.set_cons_zero, List.set_cons_succ]) | (refine along_pure ?_ (by rfl) (fun w hSw => ?_) ?_; rotate_left; (obtain rfl := hSw; go_simp; try with_reducible rfl); try simp only [Act.put, List.setIfInBounds_toArray, List.set_cons_zero, List.set_cons_succ]))
      refine along_end (NoPanic.normal ?_)
      clear hH
      go_wp2
      go_ret2
      exact ⟨rfl, a, A1.out.on (Below.refl _ _).drew, ⟨Keep.of B1.out.drew, Mv.refl _ _⟩⟩
    | none =>
      have hnot : (⟨v, l, hi⟩ : Nd) ∉ (numL ns).map (·.1) := fun q => by
        obtain ⟨p, hp1, hp2⟩ := List.mem_map.1 q
        obtain ⟨p1, p2⟩ := p
        have := (mem_numL.1 hp1).2
        exact lookN_none hk (by rw [← hp2]; exact List.mem_of_getElem? this)
      have hlk : (Instr.lookup 55 (.map (some a.m)) (.agg #[.int .i64 (v : Nat), .int .i64 (l : Nat), .int .i64 (hi : Nat)]) true).run Try.prog W1.drew = .ok (.tuple #[.int .i64 0, .bool false]) W1.drew := mapG_none keyedNode Try.underlying55 zeroInt nv_inj true A1.out.m.drew (k := ⟨v, l, hi⟩) HK.out hnot
      have HNot := Lib.hid hnot
      clear hnot
      refine wp_region_noPanic ?_
      refine wp_region_along (S := fun w' => w' = W1.drew) ([(0, true), (1, true), (2, true), (3, true), (4, true), (5, true), (6, true), (7, true), (8, true), (9, true), (10, true)]) (by kernel_rfl) (by as_aux_lemma => kernel_rfl) (by kernel_rfl) (by kernel_rfl) (by as_aux_lemma => kernel_rfl) (by as_aux_lemma => kernel_rfl) (fun _ _ _ _ _ h => h) rfl (fun hH => ?_)
      simp only [stepsOf, pickOp]
      iterate 11 (first | (refine along_skip (by rfl) ?_; try simp only [Act.put, List.setIfInBounds_toArray, List.set_cons_zero, List.set_cons_succ]) | (refine along_pure ?_ (by rfl) (fun w hSw => ?_) ?_; rotate_left; (obtain rfl := hSw; go_simp; try with_reducible rfl); try simp only [Act.put, List.setIfInBounds_toArray, List.set_cons_zero, List.set_cons_succ]))
      refine along_end (NoPanic.normal ?_)
      clear hH
      clear hlk
      obtain ⟨W2, hW⟩ : ∃ W, W = W1.drew := ⟨_, rfl⟩
      have N2 := Lib.hid (show Blk W2 w.heap.size [.int .i64 (v : Nat), .int .i64 (l : Nat), .int .i64 (hi : Nat)] by rw [hW]; exact N1.out.drew)
      have A2 := Lib.hid (show Ar W2 a most ns by rw [hW]; exact A1.out.on (Below.refl _ _).drew)
      have B2 := Lib.hid (show Below w.heap.size w W2 by rw [hW]; exact B1.out.drew)
      rw [← hW]
      clear hW n_0 n_1 n_2 a_0 a_1 a_2 N1 A1 B1
      obtain ⟨n_0, n_1, n_2⟩ : _ ∧ _ ∧ _ := ⟨N2.out.1 0 _ rfl, N2.out.1 1 _ rfl, N2.out.1 2 _ rfl⟩
      obtain ⟨a_0, a_1, a_2⟩ : _ ∧ _ ∧ _ := ⟨A2.out.s.1 0 _ rfl, A2.out.s.1 1 _ rfl, A2.out.s.1 2 _ rfl⟩
      go_upto_region 6 with fail
      refine wp_region_noPanic ?_
      refine wp_region_along (S := fun w' => w' = W2.drew) ([(0, true), (1, true), (2, true), (3, true), (4, true), (5, true), (6, true), (7, true), (8, true), (9, true)]) (by kernel_rfl) (by as_aux_lemma => kernel_rfl) (by kernel_rfl) (by kernel_rfl) (by as_aux_lemma => kernel_rfl) (by as_aux_lemma => kernel_rfl) (fun _ _ _ _ _ h => h) rfl (fun hH => ?_)
      simp only [stepsOf, pickOp]
      iterate 10 (first | (refine along_skip (by rfl) ?_; try simp only [Act.put, List.setIfInBounds_toArray, List.set_cons_zero, List.set_cons_succ]) | (refine along_pure ?_ (by rfl) (fun w hSw => ?_) ?_; rotate_left; (obtain rfl := hSw; go_simp; try with_reducible rfl); try simp only [Act.put, List.setIfInBounds_toArray, List.set_cons_zero, List.set_cons_succ]))
      refine along_end (NoPanic.normal ?_)
      clear hH
      obtain ⟨W3, hW⟩ : ∃ W, W = W2.drew := ⟨_, rfl⟩
      have N3 := Lib.hid (show Blk W3 w.heap.size [.int .i64 (v : Nat), .int .i64 (l : Nat), .int .i64 (hi : Nat)] by rw [hW]; exact N2.out.drew)
      have A3 := Lib.hid (show Ar W3 a most ns by rw [hW]; exact A2.out.on (Below.refl _ _).drew)
      have B3 := Lib.hid (show Below w.heap.size w W3 by rw [hW]; exact B2.out.drew)
      rw [← hW]
      clear hW n_0 n_1 n_2 a_0 a_1 a_2 N2 A2 B2
      obtain ⟨n_0, n_1, n_2⟩ : _ ∧ _ ∧ _ := ⟨N3.out.1 0 _ rfl, N3.out.1 1 _ rfl, N3.out.1 2 _ rfl⟩
      obtain ⟨a_0, a_1, a_2⟩ : _ ∧ _ ∧ _ := ⟨A3.out.s.1 0 _ rfl, A3.out.s.1 1 _ rfl, A3.out.s.1 2 _ rfl⟩
      by_cases c2 : most ≤ ns.length
      · have hz : R = (none, ns) := by rw [← HR.out]; unfold numF; rw [if_neg c1, hk]; simp only; rw [if_pos c2]
        subst hz
        have c2' : ((most : Int) ≤ (ns.length : Int)) := by omega
        go_wp2
        go_ret2
        exact ⟨rfl, a, A3.out, ⟨Keep.of B3.out, Mv.refl _ _⟩⟩
      · have hz : R = (some ns.length, ns ++ [⟨v, l, hi⟩]) := by rw [← HR.out]; unfold numF; rw [if_neg c1, hk]; simp only; rw [if_neg c2]
        subst hz
        have c2' : ¬ ((most : Int) ≤ (ns.length : Int)) := by omega
        go_upto_region 9 with fail
        refine wp_region_noPanic ?_
        refine wp_region_alongT (S := fun w' => w'.cell? ⟨w.heap.size, 0, none⟩ = some (.int .i64 (v : Nat)) ∧ w'.cell? ⟨w.heap.size, 1, none⟩ = some (.int .i64 (l : Nat)) ∧ w'.cell? ⟨w.heap.size, 2, none⟩ = some (.int .i64 (hi : Nat))) (.pure 0 (.pure 1 (.pure 2 (.pure 3 (.pure 5 (.b2 4 (.b1 6 (.b1 7 (.pure 8 (.pure 9 (.b1 10 .done))))) 6 (.b1 4 (.b1 7 (.pure 8 (.pure 9 (.b1 10 .done))))))))))) (by kernel_rfl) (by as_aux_lemma => kernel_rfl) (by decide) (by as_aux_lemma => kernel_rfl) (fun _ _ _ _ _ h => h) ⟨n_0, n_1, n_2⟩ (fun hH => ?_)
        iterate 5 (refine T_pure ?_ (by rfl) (fun w hSw => ?_) ?_; rotate_left; (obtain ⟨s_1, s_2, s_3⟩ := hSw; simp only [pickOp]; go_simp; try with_reducible rfl); try simp only [pickOp, Act.put, List.setIfInBounds_toArray, List.set_cons_zero, List.set_cons_succ])
        clear hH
        have hit := infoNode
        refine T_b2 (fun K hK => ?_) (fun K hK => ?_)
        · simp only [pickOp]
          go_simp
          refine hK.out _ _ ⟨n_0, n_1, n_2⟩ (fun hH => ?_)
          clear hK hH K
          try simp only [pickOp, Act.put, List.setIfInBounds_toArray, List.set_cons_zero, List.set_cons_succ]
          refine T_b1 (fun K hK => ?_)
          simp only [pickOp]
          go_simp
          refine at_act (S := fun W => Blk W W3.heap.size [.int .i64 (v : Nat), .int .i64 (l : Nat), .int .i64 (hi : Nat)] ∧ Below W3.heap.size W3 W) ⟨(Blk.new _ _ _).drew, (bel_al (Below.refl _ _) _).drew⟩ (fun W4 hW => ?_)
          obtain ⟨hX4, hb4⟩ := hW
          have X4 := Lib.hid hX4
          have N4 := Lib.hid (N3.out.on hb4)
          have A4 := Lib.hid (A3.out.on hb4)
          have B4 := Lib.hid (bel_on' B3.out hb4)
          have h34 := Lib.hid (show w.heap.size < W3.heap.size by have := N3.out.lt; omega)
          clear hX4 hb4 n_0 n_1 n_2 a_0 a_1 a_2 N3 A3 B3
          refine hK.out _ _ ⟨N4.out.1 0 _ rfl, N4.out.1 1 _ rfl, N4.out.1 2 _ rfl⟩ (fun hH => ?_)
          clear hK hH K
          try simp only [pickOp, Act.put, List.setIfInBounds_toArray, List.set_cons_zero, List.set_cons_succ]
          obtain ⟨it, hit, iz, isz, iby⟩ := hinfo_parts hit
          obtain ⟨v', W5, happ, hown, hgr, hnil, hat⟩ := run_append_own_at (P := Try.prog) W4 0 54 54 53 it (.agg #[.int .i64 0, .int .i64 0, .int .i64 0]) 3 24 Try.underlying54 hit iz isz iby rfl (by decide) (.slice (some ⟨a.q, 0, none⟩) ns.length a.cap) ns.length (ns.flatMap nc) A4.out.o ⟨W3.heap.size, 0, none⟩ 1 1 [.int .i64 (v : Nat), .int .i64 (l : Nat), .int .i64 (hi : Nat)] rfl
            (fun j u hj => by
              have := X4.out.1 j u hj
              match j, hj with
              | 0, _ => exact this
              | 1, _ => exact this
              | 2, _ => exact this) (by intro u hu; simp at hu; rcases hu with rfl | rfl | rfl <;> rfl) (by have := A4.out.len; unfold maxLen; omega) (by have := A4.out.len; omega) (Nat.zero_le _)
          have hv : ∃ q' cap', v' = .slice (some ⟨q', 0, none⟩) (ns.length + 1) cap' := by
            rcases hown.2 with ⟨-, e⟩ | ⟨g, cap, cur, e, -⟩
            · omega
            · exact ⟨g, cap, e⟩
          obtain ⟨q', cap', rfl⟩ := hv
          have G5 := Lib.hid hgr
          have O5 := Lib.hid hown
          have Q5 := Lib.hid (show q' = a.q ∨ q' = W4.heap.size by rcases hat with e | e <;> simp [Value.ownBlock] at e <;> omega)
          clear hgr hown hnil hat hit iz isz iby it
          refine T_b1 (fun K hK => ?_)
          refine wanted_then (by rfl) (wp_append_run _ _ 54 rfl rfl rfl happ ?_)
          have K5 := Lib.hid (show Keep (fun i => i = a.q) W4 W5 from (Keep.refl _ _).grown G5.out (fun k hk _ => by simp [Value.ownBlock] at hk; exact hk.symm))
          have S5 := Lib.hid (K5.out.blk A4.out.s A4.out.pq)
          have N5 := Lib.hid (K5.out.blk N4.out (fun e => hqne.out e.symm))
          clear happ
          refine hK.out _ _ ⟨N5.out.1 0 _ rfl, N5.out.1 1 _ rfl, N5.out.1 2 _ rfl⟩ (fun hH => ?_)
          clear hK hH K
          try simp only [pickOp, Act.put, List.setIfInBounds_toArray, List.set_cons_zero, List.set_cons_succ]
          iterate 2 (refine T_pure ?_ (by rfl) (fun w hSw => ?_) ?_; rotate_left; (obtain ⟨s_1, s_2, s_3⟩ := hSw; simp only [pickOp]; go_simp; try with_reducible rfl); try simp only [pickOp, Act.put, List.setIfInBounds_toArray, List.set_cons_zero, List.set_cons_succ])
          refine T_b1 (fun K hK => ?_)
          obtain ⟨s_0, s_1, s_2⟩ : _ ∧ _ ∧ _ := ⟨S5.out.1 0 _ rfl, S5.out.1 1 _ rfl, S5.out.1 2 _ rfl⟩
          obtain ⟨z_0, z_1, z_2⟩ : _ ∧ _ ∧ _ := ⟨S5.out.2 0 _ rfl, S5.out.2 1 _ rfl, S5.out.2 2 _ rfl⟩
          simp only [pickOp]
          go_simp
          refine at_act (S := fun W => Keep (fun i => i = a.p) W5 W ∧ Blk W a.p [.int .i64 (most : Nat), .slice (some ⟨q', 0, none⟩) (ns.length + 1) cap', .map (some a.m)]) ⟨(Keep.refl _ _).set _ _ (fun _ => rfl), S5.out.set 1 _ (by simp)⟩ (fun W6 hW => ?_)
          obtain ⟨hK6, hS6⟩ := hW
          have K6 := Lib.hid hK6
          have S6 := Lib.hid hS6
          have N6 := Lib.hid (K6.out.blk N5.out (fun e => hpne.out e.symm))
          clear hK6 hS6 s_0 s_1 s_2 z_0 z_1 z_2
          refine hK.out _ _ ⟨N6.out.1 0 _ rfl, N6.out.1 1 _ rfl, N6.out.1 2 _ rfl⟩ (fun hH => ?_)
          clear hK hH K
          try simp only [pickOp, Act.put, List.setIfInBounds_toArray, List.set_cons_zero, List.set_cons_succ]
          refine T_done (NoPanic.normal ?_)
          obtain ⟨n_0, n_1, n_2⟩ : _ ∧ _ ∧ _ := ⟨N6.out.1 0 _ rfl, N6.out.1 1 _ rfl, N6.out.1 2 _ rfl⟩
          obtain ⟨a_0, a_1, a_2⟩ : _ ∧ _ ∧ _ := ⟨S6.out.1 0 _ rfl, S6.out.1 1 _ rfl, S6.out.1 2 _ rfl⟩
          have M6 := Lib.hid (show MapG Try.prog 53 3 nv W6.drew a.m (numL ns) from ((A4.out.m.same (K5.out.block _ A4.out.ml (fun e => A4.out.qm e.symm))).same (K6.out.block _ (by have := K5.out.size; have := A4.out.ml; omega) (fun e => A4.out.pm e.symm))).drew)
          obtain ⟨W7, hup, hM7, hO7⟩ := mapG_store keyedNode Try.underlying55 Try.underlying3 nv_inj M6.out (k := ⟨v, l, hi⟩) (v := ns.length) HK.out HNot.out (by have := A4.out.len; omega) (by have := numL_len ns; have := A4.out.len; unfold maxLen; omega)
          have M7 := Lib.hid hM7
          have O7 := Lib.hid hO7
          clear hM7 hO7
          simp only [nv] at hup
          go_upto_region 10 with fail
          refine wp_region_noPanic ?_
          refine wp_region_along (S := fun w' => w'.cell? ⟨a.p, 2, none⟩ = some (.map (some a.m)) ∧ w'.cell? ⟨w.heap.size, 0, none⟩ = some (.int .i64 (v : Nat)) ∧ w'.cell? ⟨w.heap.size, 1, none⟩ = some (.int .i64 (l : Nat)) ∧ w'.cell? ⟨w.heap.size, 2, none⟩ = some (.int .i64 (hi : Nat))) ([(0, true), (1, true), (2, true), (3, true), (4, true), (5, true), (6, false)]) (by kernel_rfl) (by as_aux_lemma => kernel_rfl) (by kernel_rfl) (by kernel_rfl) (by as_aux_lemma => kernel_rfl) (by as_aux_lemma => kernel_rfl) (fun _ _ _ _ _ h => h) ⟨a_2, n_0, n_1, n_2⟩ (fun hH => ?_)
          simp only [stepsOf, pickOp]
          iterate 6 (first | (refine along_skip (by rfl) ?_; try simp only [Act.put, List.setIfInBounds_toArray, List.set_cons_zero, List.set_cons_succ]) | (refine along_pure ?_ (by rfl) (fun w hSw => ?_) ?_; rotate_left; (obtain ⟨s_0, s_1, s_2, s_3⟩ := hSw; go_simp; try with_reducible rfl); try simp only [Act.put, List.setIfInBounds_toArray, List.set_cons_zero, List.set_cons_succ]))
          clear hH
          refine along_bar (fun K hK => ?_)
          go_simp
          have K7 := Lib.hid (show Keep (fun i => i = a.m) W6 W7 from (Keep.refl _ _).drew.only O7.out (fun _ => rfl))
          have S7 := Lib.hid (K7.out.blk S6.out A4.out.pm)
          have N7 := Lib.hid (K7.out.blk N6.out (fun e => hmne.out e.symm))
          refine hK.out _ _ ⟨S7.out.1 2 _ rfl, N7.out.1 0 _ rfl, N7.out.1 1 _ rfl, N7.out.1 2 _ rfl⟩ (fun hH => ?_)
          clear hK hH K
          try simp only [Act.put, List.setIfInBounds_toArray, List.set_cons_zero, List.set_cons_succ]
          refine along_end (NoPanic.normal ?_)
          clear hup n_0 n_1 n_2 a_0 a_1 a_2
          have AF : Ar W7 ⟨a.p, q', a.m, cap'⟩ most (ns ++ [⟨v, l, hi⟩]) := by
            have hlen : (ns ++ [(⟨v, l, hi⟩ : Nd)]).length = ns.length + 1 := by simp
            have hq6 : W6.heap[q']? = W5.heap[q']? := K6.out.block q' (by
              rcases Q5.out with e | e
              · have := A4.out.ql; have := K5.out.size; omega
              · rcases O5.out.2 with ⟨e1, -⟩ | ⟨g, cap, cur, e1, -, hg, -⟩
                · cases e1
                · cases e1
                  rcases Nat.lt_or_ge q' W5.heap.size with r | r
                  · exact r
                  · rw [Array.getElem?_eq_none r] at hg; cases hg) (fun e => by
              rcases Q5.out with e1 | e1
              · exact A4.out.pq (e.symm.trans e1)
              · have := A4.out.pl; omega)
            have hq7 : W7.heap[q']? = W6.heap[q']? := O7.out.blk q' (fun e => by
              rcases Q5.out with e1 | e1
              · exact A4.out.qm (e1.symm.trans e)
              · have := A4.out.ml; omega)
            refine ⟨?_, ?_, ?_, by rw [hlen]; have := A4.out.most; omega, A4.out.most, ?_⟩
            · rw [hlen]; exact S7.out
            · rw [hlen]
              rcases O5.out with ⟨o1, o2⟩
              have hfl : (ns ++ [(⟨v, l, hi⟩ : Nd)]).flatMap nc = ns.flatMap nc ++ [.int .i64 (v : Nat), .int .i64 (l : Nat), .int .i64 (hi : Nat)] := by rw [List.flatMap_append]; rfl
              rw [hfl]
              refine ⟨o1, ?_⟩
              rcases o2 with ⟨e1, -⟩ | ⟨g, cap, cur, e1, o3, hg, o4⟩
              · cases e1
              · cases e1
                exact Or.inr ⟨q', cap', cur, rfl, Nat.zero_le _, by rw [hq7, hq6]; exact hg, o4⟩
            · refine M7.out.perm (fun p => ?_)
              obtain ⟨p1, p2⟩ := p
              rw [mem_numL, List.mem_cons, mem_numL]
              have h2 := HW.out.len
              constructor
              · rintro (e | ⟨e1, e2⟩)
                · cases e
                  exact ⟨h2, by simp⟩
                · exact ⟨e1, by rw [List.getElem?_append_left (lt_of_get e2)]; exact e2⟩
              · rintro ⟨e1, e2⟩
                rcases Nat.lt_or_ge p2 ns.length with r | r
                · rw [List.getElem?_append_left r] at e2
                  exact Or.inr ⟨e1, e2⟩
                · have : p2 < (ns ++ [(⟨v, l, hi⟩ : Nd)]).length := lt_of_get e2
                  have : p2 = ns.length := by omega
                  subst this
                  rw [List.getElem?_append_right (Nat.le_refl _), Nat.sub_self] at e2
                  cases e2
                  exact Or.inl rfl
            · show a.p ≠ q'
              rcases Q5.out with e1 | e1
              · rw [e1]; exact A4.out.pq
              · have := A4.out.pl; omega
          have TF : Tr (fun _ => False) w a W7 ⟨a.p, q', a.m, cap'⟩ := by
            refine ⟨?_, rfl, rfl, ?_⟩
            · have k4 : Keep (fun i => a.has i ∨ False) w W4 := Keep.of B4.out
              exact ((k4.trans K5.out (fun i _ e => Or.inl (Or.inr (Or.inl e)))).trans K6.out (fun i _ e => Or.inl (Or.inl e))).trans K7.out (fun i _ e => Or.inl (Or.inr (Or.inr e)))
            · rcases Q5.out with e1 | e1
              · exact Or.inl e1
              · right; show w.heap.size ≤ q'; have := B4.out.size; omega
          have HF := Lib.hid (And.intro AF TF)
          clear AF TF
          go_wp2
          go_ret2
          exact ⟨rfl, _, HF.out.1, HF.out.2⟩
        · simp only [pickOp]
          go_simp
          refine at_act (S := fun W => Blk W W3.heap.size [.int .i64 (v : Nat), .int .i64 (l : Nat), .int .i64 (hi : Nat)] ∧ Below W3.heap.size W3 W) ⟨(Blk.new _ _ _).drew, (bel_al (Below.refl _ _) _).drew⟩ (fun W4 hW => ?_)
          obtain ⟨hX4, hb4⟩ := hW
          have X4 := Lib.hid hX4
          have N4 := Lib.hid (N3.out.on hb4)
          have A4 := Lib.hid (A3.out.on hb4)
          have B4 := Lib.hid (bel_on' B3.out hb4)
          have h34 := Lib.hid (show w.heap.size < W3.heap.size by have := N3.out.lt; omega)
          clear hX4 hb4 n_0 n_1 n_2 a_0 a_1 a_2 N3 A3 B3
          refine hK.out _ _ ⟨N4.out.1 0 _ rfl, N4.out.1 1 _ rfl, N4.out.1 2 _ rfl⟩ (fun hH => ?_)
          clear hK hH K
          try simp only [pickOp, Act.put, List.setIfInBounds_toArray, List.set_cons_zero, List.set_cons_succ]
          obtain ⟨a_0, a_1, a_2⟩ : _ ∧ _ ∧ _ := ⟨A4.out.s.1 0 _ rfl, A4.out.s.1 1 _ rfl, A4.out.s.1 2 _ rfl⟩
          refine T_b1 (fun K hK => ?_)
          simp only [pickOp]
          go_simp
          refine hK.out _ _ ⟨N4.out.1 0 _ rfl, N4.out.1 1 _ rfl, N4.out.1 2 _ rfl⟩ (fun hH => ?_)
          clear hK hH K a_0 a_1 a_2
          try simp only [pickOp, Act.put, List.setIfInBounds_toArray, List.set_cons_zero, List.set_cons_succ]
          obtain ⟨it, hit, iz, isz, iby⟩ := hinfo_parts hit
          obtain ⟨v', W5, happ, hown, hgr, hnil, hat⟩ := run_append_own_at (P := Try.prog) W4 0 54 54 53 it (.agg #[.int .i64 0, .int .i64 0, .int .i64 0]) 3 24 Try.underlying54 hit iz isz iby rfl (by decide) (.slice (some ⟨a.q, 0, none⟩) ns.length a.cap) ns.length (ns.flatMap nc) A4.out.o ⟨W3.heap.size, 0, none⟩ 1 1 [.int .i64 (v : Nat), .int .i64 (l : Nat), .int .i64 (hi : Nat)] rfl
            (fun j u hj => by
              have := X4.out.1 j u hj
              match j, hj with
              | 0, _ => exact this
              | 1, _ => exact this
              | 2, _ => exact this) (by intro u hu; simp at hu; rcases hu with rfl | rfl | rfl <;> rfl) (by have := A4.out.len; unfold maxLen; omega) (by have := A4.out.len; omega) (Nat.zero_le _)
          have hv : ∃ q' cap', v' = .slice (some ⟨q', 0, none⟩) (ns.length + 1) cap' := by
            rcases hown.2 with ⟨-, e⟩ | ⟨g, cap, cur, e, -⟩
            · omega
            · exact ⟨g, cap, e⟩
          obtain ⟨q', cap', rfl⟩ := hv
          have G5 := Lib.hid hgr
          have O5 := Lib.hid hown
          have Q5 := Lib.hid (show q' = a.q ∨ q' = W4.heap.size by rcases hat with e | e <;> simp [Value.ownBlock] at e <;> omega)
          clear hgr hown hnil hat hit iz isz iby it
          refine T_b1 (fun K hK => ?_)
          refine wanted_then (by rfl) (wp_append_run _ _ 54 rfl rfl rfl happ ?_)
          have K5 := Lib.hid (show Keep (fun i => i = a.q) W4 W5 from (Keep.refl _ _).grown G5.out (fun k hk _ => by simp [Value.ownBlock] at hk; exact hk.symm))
          have S5 := Lib.hid (K5.out.blk A4.out.s A4.out.pq)
          have N5 := Lib.hid (K5.out.blk N4.out (fun e => hqne.out e.symm))
          clear happ
          refine hK.out _ _ ⟨N5.out.1 0 _ rfl, N5.out.1 1 _ rfl, N5.out.1 2 _ rfl⟩ (fun hH => ?_)
          clear hK hH K
          try simp only [pickOp, Act.put, List.setIfInBounds_toArray, List.set_cons_zero, List.set_cons_succ]
          iterate 2 (refine T_pure ?_ (by rfl) (fun w hSw => ?_) ?_; rotate_left; (obtain ⟨s_1, s_2, s_3⟩ := hSw; simp only [pickOp]; go_simp; try with_reducible rfl); try simp only [pickOp, Act.put, List.setIfInBounds_toArray, List.set_cons_zero, List.set_cons_succ])
          refine T_b1 (fun K hK => ?_)
          obtain ⟨s_0, s_1, s_2⟩ : _ ∧ _ ∧ _ := ⟨S5.out.1 0 _ rfl, S5.out.1 1 _ rfl, S5.out.1 2 _ rfl⟩
          obtain ⟨z_0, z_1, z_2⟩ : _ ∧ _ ∧ _ := ⟨S5.out.2 0 _ rfl, S5.out.2 1 _ rfl, S5.out.2 2 _ rfl⟩
          simp only [pickOp]
          go_simp
          refine at_act (S := fun W => Keep (fun i => i = a.p) W5 W ∧ Blk W a.p [.int .i64 (most : Nat), .slice (some ⟨q', 0, none⟩) (ns.length + 1) cap', .map (some a.m)]) ⟨(Keep.refl _ _).set _ _ (fun _ => rfl), S5.out.set 1 _ (by simp)⟩ (fun W6 hW => ?_)
          obtain ⟨hK6, hS6⟩ := hW
          have K6 := Lib.hid hK6
          have S6 := Lib.hid hS6
          have N6 := Lib.hid (K6.out.blk N5.out (fun e => hpne.out e.symm))
          clear hK6 hS6 s_0 s_1 s_2 z_0 z_1 z_2
          refine hK.out _ _ ⟨N6.out.1 0 _ rfl, N6.out.1 1 _ rfl, N6.out.1 2 _ rfl⟩ (fun hH => ?_)
          clear hK hH K
          try simp only [pickOp, Act.put, List.setIfInBounds_toArray, List.set_cons_zero, List.set_cons_succ]
          refine T_done (NoPanic.normal ?_)
          obtain ⟨n_0, n_1, n_2⟩ : _ ∧ _ ∧ _ := ⟨N6.out.1 0 _ rfl, N6.out.1 1 _ rfl, N6.out.1 2 _ rfl⟩
          obtain ⟨a_0, a_1, a_2⟩ : _ ∧ _ ∧ _ := ⟨S6.out.1 0 _ rfl, S6.out.1 1 _ rfl, S6.out.1 2 _ rfl⟩
          have M6 := Lib.hid (show MapG Try.prog 53 3 nv W6.drew a.m (numL ns) from ((A4.out.m.same (K5.out.block _ A4.out.ml (fun e => A4.out.qm e.symm))).same (K6.out.block _ (by have := K5.out.size; have := A4.out.ml; omega) (fun e => A4.out.pm e.symm))).drew)
          obtain ⟨W7, hup, hM7, hO7⟩ := mapG_store keyedNode Try.underlying55 Try.underlying3 nv_inj M6.out (k := ⟨v, l, hi⟩) (v := ns.length) HK.out HNot.out (by have := A4.out.len; omega) (by have := numL_len ns; have := A4.out.len; unfold maxLen; omega)
          have M7 := Lib.hid hM7
          have O7 := Lib.hid hO7
          clear hM7 hO7
          simp only [nv] at hup
          go_upto_region 10 with fail
          refine wp_region_noPanic ?_
          refine wp_region_along (S := fun w' => w'.cell? ⟨a.p, 2, none⟩ = some (.map (some a.m)) ∧ w'.cell? ⟨w.heap.size, 0, none⟩ = some (.int .i64 (v : Nat)) ∧ w'.cell? ⟨w.heap.size, 1, none⟩ = some (.int .i64 (l : Nat)) ∧ w'.cell? ⟨w.heap.size, 2, none⟩ = some (.int .i64 (hi : Nat))) ([(0, true), (1, true), (2, true), (3, true), (4, true), (5, true), (6, false)]) (by kernel_rfl) (by as_aux_lemma => kernel_rfl) (by kernel_rfl) (by kernel_rfl) (by as_aux_lemma => kernel_rfl) (by as_aux_lemma => kernel_rfl) (fun _ _ _ _ _ h => h) ⟨a_2, n_0, n_1, n_2⟩ (fun hH => ?_)
          simp only [stepsOf, pickOp]
          iterate 6 (first | (refine along_skip (by rfl) ?_; try simp only [Act.put, List.setIfInBounds_toArray, List.set_cons_zero, List.set_cons_succ]) | (refine along_pure ?_ (by rfl) (fun w hSw => ?_) ?_; rotate_left; (obtain ⟨s_0, s_1, s_2, s_3⟩ := hSw; go_simp; try with_reducible rfl); try simp only [Act.put, List.setIfInBounds_toArray, List.set_cons_zero, List.set_cons_succ]))
          clear hH
          refine along_bar (fun K hK => ?_)
          go_simp
          have K7 := Lib.hid (show Keep (fun i => i = a.m) W6 W7 from (Keep.refl _ _).drew.only O7.out (fun _ => rfl))
          have S7 := Lib.hid (K7.out.blk S6.out A4.out.pm)
          have N7 := Lib.hid (K7.out.blk N6.out (fun e => hmne.out e.symm))
          refine hK.out _ _ ⟨S7.out.1 2 _ rfl, N7.out.1 0 _ rfl, N7.out.1 1 _ rfl, N7.out.1 2 _ rfl⟩ (fun hH => ?_)
          clear hK hH K
          try simp only [Act.put, List.setIfInBounds_toArray, List.set_cons_zero, List.set_cons_succ]
          refine along_end (NoPanic.normal ?_)
          clear hup n_0 n_1 n_2 a_0 a_1 a_2
          have AF : Ar W7 ⟨a.p, q', a.m, cap'⟩ most (ns ++ [⟨v, l, hi⟩]) := by
            have hlen : (ns ++ [(⟨v, l, hi⟩ : Nd)]).length = ns.length + 1 := by simp
            have hq6 : W6.heap[q']? = W5.heap[q']? := K6.out.block q' (by
              rcases Q5.out with e | e
              · have := A4.out.ql; have := K5.out.size; omega
              · rcases O5.out.2 with ⟨e1, -⟩ | ⟨g, cap, cur, e1, -, hg, -⟩
                · cases e1
                · cases e1
                  rcases Nat.lt_or_ge q' W5.heap.size with r | r
                  · exact r
                  · rw [Array.getElem?_eq_none r] at hg; cases hg) (fun e => by
              rcases Q5.out with e1 | e1
              · exact A4.out.pq (e.symm.trans e1)
              · have := A4.out.pl; omega)
            have hq7 : W7.heap[q']? = W6.heap[q']? := O7.out.blk q' (fun e => by
              rcases Q5.out with e1 | e1
              · exact A4.out.qm (e1.symm.trans e)
              · have := A4.out.ml; omega)
            refine ⟨?_, ?_, ?_, by rw [hlen]; have := A4.out.most; omega, A4.out.most, ?_⟩
            · rw [hlen]; exact S7.out
            · rw [hlen]
              rcases O5.out with ⟨o1, o2⟩
              have hfl : (ns ++ [(⟨v, l, hi⟩ : Nd)]).flatMap nc = ns.flatMap nc ++ [.int .i64 (v : Nat), .int .i64 (l : Nat), .int .i64 (hi : Nat)] := by rw [List.flatMap_append]; rfl
              rw [hfl]
              refine ⟨o1, ?_⟩
              rcases o2 with ⟨e1, -⟩ | ⟨g, cap, cur, e1, o3, hg, o4⟩
              · cases e1
              · cases e1
                exact Or.inr ⟨q', cap', cur, rfl, Nat.zero_le _, by rw [hq7, hq6]; exact hg, o4⟩
            · refine M7.out.perm (fun p => ?_)
              obtain ⟨p1, p2⟩ := p
              rw [mem_numL, List.mem_cons, mem_numL]
              have h2 := HW.out.len
              constructor
              · rintro (e | ⟨e1, e2⟩)
                · cases e
                  exact ⟨h2, by simp⟩
                · exact ⟨e1, by rw [List.getElem?_append_left (lt_of_get e2)]; exact e2⟩
              · rintro ⟨e1, e2⟩
                rcases Nat.lt_or_ge p2 ns.length with r | r
                · rw [List.getElem?_append_left r] at e2
                  exact Or.inr ⟨e1, e2⟩
                · have : p2 < (ns ++ [(⟨v, l, hi⟩ : Nd)]).length := lt_of_get e2
                  have : p2 = ns.length := by omega
                  subst this
                  rw [List.getElem?_append_right (Nat.le_refl _), Nat.sub_self] at e2
                  cases e2
                  exact Or.inl rfl
            · show a.p ≠ q'
              rcases Q5.out with e1 | e1
              · rw [e1]; exact A4.out.pq
              · have := A4.out.pl; omega
          have TF : Tr (fun _ => False) w a W7 ⟨a.p, q', a.m, cap'⟩ := by
            refine ⟨?_, rfl, rfl, ?_⟩
            · have k4 : Keep (fun i => a.has i ∨ False) w W4 := Keep.of B4.out
              exact ((k4.trans K5.out (fun i _ e => Or.inl (Or.inr (Or.inl e)))).trans K6.out (fun i _ e => Or.inl (Or.inl e))).trans K7.out (fun i _ e => Or.inl (Or.inr (Or.inr e)))
            · rcases Q5.out with e1 | e1
              · exact Or.inl e1
              · right; show w.heap.size ≤ q'; have := B4.out.size; omega
          have HF := Lib.hid (And.intro AF TF)
          clear AF TF
          go_wp2
          go_ret2
          exact ⟨rfl, _, HF.out.1, HF.out.2⟩
end Go.Proofs.Ytgcbngephokegab
