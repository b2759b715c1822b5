/- Cube, Var. -/
import Derived.Test.YtioanjpeddipmacAU
namespace Go.Proofs.Ytioanjpeddipmac
open Go.RowKit
set_option linter.unusedVariables false

theorem at_calls3 {P : Program} {f : Nat} {args : Array Value} {R : Ending → World → Prop} {W : World} {S : World → Prop} (h : S W) (k : ∀ W, S W → Calls P f args W R) : Calls P f args W R := k W h
/-- Two numbers are answered. -/
def Two (Q : Int → Int → World → Prop) (e : Ending) (w' : World) : Prop := ∃ r x : Int, e = .returned (.tuple #[.int .i64 r, .int .i64 x]) ∧ Q r x w'
/-- May the i-th bit stand there. -/
def litOk (l : List (Int × Bool)) (i : Nat) : Bool := bitB (l.getD i (0, false)).1 && (decide (i = 0) || decide ((l.getD (i - 1) (0, false)).1 < (l.getD i (0, false)).1))
def litsOk (l : List (Int × Bool)) : Bool := (List.range l.length).all (litOk l)
set_option maxRecDepth 100000 in
set_option maxHeartbeats 4000000 in
theorem cubeJ_core (a : AL) (most : Nat) (ns : List Nd) (l : List (Int × Bool)) (w : World) (h : Ar w a most ns) (b cap : Nat) (hl : LitC w b l) (hln : l.length ≤ 1000) (Q : Int → Int → World → Prop)
    (HBad : litsOk l = false → ∀ W, Below w.heap.size w W → Q 0 1 W)
    (HW : litsOk l = true → ∀ W, Ar W a most ns → Below w.heap.size w W → W.cell? ⟨w.heap.size, 0, none⟩ = some (.pointer (some ⟨a.p, 0, none⟩)) → W.cell? ⟨w.heap.size + 1, 0, none⟩ = some (.slice (some ⟨b, 0, none⟩) l.length cap) → Calls Try.prog 43 #[.pointer (some ⟨a.p, 0, none⟩), .func (.func 53) #[] #[.pointer (some ⟨w.heap.size, 0, none⟩), .pointer (some ⟨w.heap.size + 1, 0, none⟩)]] W (Two Q)) :
    Calls Try.prog 31 #[.pointer (some ⟨a.p, 0, none⟩), .slice (some ⟨b, 0, none⟩) l.length cap] w (Two Q) := by
  unfold Two at *
  obtain ⟨n, hn⟩ : ∃ n, l.length = n := ⟨_, rfl⟩
  rw [hn] at hln HW ⊢
  have HN := Lib.hid hn
  have HA := Lib.hid h
  have HL := Lib.hid hl
  have HB := Lib.hid HBad
  have HH := Lib.hid HW
  have CB := Lib.hid (fun (i : Int) (W : World) => isbit_any i W)
  clear hn h hl HBad HW
  have hmf : ∀ (fn : Fn) (first cap : Array Value) (w : World), (Instr.makeFunc fn first cap).run Try.prog w = .ok (.func fn first cap) w := fun _ _ _ _ => rfl
  go_enter Try.func31, Try.ntmps31
  go_upto_region 1 with fail
  refine at_code (S := fun W => Blk W w.heap.size [.pointer (some ⟨a.p, 0, none⟩)] ∧ Blk W (w.heap.size + 1) [.slice (some ⟨b, 0, none⟩) n cap] ∧ Below w.heap.size w W) ⟨?_, ?_, bel_al (bel_al (Below.refl _ _) _) _⟩ (fun W0 hW => ?_)
  · exact (Blk.new w _ [.pointer (some ⟨a.p, 0, none⟩)]).on (bel_al (Below.refl _ _) _)
  · have k := Blk.new (w.alloc (.cells #[.pointer (some ⟨a.p, 0, none⟩)] 30)) 79 [.slice (some ⟨b, 0, none⟩) n cap]
    rw [World.size_alloc] at k
    exact k
  obtain ⟨hp, hs, hb⟩ := hW
  have P0 := Lib.hid hp
  have S0 := Lib.hid hs
  have B0 := Lib.hid hb
  have L0 := Lib.hid (HL.out.on hb)
  have p_0 := hp.1 0 _ rfl
  have s_0 := hs.1 0 _ rfl
  clear hp hs hb HL
  go_wp2_with fail
  go_loopw [12] (fun iv wr => ∃ k : Nat, iv = .int .i64 (k : Nat) ∧ k ≤ n ∧ Hid (∀ i, i < k → litOk l i = true) ∧ Hid (Below W0.heap.size W0 wr)) (fun iv _ => n - (intOf iv).toNat)
  case atStart => exact ⟨0, rfl, Nat.zero_le _, Lib.hid (fun i hi => by omega), Lib.hid (Below.refl _ _)⟩
  case round =>
    obtain ⟨k, rfl, hk, hOk, hB⟩ := hrel
    have s_1 : wr.cell? ⟨w.heap.size + 1, 0, none⟩ = some (.slice (some ⟨b, 0, none⟩) n cap) := (S0.out.on hB.out).1 0 _ rfl
    have p_1 : wr.cell? ⟨w.heap.size, 0, none⟩ = some (.pointer (some ⟨a.p, 0, none⟩)) := (P0.out.on hB.out).1 0 _ rfl
    clear s_0 p_0
    by_cases hkn : k < n
    · obtain ⟨x, hx⟩ : ∃ x, l[k]? = some x := ⟨_, List.getElem?_eq_getElem (by have := HN.out; omega)⟩
      have hgd : l.getD k (0, false) = x := by rw [List.getD_eq_getElem?_getD, hx]; rfl
      obtain ⟨v, on⟩ := x
      have L1 := Lib.hid (L0.out.on hB.out)
      obtain ⟨l_0, l_1⟩ := L1.out k _ hx
      simp only at l_0 l_1
      have hwk : IntKind.i64.wrap ((k : Int) + 1) = ((k + 1 : Nat) : Int) := by rw [IntKind.wrap_i64]; omega
      have CI := Lib.hid (fun W => CB.out v W)
      clear CB
      have HX := Lib.hid hx
      have HG := Lib.hid hgd
      clear hx hgd
      go_upto_region 6 with fail
      refine at_code (S := fun W => Blk W wr.heap.size [.int .i64 v, .bool on] ∧ Below wr.heap.size wr W) ⟨Blk.new _ _ _, bel_al (Below.refl _ _) _⟩ (fun W1 hW => ?_)
      obtain ⟨hX, hb1⟩ := hW
      have B1 := Lib.hid (bel_on' hB.out hb1)
      have x_0 := hX.1 0 _ rfl
      have s_2 : W1.cell? ⟨w.heap.size + 1, 0, none⟩ = some (.slice (some ⟨b, 0, none⟩) n cap) := (hb1.cell (p := ⟨w.heap.size + 1, 0, none⟩) (cell_lt (o := 0) (by rw [s_1]; rfl))).trans s_1
      have L2 := Lib.hid (L1.out.on hb1)
      clear hX hb1 l_0 l_1 s_1 p_1 L1
      have s_1 := s_2
      clear s_2
      cases hbit : bitB v with
      | false =>
        rw [hbit] at CI
        refine wp_region_noPanic ?_
        refine wp_region_along (S := fun w' => w'.cell? ⟨wr.heap.size, 0, none⟩ = some (.int .i64 v) ∧ w'.cell? ⟨w.heap.size + 1, 0, none⟩ = some (.slice (some ⟨b, 0, none⟩) n cap)) ([(0, true), (1, true), (2, false), (3, true), (4, true), (5, true), (6, true), (7, true), (8, true), (9, true), (10, true), (11, true), (12, true), (13, true), (14, true), (15, true), (16, true), (17, true), (18, true)]) (by kernel_rfl) (by as_aux_lemma => kernel_rfl) (by kernel_rfl) (by kernel_rfl) (by as_aux_lemma => kernel_rfl) (by as_aux_lemma => kernel_rfl) (fun _ _ _ _ _ h => h) ⟨x_0, s_1⟩ (fun hH => ?_)
        simp only [stepsOf, pickOp]
        iterate 2 (first | (refine along_skip (by rfl) ?_; try simp only [Act.put, List.setIfInBounds_toArray, List.set_cons_zero, List.set_cons_succ]) | (refine along_pure ?_ (by rfl) (fun w hSw => ?_) ?_; rotate_left; (obtain ⟨s_a, s_b⟩ := hSw; go_simp; try with_reducible rfl); try simp only [Act.put, List.setIfInBounds_toArray, List.set_cons_zero, List.set_cons_succ]))
        clear hH
        refine along_bar (fun K hK => ?_)
        go_simp
        refine (CI.out W1.drew).mono ?_
        rintro e w' ⟨rfl, rfl⟩
        try go_wp2_with fail
        refine hK.out _ _ ⟨x_0, s_1⟩ (fun hH => ?_)
        clear hK K
        try simp only [Act.put, List.setIfInBounds_toArray, List.set_cons_zero, List.set_cons_succ]
        iterate 16 (first | (refine along_skip (by rfl) ?_; try simp only [Act.put, List.setIfInBounds_toArray, List.set_cons_zero, List.set_cons_succ]) | (refine along_pure ?_ (by rfl) (fun w hSw => ?_) ?_; rotate_left; (obtain ⟨s_a, s_b⟩ := hSw; go_simp; try with_reducible rfl); try simp only [Act.put, List.setIfInBounds_toArray, List.set_cons_zero, List.set_cons_succ]))
        refine along_end (NoPanic.normal ?_)
        clear hH
        go_wp2
        go_ret2
        refine ⟨0, 1, rfl, HB.out ?_ _ (bel_on' B0.out B1.out.drew)⟩
        unfold litsOk
        rw [Bool.eq_false_iff]
        intro q
        rw [List.all_eq_true] at q
        have := q k (List.mem_range.2 (by rw [HN.out]; exact hkn))
        unfold litOk at this
        rw [HG.out, hbit] at this
        cases this
      | true =>
        rw [hbit] at CI
        rcases Nat.eq_zero_or_pos k with hk0 | hk0
        · subst hk0
          refine wp_region_noPanic ?_
          refine wp_region_along (S := fun w' => w'.cell? ⟨wr.heap.size, 0, none⟩ = some (.int .i64 v) ∧ w'.cell? ⟨w.heap.size + 1, 0, none⟩ = some (.slice (some ⟨b, 0, none⟩) n cap)) ([(0, true), (1, true), (2, false), (3, true), (4, true), (5, true), (6, true), (7, true), (8, true), (9, true), (10, true), (11, true), (12, true), (13, true), (14, true), (15, true), (16, true), (17, true), (18, true)]) (by kernel_rfl) (by as_aux_lemma => kernel_rfl) (by kernel_rfl) (by kernel_rfl) (by as_aux_lemma => kernel_rfl) (by as_aux_lemma => kernel_rfl) (fun _ _ _ _ _ h => h) ⟨x_0, s_1⟩ (fun hH => ?_)
          simp only [stepsOf, pickOp]
          iterate 2 (first | (refine along_skip (by rfl) ?_; try simp only [Act.put, List.setIfInBounds_toArray, List.set_cons_zero, List.set_cons_succ]) | (refine along_pure ?_ (by rfl) (fun w hSw => ?_) ?_; rotate_left; (obtain ⟨s_a, s_b⟩ := hSw; go_simp; try with_reducible rfl); try simp only [Act.put, List.setIfInBounds_toArray, List.set_cons_zero, List.set_cons_succ]))
          clear hH
          refine along_bar (fun K hK => ?_)
          go_simp
          refine (CI.out W1.drew).mono ?_
          rintro e w' ⟨rfl, rfl⟩
          try go_wp2_with fail
          refine hK.out _ _ ⟨x_0, s_1⟩ (fun hH => ?_)
          clear hK K
          try simp only [Act.put, List.setIfInBounds_toArray, List.set_cons_zero, List.set_cons_succ]
          iterate 16 (first | (refine along_skip (by rfl) ?_; try simp only [Act.put, List.setIfInBounds_toArray, List.set_cons_zero, List.set_cons_succ]) | (refine along_pure ?_ (by rfl) (fun w hSw => ?_) ?_; rotate_left; (obtain ⟨s_a, s_b⟩ := hSw; go_simp; try with_reducible rfl); try simp only [Act.put, List.setIfInBounds_toArray, List.set_cons_zero, List.set_cons_succ]))
          refine along_end (NoPanic.normal ?_)
          clear hH
          go_wp2_with fail
          refine ⟨⟨1, rfl, by omega, Lib.hid (fun i hi => ?_), Lib.hid B1.out.drew⟩, by simp [intOf] <;> omega⟩
          have : i = 0 := by omega
          subst this
          unfold litOk
          rw [HG.out, hbit]
          rfl
        · obtain ⟨j, hj⟩ : ∃ j, k = j + 1 := ⟨k - 1, by omega⟩
          obtain ⟨y, hy⟩ : ∃ y, l[j]? = some y := ⟨_, List.getElem?_eq_getElem (by have := HN.out; omega)⟩
          obtain ⟨u, ou⟩ := y
          have hgu : l.getD j (0, false) = (u, ou) := by rw [List.getD_eq_getElem?_getD, hy]; rfl
          have u_0 := (L2.out j _ hy).1
          simp only at u_0
          have hju : IntKind.i64.wrap ((k : Int) - 1) = ((j : Nat) : Int) := by rw [IntKind.wrap_i64]; omega
          have hpos : (0 : Int) < (k : Int) := by omega
          have hjn : j < n := by omega
          have HU := Lib.hid hgu
          have HJ := Lib.hid hj
          clear hgu hy hj
          by_cases hle : v ≤ u
          · refine wp_region_noPanic ?_
            refine wp_region_along (S := fun w' => w'.cell? ⟨wr.heap.size, 0, none⟩ = some (.int .i64 v) ∧ w'.cell? ⟨w.heap.size + 1, 0, none⟩ = some (.slice (some ⟨b, 0, none⟩) n cap) ∧ w'.cell? ⟨b, j * 2, none⟩ = some (.int .i64 u)) ([(0, true), (1, true), (2, false), (3, true), (4, true), (5, true), (6, true), (7, true), (8, true), (9, true), (10, true), (11, true), (12, true), (13, true), (14, true), (15, true), (16, true), (17, true), (18, true)]) (by kernel_rfl) (by as_aux_lemma => kernel_rfl) (by kernel_rfl) (by kernel_rfl) (by as_aux_lemma => kernel_rfl) (by as_aux_lemma => kernel_rfl) (fun _ _ _ _ _ h => h) ⟨x_0, s_1, u_0⟩ (fun hH => ?_)
            simp only [stepsOf, pickOp]
            iterate 2 (first | (refine along_skip (by rfl) ?_; try simp only [Act.put, List.setIfInBounds_toArray, List.set_cons_zero, List.set_cons_succ]) | (refine along_pure ?_ (by rfl) (fun w hSw => ?_) ?_; rotate_left; (obtain ⟨s_a, s_b, s_c⟩ := hSw; go_simp; try with_reducible rfl); try simp only [Act.put, List.setIfInBounds_toArray, List.set_cons_zero, List.set_cons_succ]))
            clear hH
            refine along_bar (fun K hK => ?_)
            go_simp
            refine (CI.out W1.drew).mono ?_
            rintro e w' ⟨rfl, rfl⟩
            try go_wp2_with fail
            refine hK.out _ _ ⟨x_0, s_1, u_0⟩ (fun hH => ?_)
            clear hK K
            try simp only [Act.put, List.setIfInBounds_toArray, List.set_cons_zero, List.set_cons_succ]
            iterate 16 (first | (refine along_skip (by rfl) ?_; try simp only [Act.put, List.setIfInBounds_toArray, List.set_cons_zero, List.set_cons_succ]) | (refine along_pure ?_ (by rfl) (fun w hSw => ?_) ?_; rotate_left; (obtain ⟨s_a, s_b, s_c⟩ := hSw; go_simp; try with_reducible rfl); try simp only [Act.put, List.setIfInBounds_toArray, List.set_cons_zero, List.set_cons_succ]))
            refine along_end (NoPanic.normal ?_)
            clear hH
            go_wp2
            go_ret2
            refine ⟨0, 1, rfl, HB.out ?_ _ (bel_on' B0.out B1.out.drew)⟩
            unfold litsOk
            rw [Bool.eq_false_iff]
            intro q
            rw [List.all_eq_true] at q
            have := q k (List.mem_range.2 (by rw [HN.out]; exact hkn))
            unfold litOk at this
            rw [HG.out, show k - 1 = j by have := HJ.out; omega, HU.out] at this
            simp at this
            omega
          · refine wp_region_noPanic ?_
            refine wp_region_along (S := fun w' => w'.cell? ⟨wr.heap.size, 0, none⟩ = some (.int .i64 v) ∧ w'.cell? ⟨w.heap.size + 1, 0, none⟩ = some (.slice (some ⟨b, 0, none⟩) n cap) ∧ w'.cell? ⟨b, j * 2, none⟩ = some (.int .i64 u)) ([(0, true), (1, true), (2, false), (3, true), (4, true), (5, true), (6, true), (7, true), (8, true), (9, true), (10, true), (11, true), (12, true), (13, true), (14, true), (15, true), (16, true), (17, true), (18, true)]) (by kernel_rfl) (by as_aux_lemma => kernel_rfl) (by kernel_rfl) (by kernel_rfl) (by as_aux_lemma => kernel_rfl) (by as_aux_lemma => kernel_rfl) (fun _ _ _ _ _ h => h) ⟨x_0, s_1, u_0⟩ (fun hH => ?_)
            simp only [stepsOf, pickOp]
            iterate 2 (first | (refine along_skip (by rfl) ?_; try simp only [Act.put, List.setIfInBounds_toArray, List.set_cons_zero, List.set_cons_succ]) | (refine along_pure ?_ (by rfl) (fun w hSw => ?_) ?_; rotate_left; (obtain ⟨s_a, s_b, s_c⟩ := hSw; go_simp; try with_reducible rfl); try simp only [Act.put, List.setIfInBounds_toArray, List.set_cons_zero, List.set_cons_succ]))
            clear hH
            refine along_bar (fun K hK => ?_)
            go_simp
            refine (CI.out W1.drew).mono ?_
            rintro e w' ⟨rfl, rfl⟩
            try go_wp2_with fail
            refine hK.out _ _ ⟨x_0, s_1, u_0⟩ (fun hH => ?_)
            clear hK K
            try simp only [Act.put, List.setIfInBounds_toArray, List.set_cons_zero, List.set_cons_succ]
            iterate 16 (first | (refine along_skip (by rfl) ?_; try simp only [Act.put, List.setIfInBounds_toArray, List.set_cons_zero, List.set_cons_succ]) | (refine along_pure ?_ (by rfl) (fun w hSw => ?_) ?_; rotate_left; (obtain ⟨s_a, s_b, s_c⟩ := hSw; go_simp; try with_reducible rfl); try simp only [Act.put, List.setIfInBounds_toArray, List.set_cons_zero, List.set_cons_succ]))
            refine along_end (NoPanic.normal ?_)
            clear hH
            go_wp2_with fail
            refine ⟨⟨k + 1, ?_, by omega, Lib.hid (fun i hi => ?_), Lib.hid B1.out.drew⟩, by simp [intOf] <;> omega⟩
            · first | rfl | rw [hwk]
            · rcases Nat.lt_or_ge i k with q | q
              · exact hOk.out i q
              · have : i = k := by omega
                subst this
                unfold litOk
                rw [HG.out, show i - 1 = j by have := HJ.out; omega, HU.out, hbit]
                simp
                omega
    · have hkn' : k = n := by omega
      subst hkn'
      have hgood : litsOk l = true := by
        unfold litsOk
        rw [List.all_eq_true]
        intro i hi
        rw [List.mem_range, HN.out] at hi
        exact hOk.out i hi
      have hb := bel_on' B0.out hB.out
      have CC := Lib.hid (HH.out hgood wr (HA.out.on hb) hb p_1 s_1)
      clear hb
      go_wp2_with fail
      refine CC.out.mono ?_
      rintro e w3 ⟨r, x, rfl, hP⟩
      have HP := Lib.hid hP
      clear hP
      go_wp2
      go_ret2
      exact ⟨r, x, rfl, HP.out⟩
set_option maxRecDepth 100000 in
set_option maxHeartbeats 1000000 in
theorem cubeL_any (most : Nat) (R : Option Nat × List Nd) (W : World) (a : AL) (v : Value) (b0 b1 : Nat) (c0 : W.cell? ⟨b0, 0, none⟩ = some (.pointer (some ⟨a.p, 0, none⟩))) (c1 : W.cell? ⟨b1, 0, none⟩ = some v) (HJ : Hid (Calls Try.prog 54 #[.pointer (some ⟨a.p, 0, none⟩), v] W (Ans most R W a))) :
    Calls Try.prog 53 #[.pointer (some ⟨b0, 0, none⟩), .pointer (some ⟨b1, 0, none⟩)] W (Ans most R W a) := by
  unfold Ans at HJ ⊢
  obtain ⟨r, hr⟩ : ∃ r : Int, ((rv R.1 : Nat) : Int) = r := ⟨_, rfl⟩
  obtain ⟨x, hx⟩ : ∃ x : Int, er R.1 = x := ⟨_, rfl⟩
  rw [hr, hx] at HJ ⊢
  clear hr hx
  go_enter Try.func53, Try.ntmps53
  go_wp2_with fail
  refine HJ.out.mono ?_
  rintro e w1 ⟨rfl, a1, hA, hT⟩
  have F := Lib.hid (And.intro hA hT)
  clear hA hT
  go_wp2
  go_ret2
  exact ⟨rfl, a1, F.out.1, F.out.2⟩
def AnsQ (most : Nat) (R : Option Nat × List Nd) (w : World) (a : AL) (r x : Int) (w' : World) : Prop := r = (rv R.1 : Nat) ∧ x = er R.1 ∧ ∃ a', Ar w' a' most R.2 ∧ Tr (fun _ => False) w a w' a'
theorem ans_of {most : Nat} {R : Option Nat × List Nd} {w : World} {a : AL} {e : Ending} {w' : World} (h : Two (AnsQ most R w a) e w') : Ans most R w a e w' := by
  obtain ⟨r, x, rfl, rfl, rfl, h⟩ := h
  exact ⟨rfl, h⟩
theorem of_ans {most : Nat} {R : Option Nat × List Nd} {w W : World} {a : AL} {e : Ending} {w' : World} (hb : Below w.heap.size w W) (h : Ans most R W a e w') : Two (AnsQ most R w a) e w' := by
  obtain ⟨rfl, a', h1, h2⟩ := h
  exact ⟨_, _, rfl, rfl, rfl, a', h1, Tr.ahead hb h2⟩
theorem litsOk_nat {l : List (Nat × Bool)} (h : Rise l) : litsOk (natL l) = true := by
  unfold litsOk
  rw [List.all_eq_true]
  intro i hi
  rw [List.mem_range, natL_len] at hi
  have hg : ∀ j, j < l.length → ∃ p, l[j]? = some p ∧ (natL l).getD j (0, false) = ((p.1 : Int), p.2) := fun j hj => by
    obtain ⟨p, hp⟩ : ∃ p, l[j]? = some p := ⟨_, List.getElem?_eq_getElem hj⟩
    exact ⟨p, hp, by rw [List.getD_eq_getElem?_getD, natL_get hp]; rfl⟩
  obtain ⟨p, hp, ep⟩ := hg i hi
  have h1 := h.2 p (List.mem_of_getElem? hp)
  unfold litOk
  rw [ep]
  have hb : bitB (p.1 : Int) = true := by unfold bitB; simp; omega
  rw [hb, Bool.true_and, Bool.or_eq_true, decide_eq_true_eq, decide_eq_true_eq]
  rcases Nat.eq_zero_or_pos i with q | q
  · exact Or.inl q
  · right
    obtain ⟨p', hp', ep'⟩ := hg (i - 1) (by omega)
    rw [ep']
    have := List.pairwise_iff_getElem.1 h.1 (i - 1) i (by omega) hi (by omega)
    rw [List.getElem?_eq_getElem hi] at hp
    rw [List.getElem?_eq_getElem (by omega)] at hp'
    cases hp
    cases hp'
    show ((_ : Nat) : Int) < ((_ : Nat) : Int)
    omega
/-- Cube of bits that rise. -/
theorem cubeJ_any (a : AL) (most : Nat) (ns : List Nd) (l : List (Nat × Bool)) (w : World) (h : Ar w a most ns) (hw : WF ns) (hr : Rise l) (b cap : Nat) (hl : LitC w b (natL l)) (hb : b < w.heap.size) (ho : Off (fun _ => False) a b) :
    Calls Try.prog 31 #[.pointer (some ⟨a.p, 0, none⟩), .slice (some ⟨b, 0, none⟩) l.length cap] w (Ans most (cF most ns l) w a) := by
  have k := cubeJ_core a most ns (natL l) w h b cap hl (by rw [natL_len]; have := hr.len; omega) (AnsQ most (cF most ns l) w a) (fun q => by rw [litsOk_nat hr] at q; cases q) (fun _ W hA hB c0 c1 => ?_)
  · rw [natL_len] at k; exact k.mono fun _ _ => ans_of
  · obtain ⟨M, X, -⟩ := cubeF_made most hw l hr.1 hr.2
    rw [natL_len] at c1
    have C := whole_core most ns (cubeF most ns l).2 (cubeF most ns l).1 53 _ W a hA hw M X Try.call53 (cubeL_any most (cubeF most ns l) W a _ _ _ c0 c1 (cube_any a most ns l W hA hw hr b cap (hl.on hB) (by have := hB.size; omega) ho))
    exact C.mono fun _ _ q => of_ans hB q
/-- .. of others. -/
theorem cubeJ_bad (a : AL) (most : Nat) (ns : List Nd) (l : List (Int × Bool)) (w : World) (h : Ar w a most ns) (b cap : Nat) (hl : LitC w b l) (hln : l.length ≤ 1000) (hb : litsOk l = false) :
    Calls Try.prog 31 #[.pointer (some ⟨a.p, 0, none⟩), .slice (some ⟨b, 0, none⟩) l.length cap] w fun e w' => e = .returned (.tuple #[.int .i64 0, .int .i64 1]) ∧ Below w.heap.size w w' :=
  (cubeJ_core a most ns l w h b cap hl hln (fun r x W => r = 0 ∧ x = 1 ∧ Below w.heap.size w W) (fun _ W hW => ⟨rfl, rfl, hW⟩) (fun q => by rw [hb] at q; cases q)).mono fun e w' q => by
    obtain ⟨r, x, rfl, rfl, rfl, hb⟩ := q
    exact ⟨rfl, hb⟩
set_option maxHeartbeats 1000000 in
theorem cubeJ_nil (v : Option Addr) (n c : Nat) (w : World) : Calls Try.prog 31 #[.pointer none, .slice v n c] w fun e w' => e = .returned (.tuple #[.int .i64 0, .int .i64 2]) ∧ Below w.heap.size w w' := by
  go_enter Try.func31, Try.ntmps31
  go_wp2
  go_ret2
  exact ⟨rfl, bel_al (bel_al (Below.refl _ _) _) _⟩
theorem rise_one {i : Nat} (h : i < 104) (on : Bool) : Rise [(i, on)] := ⟨by simp, fun p hp => by rw [List.mem_singleton.1 hp]; exact h⟩
theorem Ar.off {w : World} {a : AL} {most : Nat} {ns : List Nd} (h : Ar w a most ns) {b : Nat} (hb : w.heap.size ≤ b) : Off (fun _ => False) a b :=
  ⟨by have := h.pl; omega, by have := h.ql; omega, by have := h.ml; omega, fun q => q⟩
end Go.Proofs.Ytioanjpeddipmac
