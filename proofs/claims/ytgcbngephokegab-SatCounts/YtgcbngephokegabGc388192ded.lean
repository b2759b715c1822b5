/- Texts joined, in their order: AU2, H1, AV, AW0. -/
import Derived.Test.YtgcbngephokegabGbd1e9ab6b4
import Derived.Test.YtgcbngephokegabRows
import Derived.WalkKit
import Derived.WalkSpells
import Derived.WalkLawsBesides
import Derived.Laws.Externs
import Derived.Laws.Bits64b
import Derived.Lib.EndianBits
import Derived.Test.YtgcbngephokegabG292254fd1d
import Derived.Test.YtgcbngephokegabG29859d04e1
import Derived.LoopN
/- Cube, Var. -/
namespace Go.Proofs.Ytgcbngephokegab
open Go.RowKit
set_option linter.unusedVariables false

theorem at_calls3 {P : Program} {f : Nat} {args : Array Value} {R : Ending → World → Prop} {W : World} {S : World → Prop} (h : S W) (k : ∀ W, S W → Calls P f args W R) : Calls P f args W R := k W h
/-- Two numbers are answered. -/
def Two (Q : Int → Int → World → Prop) (e : Ending) (w' : World) : Prop := ∃ r x : Int, e = .returned (.tuple #[.int .i64 r, .int .i64 x]) ∧ Q r x w'
/-- May the i-th bit stand there. -/
def litOk (l : List (Int × Bool)) (i : Nat) : Bool := bitB (l.getD i (0, false)).1 && (decide (i = 0) || decide ((l.getD (i - 1) (0, false)).1 < (l.getD i (0, false)).1))
def litsOk (l : List (Int × Bool)) : Bool := (List.range l.length).all (litOk l)
set_option maxRecDepth 100000 in
set_option maxHeartbeats 4000000 in
theorem cubeJ_core (a : AL) (most : Nat) (ns : List Nd) (l : List (Int × Bool)) (w : World) (h : Ar w a most ns) (b cap : Nat) (hl : LitC w b l) (hln : l.length ≤ 1000) (Q : Int → Int → World → Prop)
    (HBad : litsOk l = false → ∀ W, Below w.heap.size w W → Q 0 1 W)
    (HW : litsOk l = true → ∀ W, Ar W a most ns → Below w.heap.size w W → W.cell? ⟨w.heap.size, 0, none⟩ = some (.pointer (some ⟨a.p, 0, none⟩)) → W.cell? ⟨w.heap.size + 1, 0, none⟩ = some (.slice (some ⟨b, 0, none⟩) l.length cap) → Calls Try.prog 32 #[.pointer (some ⟨a.p, 0, none⟩), .func (.func 33) #[] #[.pointer (some ⟨w.heap.size, 0, none⟩), .pointer (some ⟨w.heap.size + 1, 0, none⟩)]] W (Two Q)) :
    Calls Try.prog 16 #[.pointer (some ⟨a.p, 0, none⟩), .slice (some ⟨b, 0, none⟩) l.length cap] w (Two Q) := by
  unfold Two at *
  obtain ⟨n, hn⟩ : ∃ n, l.length = n := ⟨_, rfl⟩
  rw [hn] at hln HW ⊢
  have HN := Lib.hid hn
  have HA := Lib.hid h
  have HL := Lib.hid hl
  have HB := Lib.hid HBad
  have HH := Lib.hid HW
  have CB := Lib.hid (fun (i : Int) (W : World) => isbit_any i W)
  clear hn h hl HBad HW
  have hmf : ∀ (fn : Fn) (first cap : Array Value) (w : World), (Instr.makeFunc fn first cap).run Try.prog w = .ok (.func fn first cap) w := fun _ _ _ _ => rfl
  go_enter Try.func16, Try.ntmps16
  go_upto_region 1 with fail
  refine at_code (S := fun W => Blk W w.heap.size [.pointer (some ⟨a.p, 0, none⟩)] ∧ Blk W (w.heap.size + 1) [.slice (some ⟨b, 0, none⟩) n cap] ∧ Below w.heap.size w W) ⟨?_, ?_, bel_al (bel_al (Below.refl _ _) _) _⟩ (fun W0 hW => ?_)
  · exact (Blk.new w _ [.pointer (some ⟨a.p, 0, none⟩)]).on (bel_al (Below.refl _ _) _)
  · have k := Blk.new (w.alloc (.cells #[.pointer (some ⟨a.p, 0, none⟩)] 25)) 75 [.slice (some ⟨b, 0, none⟩) n cap]
    rw [World.size_alloc] at k
    exact k
  obtain ⟨hp, hs, hb⟩ := hW
  have P0 := Lib.hid hp
  have S0 := Lib.hid hs
  have B0 := Lib.hid hb
  have L0 := Lib.hid (HL.out.on hb)
  have p_0 := hp.1 0 _ rfl
  have s_0 := hs.1 0 _ rfl
  clear hp hs hb HL
  go_wp2_with fail
  go_loopw [12] (fun iv wr => ∃ k : Nat, iv = .int .i64 (k : Nat) ∧ k ≤ n ∧ Hid (∀ i, i < k → litOk l i = true) ∧ Hid (Below W0.heap.size W0 wr)) (fun iv _ => n - (intOf iv).toNat)
  case atStart => exact ⟨0, rfl, Nat.zero_le _, Lib.hid (fun i hi => by omega), Lib.hid (Below.refl _ _)⟩
  case round =>
    obtain ⟨k, rfl, hk, hOk, hB⟩ := hrel
    have s_1 : wr.cell? ⟨w.heap.size + 1, 0, none⟩ = some (.slice (some ⟨b, 0, none⟩) n cap) := (S0.out.on hB.out).1 0 _ rfl
    have p_1 : wr.cell? ⟨w.heap.size, 0, none⟩ = some (.pointer (some ⟨a.p, 0, none⟩)) := (P0.out.on hB.out).1 0 _ rfl
    clear s_0 p_0
    by_cases hkn : k < n
    · obtain ⟨x, hx⟩ : ∃ x, l[k]? = some x := ⟨_, List.getElem?_eq_getElem (by have := HN.out; omega)⟩
      have hgd : l.getD k (0, false) = x := by rw [List.getD_eq_getElem?_getD, hx]; rfl
      obtain ⟨v, on⟩ := x
      have L1 := Lib.hid (L0.out.on hB.out)
      obtain ⟨l_0, l_1⟩ := L1.out k _ hx
      simp only at l_0 l_1
      have hwk : IntKind.i64.wrap ((k : Int) + 1) = ((k + 1 : Nat) : Int) := by rw [IntKind.wrap_i64]; omega
      have CI := Lib.hid (fun W => CB.out v W)
      clear CB
      have HX := Lib.hid hx
      have HG := Lib.hid hgd
      clear hx hgd
      go_upto_region 6 with fail
      refine at_code (S := fun W => Blk W wr.heap.size [.int .i64 v, .bool on] ∧ Below wr.heap.size wr W) ⟨Blk.new _ _ _, bel_al (Below.refl _ _) _⟩ (fun W1 hW => ?_)
      obtain ⟨hX, hb1⟩ := hW
      have B1 := Lib.hid (bel_on' hB.out hb1)
      have x_0 := hX.1 0 _ rfl
      have s_2 : W1.cell? ⟨w.heap.size + 1, 0, none⟩ = some (.slice (some ⟨b, 0, none⟩) n cap) := (hb1.cell (p := ⟨w.heap.size + 1, 0, none⟩) (cell_lt (o := 0) (by rw [s_1]; rfl))).trans s_1
      have L2 := Lib.hid (L1.out.on hb1)
      clear hX hb1 l_0 l_1 s_1 p_1 L1
      have s_1 := s_2
      clear s_2
      cases hbit : bitB v with
      | false =>
        rw [hbit] at CI
        refine wp_region_noPanic ?_
        refine wp_region_along (S := fun w' => w'.cell? ⟨wr.heap.size, 0, none⟩ = some (.int .i64 v) ∧ w'.cell? ⟨w.heap.size + 1, 0, none⟩ = some (.slice (some ⟨b, 0, none⟩) n cap)) ([(0, true), (1, true), (2, false), (3, true), (4, true), (5, true), (6, true), (7, true), (8, true), (9, true), (10, true), (11, true), (12, true), (13, true), (14, true), (15, true), (16, true), (17, true), (18, true)]) (by kernel_rfl) (by as_aux_lemma => kernel_rfl) (by kernel_rfl) (by kernel_rfl) (by as_aux_lemma => kernel_rfl) (by as_aux_lemma => kernel_rfl) (fun _ _ _ _ _ h => h) ⟨x_0, s_1⟩ (fun hH => ?_)
        simp only [stepsOf, pickOp]
        iterate 2 (first | (refine along_skip (by rfl) ?_; try simp only [Act.put, List.setIfInBounds_toArray, List.set_cons_zero, List.set_cons_succ]) | (refine along_pure ?_ (by rfl) (fun w hSw => ?_) ?_; rotate_left; (obtain ⟨s_a, s_b⟩ := hSw; go_simp; try with_reducible rfl); try simp only [Act.put, List.setIfInBounds_toArray, List.set_cons_zero, List.set_cons_succ]))
        clear hH
        refine along_bar (fun K hK => ?_)
        go_simp
        refine (CI.out W1.drew).mono ?_
        rintro e w' ⟨rfl, rfl⟩
        try go_wp2_with fail
        refine hK.out _ _ ⟨x_0, s_1⟩ (fun hH => ?_)
        clear hK K
        try simp only [Act.put, List.setIfInBounds_toArray, List.set_cons_zero, List.set_cons_succ]
        iterate 16 (first | (refine along_skip (by rfl) ?_; try simp only [Act.put, List.setIfInBounds_toArray, List.set_cons_zero, List.set_cons_succ]) | (refine along_pure ?_ (by rfl) (fun w hSw => ?_) ?_; rotate_left; (obtain ⟨s_a, s_b⟩ := hSw; go_simp; try with_reducible rfl); try simp only [Act.put, List.setIfInBounds_toArray, List.set_cons_zero, List.set_cons_succ]))
        refine along_end (NoPanic.normal ?_)
        clear hH
        go_wp2
        go_ret2
        refine ⟨0, 1, rfl, HB.out ?_ _ (bel_on' B0.out B1.out.drew)⟩
        unfold litsOk
        rw [Bool.eq_false_iff]
        intro q
        rw [List.all_eq_true] at q
        have := q k (List.mem_range.2 (by rw [HN.out]; exact hkn))
        unfold litOk at this
        rw [HG.out, hbit] at this
        cases this
      | true =>
        rw [hbit] at CI
        rcases Nat.eq_zero_or_pos k with hk0 | hk0
        · subst hk0
          refine wp_region_noPanic ?_
          refine wp_region_along (S := fun w' => w'.cell? ⟨wr.heap.size, 0, none⟩ = some (.int .i64 v) ∧ w'.cell? ⟨w.heap.size + 1, 0, none⟩ = some (.slice (some ⟨b, 0, none⟩) n cap)) ([(0, true), (1, true), (2, false), (3, true), (4, true), (5, true), (6, true), (7, true), (8, true), (9, true), (10, true), (11, true), (12, true), (13, true), (14, true), (15, true), (16, true), (17, true), (18, true)]) (by kernel_rfl) (by as_aux_lemma => kernel_rfl) (by kernel_rfl) (by kernel_rfl) (by as_aux_lemma => kernel_rfl) (by as_aux_lemma => kernel_rfl) (fun _ _ _ _ _ h => h) ⟨x_0, s_1⟩ (fun hH => ?_)
          simp only [stepsOf, pickOp]
          iterate 2 (first | (refine along_skip (by rfl) ?_; try simp only [Act.put, List.setIfInBounds_toArray, List.set_cons_zero, List.set_cons_succ]) | (refine along_pure ?_ (by rfl) (fun w hSw => ?_) ?_; rotate_left; (obtain ⟨s_a, s_b⟩ := hSw; go_simp; try with_reducible rfl); try simp only [Act.put, List.setIfInBounds_toArray, List.set_cons_zero, List.set_cons_succ]))
          clear hH
          refine along_bar (fun K hK => ?_)
          go_simp
          refine (CI.out W1.drew).mono ?_
          rintro e w' ⟨rfl, rfl⟩
          try go_wp2_with fail
          refine hK.out _ _ ⟨x_0, s_1⟩ (fun hH => ?_)
          clear hK K
          try simp only [Act.put, List.setIfInBounds_toArray, List.set_cons_zero, List.set_cons_succ]
          iterate 16 (first | (refine along_skip (by rfl) ?_; try simp only [Act.put, List.setIfInBounds_toArray, List.set_cons_zero, List.set_cons_succ]) | (refine along_pure ?_ (by rfl) (fun w hSw => ?_) ?_; rotate_left; (obtain ⟨s_a, s_b⟩ := hSw; go_simp; try with_reducible rfl); try simp only [Act.put, List.setIfInBounds_toArray, List.set_cons_zero, List.set_cons_succ]))
          refine along_end (NoPanic.normal ?_)
          clear hH
          go_wp2_with fail
          refine ⟨⟨1, rfl, by omega, Lib.hid (fun i hi => ?_), Lib.hid B1.out.drew⟩, by simp [intOf] <;> omega⟩
          have : i = 0 := by omega
          subst this
          unfold litOk
          rw [HG.out, hbit]
          rfl
        · obtain ⟨j, hj⟩ : ∃ j, k = j + 1 := ⟨k - 1, by omega⟩
          obtain ⟨y, hy⟩ : ∃ y, l[j]? = some y := ⟨_, List.getElem?_eq_getElem (by have := HN.out; omega)⟩
          obtain ⟨u, ou⟩ := y
          have hgu : l.getD j (0, false) = (u, ou) := by rw [List.getD_eq_getElem?_getD, hy]; rfl
          have u_0 := (L2.out j _ hy).1
          simp only at u_0
          have hju : IntKind.i64.wrap ((k : Int) - 1) = ((j : Nat) : Int) := by rw [IntKind.wrap_i64]; omega
          have hpos : (0 : Int) < (k : Int) := by omega
          have hjn : j < n := by omega
          have HU := Lib.hid hgu
          have HJ := Lib.hid hj
          clear hgu hy hj
          by_cases hle : v ≤ u
          · refine wp_region_noPanic ?_
            refine wp_region_along (S := fun w' => w'.cell? ⟨wr.heap.size, 0, none⟩ = some (.int .i64 v) ∧ w'.cell? ⟨w.heap.size + 1, 0, none⟩ = some (.slice (some ⟨b, 0, none⟩) n cap) ∧ w'.cell? ⟨b, j * 2, none⟩ = some (.int .i64 u)) ([(0, true), (1, true), (2, false), (3, true), (4, true), (5, true), (6, true), (7, true), (8, true), (9, true), (10, true), (11, true), (12, true), (13, true), (14, true), (15, true), (16, true), (17, true), (18, true)]) (by kernel_rfl) (by as_aux_lemma => kernel_rfl) (by kernel_rfl) (by kernel_rfl) (by as_aux_lemma => kernel_rfl) (by as_aux_lemma => kernel_rfl) (fun _ _ _ _ _ h => h) ⟨x_0, s_1, u_0⟩ (fun hH => ?_)
            simp only [stepsOf, pickOp]
            iterate 2 (first | (refine along_skip (by rfl) ?_; try simp only [Act.put, List.setIfInBounds_toArray, List.set_cons_zero, List.set_cons_succ]) | (refine along_pure ?_ (by rfl) (fun w hSw => ?_) ?_; rotate_left; (obtain ⟨s_a, s_b, s_c⟩ := hSw; go_simp; try with_reducible rfl); try simp only [Act.put, List.setIfInBounds_toArray, List.set_cons_zero, List.set_cons_succ]))
            clear hH
            refine along_bar (fun K hK => ?_)
            go_simp
            refine (CI.out W1.drew).mono ?_
            rintro e w' ⟨rfl, rfl⟩
            try go_wp2_with fail
            refine hK.out _ _ ⟨x_0, s_1, u_0⟩ (fun hH => ?_)
            clear hK K
            try simp only [Act.put, List.setIfInBounds_toArray, List.set_cons_zero, List.set_cons_succ]
            iterate 16 (first | (refine along_skip (by rfl) ?_; try simp only [Act.put, List.setIfInBounds_toArray, List.set_cons_zero, List.set_cons_succ]) | (refine along_pure ?_ (by rfl) (fun w hSw => ?_) ?_; rotate_left; (obtain ⟨s_a, s_b, s_c⟩ := hSw; go_simp; try with_reducible rfl); try simp only [Act.put, List.setIfInBounds_toArray, List.set_cons_zero, List.set_cons_succ]))
            refine along_end (NoPanic.normal ?_)
            clear hH
            go_wp2
            go_ret2
            refine ⟨0, 1, rfl, HB.out ?_ _ (bel_on' B0.out B1.out.drew)⟩
            unfold litsOk
            rw [Bool.eq_false_iff]
            intro q
            rw [List.all_eq_true] at q
            have := q k (List.mem_range.2 (by rw [HN.out]; exact hkn))
            unfold litOk at this
            rw [HG.out, show k - 1 = j by have := HJ.out; omega, HU.out] at this
            simp at this
            omega
          · refine wp_region_noPanic ?_
            refine wp_region_along (S := fun w' => w'.cell? ⟨wr.heap.size, 0, none⟩ = some (.int .i64 v) ∧ w'.cell? ⟨w.heap.size + 1, 0, none⟩ = some (.slice (some ⟨b, 0, none⟩) n cap) ∧ w'.cell? ⟨b, j * 2, none⟩ = some (.int .i64 u)) ([(0, true), (1, true), (2, false), (3, true), (4, true), (5, true), (6, true), (7, true), (8, true), (9, true), (10, true), (11, true), (12, true), (13, true), (14, true), (15, true), (16, true), (17, true), (18, true)]) (by kernel_rfl) (by as_aux_lemma => kernel_rfl) (by kernel_rfl) (by kernel_rfl) (by as_aux_lemma => kernel_rfl) (by as_aux_lemma => kernel_rfl) (fun _ _ _ _ _ h => h) ⟨x_0, s_1, u_0⟩ (fun hH => ?_)
            simp only [stepsOf, pickOp]
            iterate 2 (first | (refine along_skip (by rfl) ?_; try simp only [Act.put, List.setIfInBounds_toArray, List.set_cons_zero, List.set_cons_succ]) | (refine along_pure ?_ (by rfl) (fun w hSw => ?_) ?_; rotate_left; (obtain ⟨s_a, s_b, s_c⟩ := hSw; go_simp; try with_reducible rfl); try simp only [Act.put, List.setIfInBounds_toArray, List.set_cons_zero, List.set_cons_succ]))
            clear hH
            refine along_bar (fun K hK => ?_)
            go_simp
            refine (CI.out W1.drew).mono ?_
            rintro e w' ⟨rfl, rfl⟩
            try go_wp2_with fail
            refine hK.out _ _ ⟨x_0, s_1, u_0⟩ (fun hH => ?_)
            clear hK K
            try simp only [Act.put, List.setIfInBounds_toArray, List.set_cons_zero, List.set_cons_succ]
            iterate 16 (first | (refine along_skip (by rfl) ?_; try simp only [Act.put, List.setIfInBounds_toArray, List.set_cons_zero, List.set_cons_succ]) | (refine along_pure ?_ (by rfl) (fun w hSw => ?_) ?_; rotate_left; (obtain ⟨s_a, s_b, s_c⟩ := hSw; go_simp; try with_reducible rfl); try simp only [Act.put, List.setIfInBounds_toArray, List.set_cons_zero, List.set_cons_succ]))
            refine along_end (NoPanic.normal ?_)
            clear hH
            go_wp2_with fail
            refine ⟨⟨k + 1, ?_, by omega, Lib.hid (fun i hi => ?_), Lib.hid B1.out.drew⟩, by simp [intOf] <;> omega⟩
            · first | rfl | rw [hwk]
            · rcases Nat.lt_or_ge i k with q | q
              · exact hOk.out i q
              · have : i = k := by omega
                subst this
                unfold litOk
                rw [HG.out, show i - 1 = j by have := HJ.out; omega, HU.out, hbit]
                simp
                omega
    · have hkn' : k = n := by omega
      subst hkn'
      have hgood : litsOk l = true := by
        unfold litsOk
        rw [List.all_eq_true]
        intro i hi
        rw [List.mem_range, HN.out] at hi
        exact hOk.out i hi
      have hb := bel_on' B0.out hB.out
      have CC := Lib.hid (HH.out hgood wr (HA.out.on hb) hb p_1 s_1)
      clear hb
      go_wp2_with fail
      refine CC.out.mono ?_
      rintro e w3 ⟨r, x, rfl, hP⟩
      have HP := Lib.hid hP
      clear hP
      go_wp2
      go_ret2
      exact ⟨r, x, rfl, HP.out⟩
set_option maxRecDepth 100000 in
set_option maxHeartbeats 1000000 in
theorem cubeL_any (most : Nat) (R : Option Nat × List Nd) (W : World) (a : AL) (v : Value) (b0 b1 : Nat) (c0 : W.cell? ⟨b0, 0, none⟩ = some (.pointer (some ⟨a.p, 0, none⟩))) (c1 : W.cell? ⟨b1, 0, none⟩ = some v) (HJ : Hid (Calls Try.prog 34 #[.pointer (some ⟨a.p, 0, none⟩), v] W (Ans most R W a))) :
    Calls Try.prog 33 #[.pointer (some ⟨b0, 0, none⟩), .pointer (some ⟨b1, 0, none⟩)] W (Ans most R W a) := by
  unfold Ans at HJ ⊢
  obtain ⟨r, hr⟩ : ∃ r : Int, ((rv R.1 : Nat) : Int) = r := ⟨_, rfl⟩
  obtain ⟨x, hx⟩ : ∃ x : Int, er R.1 = x := ⟨_, rfl⟩
  rw [hr, hx] at HJ ⊢
  clear hr hx
  go_enter Try.func33, Try.ntmps33
  go_wp2_with fail
  refine HJ.out.mono ?_
  rintro e w1 ⟨rfl, a1, hA, hT⟩
  have F := Lib.hid (And.intro hA hT)
  clear hA hT
  go_wp2
  go_ret2
  exact ⟨rfl, a1, F.out.1, F.out.2⟩
def AnsQ (most : Nat) (R : Option Nat × List Nd) (w : World) (a : AL) (r x : Int) (w' : World) : Prop := r = (rv R.1 : Nat) ∧ x = er R.1 ∧ ∃ a', Ar w' a' most R.2 ∧ Tr (fun _ => False) w a w' a'
theorem ans_of {most : Nat} {R : Option Nat × List Nd} {w : World} {a : AL} {e : Ending} {w' : World} (h : Two (AnsQ most R w a) e w') : Ans most R w a e w' := by
  obtain ⟨r, x, rfl, rfl, rfl, h⟩ := h
  exact ⟨rfl, h⟩
theorem of_ans {most : Nat} {R : Option Nat × List Nd} {w W : World} {a : AL} {e : Ending} {w' : World} (hb : Below w.heap.size w W) (h : Ans most R W a e w') : Two (AnsQ most R w a) e w' := by
  obtain ⟨rfl, a', h1, h2⟩ := h
  exact ⟨_, _, rfl, rfl, rfl, a', h1, Tr.ahead hb h2⟩
theorem litsOk_nat {l : List (Nat × Bool)} (h : Rise l) : litsOk (natL l) = true := by
  unfold litsOk
  rw [List.all_eq_true]
  intro i hi
  rw [List.mem_range, natL_len] at hi
  have hg : ∀ j, j < l.length → ∃ p, l[j]? = some p ∧ (natL l).getD j (0, false) = ((p.1 : Int), p.2) := fun j hj => by
    obtain ⟨p, hp⟩ : ∃ p, l[j]? = some p := ⟨_, List.getElem?_eq_getElem hj⟩
    exact ⟨p, hp, by rw [List.getD_eq_getElem?_getD, natL_get hp]; rfl⟩
  obtain ⟨p, hp, ep⟩ := hg i hi
  have h1 := h.2 p (List.mem_of_getElem? hp)
  unfold litOk
  rw [ep]
  have hb : bitB (p.1 : Int) = true := by unfold bitB; simp; omega
  rw [hb, Bool.true_and, Bool.or_eq_true, decide_eq_true_eq, decide_eq_true_eq]
  rcases Nat.eq_zero_or_pos i with q | q
  · exact Or.inl q
  · right
    obtain ⟨p', hp', ep'⟩ := hg (i - 1) (by omega)
    rw [ep']
    have := List.pairwise_iff_getElem.1 h.1 (i - 1) i (by omega) hi (by omega)
    rw [List.getElem?_eq_getElem hi] at hp
    rw [List.getElem?_eq_getElem (by omega)] at hp'
    cases hp
    cases hp'
    show ((_ : Nat) : Int) < ((_ : Nat) : Int)
    omega
/-- Cube of bits that rise. -/
theorem cubeJ_any (a : AL) (most : Nat) (ns : List Nd) (l : List (Nat × Bool)) (w : World) (h : Ar w a most ns) (hw : WF ns) (hr : Rise l) (b cap : Nat) (hl : LitC w b (natL l)) (hb : b < w.heap.size) (ho : Off (fun _ => False) a b) :
    Calls Try.prog 16 #[.pointer (some ⟨a.p, 0, none⟩), .slice (some ⟨b, 0, none⟩) l.length cap] w (Ans most (cF most ns l) w a) := by
  have k := cubeJ_core a most ns (natL l) w h b cap hl (by rw [natL_len]; have := hr.len; omega) (AnsQ most (cF most ns l) w a) (fun q => by rw [litsOk_nat hr] at q; cases q) (fun _ W hA hB c0 c1 => ?_)
  · rw [natL_len] at k; exact k.mono fun _ _ => ans_of
  · obtain ⟨M, X, -⟩ := cubeF_made most hw l hr.1 hr.2
    rw [natL_len] at c1
    have C := whole_core most ns (cubeF most ns l).2 (cubeF most ns l).1 33 _ W a hA hw M X Try.call33 (cubeL_any most (cubeF most ns l) W a _ _ _ c0 c1 (cube_any a most ns l W hA hw hr b cap (hl.on hB) (by have := hB.size; omega) ho))
    exact C.mono fun _ _ q => of_ans hB q
/-- .. of others. -/
theorem cubeJ_bad (a : AL) (most : Nat) (ns : List Nd) (l : List (Int × Bool)) (w : World) (h : Ar w a most ns) (b cap : Nat) (hl : LitC w b l) (hln : l.length ≤ 1000) (hb : litsOk l = false) :
    Calls Try.prog 16 #[.pointer (some ⟨a.p, 0, none⟩), .slice (some ⟨b, 0, none⟩) l.length cap] w fun e w' => e = .returned (.tuple #[.int .i64 0, .int .i64 1]) ∧ Below w.heap.size w w' :=
  (cubeJ_core a most ns l w h b cap hl hln (fun r x W => r = 0 ∧ x = 1 ∧ Below w.heap.size w W) (fun _ W hW => ⟨rfl, rfl, hW⟩) (fun q => by rw [hb] at q; cases q)).mono fun e w' q => by
    obtain ⟨r, x, rfl, rfl, rfl, hb⟩ := q
    exact ⟨rfl, hb⟩
set_option maxHeartbeats 1000000 in
theorem cubeJ_nil (v : Option Addr) (n c : Nat) (w : World) : Calls Try.prog 16 #[.pointer none, .slice v n c] w fun e w' => e = .returned (.tuple #[.int .i64 0, .int .i64 2]) ∧ Below w.heap.size w w' := by
  go_enter Try.func16, Try.ntmps16
  go_wp2
  go_ret2
  exact ⟨rfl, bel_al (bel_al (Below.refl _ _) _) _⟩
set_option maxRecDepth 100000 in
set_option maxHeartbeats 1000000 in
theorem var_core (p : Value) (i : Int) (w : World) (Q : Int → Int → World → Prop) (HJ : Hid (∀ W, LitC W w.heap.size [(i, true)] → Below w.heap.size w W → w.heap.size < W.heap.size → Calls Try.prog 16 #[p, .slice (some ⟨w.heap.size, 0, none⟩) 1 1] W (Two Q))) :
    Calls Try.prog 14 #[p, .int .i64 i] w (Two Q) := by
  unfold Two at *
  go_enter Try.func14, Try.ntmps14
  go_wp2_with fail
  refine at_calls3 (S := fun W => LitC W w.heap.size [(i, true)] ∧ Below w.heap.size w W ∧ w.heap.size < W.heap.size) ⟨?_, bel_al (Below.refl _ _) _, by simp⟩ (fun W1 hW => ?_)
  · intro j x hx
    match j, hx with
    | 0, hx => cases hx; exact ⟨by simp [go_sem], by simp [go_sem]⟩
  refine (HJ.out W1 hW.1 hW.2.1 hW.2.2).mono ?_
  rintro e w2 ⟨r, x, rfl, hP⟩
  have HP := Lib.hid hP
  clear hP hW
  go_wp2
  go_ret2
  exact ⟨r, x, rfl, HP.out⟩
theorem rise_one {i : Nat} (h : i < 104) (on : Bool) : Rise [(i, on)] := ⟨by simp, fun p hp => by rw [List.mem_singleton.1 hp]; exact h⟩
theorem Ar.off {w : World} {a : AL} {most : Nat} {ns : List Nd} (h : Ar w a most ns) {b : Nat} (hb : w.heap.size ≤ b) : Off (fun _ => False) a b :=
  ⟨by have := h.pl; omega, by have := h.ql; omega, by have := h.ml; omega, fun q => q⟩
theorem var_any (a : AL) (most : Nat) (ns : List Nd) (i : Nat) (hi : i < 104) (w : World) (h : Ar w a most ns) (hw : WF ns) :
    Calls Try.prog 14 #[.pointer (some ⟨a.p, 0, none⟩), .int .i64 (i : Nat)] w (Ans most (cF most ns [(i, true)]) w a) :=
  (var_core _ i w (AnsQ most (cF most ns [(i, true)]) w a) (fun W hL hB hlt => (cubeJ_any a most ns [(i, true)] W (h.on hB) hw (rise_one hi true) w.heap.size 1 hL hlt (h.off (Nat.le_refl _))).mono fun _ _ q => of_ans hB q)).mono fun _ _ => ans_of
theorem var_bad (a : AL) (most : Nat) (ns : List Nd) (i : Int) (hi : bitB i = false) (w : World) (h : Ar w a most ns) :
    Calls Try.prog 14 #[.pointer (some ⟨a.p, 0, none⟩), .int .i64 i] w fun e w' => e = .returned (.tuple #[.int .i64 0, .int .i64 1]) ∧ Below w.heap.size w w' :=
  (var_core _ i w (fun r x W => r = 0 ∧ x = 1 ∧ Below w.heap.size w W) (fun W hL hB hlt => (cubeJ_bad a most ns [(i, true)] W (h.on hB) w.heap.size 1 hL (by simp) (by unfold litsOk; simp [List.range_succ, litOk, hi])).mono fun e w' q => ⟨0, 1, q.1, rfl, rfl, bel_on' hB q.2⟩)).mono fun e w' q => by
    obtain ⟨r, x, rfl, rfl, rfl, hb⟩ := q
    exact ⟨rfl, hb⟩
theorem var_nil (i : Int) (w : World) : Calls Try.prog 14 #[.pointer none, .int .i64 i] w fun e w' => e = .returned (.tuple #[.int .i64 0, .int .i64 2]) ∧ Below w.heap.size w w' :=
  (var_core _ i w (fun r x W => r = 0 ∧ x = 2 ∧ Below w.heap.size w W) (fun W hL hB hlt => (cubeJ_nil _ _ _ W).mono fun e w' q => ⟨0, 2, q.1, rfl, rfl, bel_on' hB q.2⟩)).mono fun e w' q => by
    obtain ⟨r, x, rfl, rfl, rfl, hb⟩ := q
    exact ⟨rfl, hb⟩
end Go.Proofs.Ytgcbngephokegab
/- The small functions of layer 2: a header's words, a bit's words, a bit. -/
namespace Go.Proofs.Ytgcbngephokegab
open Go.RowKit
set_option linter.unusedVariables false

/-- A header's fields: within their kinds. -/
structure HB (d s p x y : Nat) : Prop where
  d : d < 4294967296
  s : s < 4294967296
  p : p < 256
  x : x < 65536
  y : y < 65536
/-- A header, and its words, as values. -/
abbrev hv (d s p x y : Int) : Value := .agg #[.int .u32 d, .int .u32 s, .int .u8 p, .int .u16 x, .int .u16 y]
abbrev wv (a b : Int) : Value := .agg #[.int .u64 a, .int .u64 b]
/-- A header's words. -/
def pa (d s : Nat) : Nat := d * 4294967296 + s
def pb (p x y : Nat) : Nat := p * 4294967296 + x * 65536 + y
theorem pa_lt {d s : Nat} (hd : d < 4294967296) (hs : s < 4294967296) : pa d s < 18446744073709551616 := by unfold pa; omega
theorem pb_lt {p x y : Nat} (hp : p < 256) (hx : x < 65536) (hy : y < 65536) : pb p x y < 1099511627776 := by unfold pb; omega
theorem pa_eq {d s : Nat} (hd : d < 4294967296) (hs : s < 4294967296) :
    bits .or .u64 (IntKind.u64.wrap (IntKind.u64.wrap (d : Int) * 4294967296)) (IntKind.u64.wrap (s : Int)) = (pa d s : Int) := by
  rw [u64_wrap_id d (by omega) (by omega), u64_wrap_id s (by omega) (by omega), u64_wrap_id _ (by omega) (by omega)]
  rw [bits_join .u64 64 (by decide) wraps_u64 32 _ _ (by omega) (by omega) (by omega) (by omega) (by omega) (by omega)]
  unfold pa; omega
theorem pb_eq {p x y : Nat} (hp : p < 256) (hx : x < 65536) (hy : y < 65536) :
    bits .or .u64 (bits .or .u64 (IntKind.u64.wrap (IntKind.u64.wrap (p : Int) * 4294967296)) (IntKind.u64.wrap (IntKind.u64.wrap (x : Int) * 65536))) (IntKind.u64.wrap (y : Int)) = (pb p x y : Int) := by
  rw [u64_wrap_id p (by omega) (by omega), u64_wrap_id x (by omega) (by omega), u64_wrap_id y (by omega) (by omega), u64_wrap_id _ (by omega) (by omega), u64_wrap_id _ (by omega) (by omega)]
  rw [bits_join .u64 64 (by decide) wraps_u64 32 ((p : Int) * 4294967296) ((x : Int) * 65536) (by omega) (by omega) (by omega) (by omega) (by omega) (by omega)]
  rw [bits_join .u64 64 (by decide) wraps_u64 16 ((p : Int) * 4294967296 + (x : Int) * 65536) y (by omega) (by omega) (by omega) (by omega) (by omega) (by omega)]
  unfold pb; omega
set_option maxHeartbeats 400000 in
theorem pack_exact (d s p x y : Nat) (h : HB d s p x y) (w : World) :
    Calls Try.prog 57 #[hv d s p x y] w fun e w' => e = .returned (wv (pa d s) (pb p x y)) ∧ (w.alloc (.cells #[.int .u32 d, .int .u32 s, .int .u8 p, .int .u16 x, .int .u16 y] 44)).alloc (.cells #[.int .u64 (pa d s), .int .u64 (pb p x y)] 107) = w' := by
  have e1 := pa_eq h.d h.s
  have e2 := pb_eq h.p h.x h.y
  go_enter Try.func57, Try.ntmps57
  go_wp2
  exact bodyPost_ret (v := wv (pa d s) (pb p x y)) (by simp [results, Try.results57, go_sem]) rfl ⟨rfl, rfl⟩
/-- A bit's words. -/
def ma (i : Int) : Nat := if 0 ≤ i ∧ i < 64 then 2 ^ (63 - i.toNat) else 0
def mb (i : Int) : Nat := if 64 ≤ i ∧ i < 104 then 2 ^ (103 - i.toNat) else 0
theorem pow_lt (j : Nat) (h : j < 64) : 2 ^ j < 18446744073709551616 := by
  have := Nat.pow_lt_pow_right (a := 2) (by omega) h
  rwa [show (2 : Nat) ^ 64 = 18446744073709551616 from by decide] at this
theorem ma_lt (i : Int) : ma i < 18446744073709551616 := by unfold ma; split; exact pow_lt _ (by omega); omega
theorem mb_lt (i : Int) : mb i < 18446744073709551616 := by unfold mb; split; exact pow_lt _ (by omega); omega
theorem wrap_pow (j : Nat) (h : j < 64) : IntKind.u64.wrap (2 ^ j : Int) = ((2 ^ j : Nat) : Int) := by
  have := pow_lt j h
  have e : (2 ^ j : Int) = ((2 ^ j : Nat) : Int) := (Int.natCast_pow 2 j).symm
  rw [e]
  generalize (2 : Nat) ^ j = n at *
  exact u64_wrap_id _ (by omega) (by omega)
theorem ret_wv {a b : Int} {c d : Nat} (e1 : a = c) (e2 : b = d) : Ending.returned (wv a b) = .returned (wv c d) := by rw [e1, e2]
set_option maxHeartbeats 400000 in
theorem mask_exact (i : Int) (w : World) :
    Calls Try.prog 58 #[.int .i64 i] w fun e w' => e = .returned (wv (ma i) (mb i)) ∧ w.alloc (.cells #[.int .u64 (ma i), .int .u64 (mb i)] 107) = w' := by
  by_cases c : i < 0 ∨ 104 ≤ i
  · have e1 : ma i = 0 := by unfold ma; rw [if_neg (by omega)]
    have e2 : mb i = 0 := by unfold mb; rw [if_neg (by omega)]
    rw [e1, e2]
    clear e1 e2
    by_cases c1 : i < 0
    · clear c
      go_enter Try.func58, Try.ntmps58
      go_wp2
      exact bodyPost_ret (v := wv 0 0) (by simp [results, Try.results58, go_sem]) rfl ⟨rfl, rfl⟩
    · have c2 : 104 ≤ i := by omega
      clear c
      go_enter Try.func58, Try.ntmps58
      go_wp2
      exact bodyPost_ret (v := wv 0 0) (by simp [results, Try.results58, go_sem]) rfl ⟨rfl, rfl⟩
  · obtain ⟨k, rfl⟩ := Int.eq_ofNat_of_zero_le (show 0 ≤ i by omega)
    by_cases c1 : k < 64
    · have e1 : ma k = 2 ^ (63 - k) := by unfold ma; rw [if_pos (by omega)]; rfl
      have e2 : mb k = 0 := by unfold mb; rw [if_neg (by omega)]
      have e3 : IntKind.u64.wrap (2 ^ (63 - k) : Int) = (ma k : Int) := by rw [e1]; exact wrap_pow _ (by omega)
      rw [e2]
      clear e1 e2 c
      go_enter Try.func58, Try.ntmps58
      go_wp2
      exact bodyPost_ret (v := wv (ma k) 0) (by simp [results, Try.results58, go_sem]) rfl ⟨rfl, rfl⟩
    · have e1 : ma k = 0 := by unfold ma; rw [if_neg (by omega)]
      have e2 : mb k = 2 ^ (103 - k) := by unfold mb; rw [if_pos (by omega)]; rfl
      have e3 : IntKind.u64.wrap (2 ^ (103 - k) : Int) = (mb k : Int) := by rw [e2]; exact wrap_pow _ (by omega)
      have c2 : k < 104 := by omega
      rw [e1]
      clear e1 e2 c
      go_enter Try.func58, Try.ntmps58
      go_wp2
      exact bodyPost_ret (v := wv 0 (mb k)) (by simp [results, Try.results58, go_sem]) rfl ⟨rfl, rfl⟩
theorem ne_dec (n : Nat) : ((n : Int) != 0) = !decide (n = 0) := by
  by_cases h : n = 0
  · subst h; rfl
  · have : ((n : Int) != 0) = true := by simp; omega
    rw [this, decide_eq_false h]; rfl
/-- A bit of a header; none outside. -/
def bt (d s p x y : Nat) (i : Int) : Bool := decide ((pa d s &&& ma i) ≠ 0) || decide ((pb p x y &&& mb i) ≠ 0)
theorem below_al {W w : World} (h : Below W.heap.size W w) (o : Obj) : Below W.heap.size W (w.alloc o) := h.alloc h.size o
theorem below_on {W w w' : World} (h : Below W.heap.size W w) (k : Below w.heap.size w w') : Below W.heap.size W w' := h.trans (k.mono h.size)
theorem ret_bool {a b : Bool} (h : a = b) : Ending.returned (.bool a) = .returned (.bool b) := by rw [h]
end Go.Proofs.Ytgcbngephokegab
/- A new arena; a node; whether a set has a header. -/
namespace Go.Proofs.Ytgcbngephokegab
open Go.RowKit
set_option linter.unusedVariables false

theorem at_calls2 {P : Program} {f : Nat} {args : Array Value} {R : Ending → World → Prop} {W : World} {S : World → Prop} (h : S W) (k : ∀ W, S W → Calls P f args W R) : Calls P f args W R := k W h
/-- A new arena, in new memory. -/
def New (most : Nat) (w : World) (e : Ending) (w' : World) : Prop := ∃ a : AL, e = .returned (.tuple #[.pointer (some ⟨a.p, 0, none⟩), .int .i64 0]) ∧ Ar w' a most [bot, top] ∧ Below w.heap.size w w' ∧ w.heap.size ≤ a.p ∧ w.heap.size ≤ a.q ∧ w.heap.size ≤ a.m
theorem heap_now (w : World) (o : Obj) : (w.alloc o).heap[w.heap.size]? = some o := (MapKept.heap_alloc w o).1
set_option maxRecDepth 100000 in
set_option maxHeartbeats 1000000 in
theorem new_any (most : Nat) (h2 : 2 ≤ most) (hm : most ≤ 262144) (w : World) : Calls Try.prog 6 #[.int .i64 (most : Nat)] w (New most w) := by
  have hmm := @run_makeMap Try.prog
  have q1 : ¬ ((most : Nat) : Int) < 2 := by omega
  have q2 : ¬ 262144 < ((most : Nat) : Int) := by omega
  go_enter Try.func6, Try.ntmps6
  go_wp2
  go_ret2
  refine ⟨⟨w.heap.size + 2, w.heap.size, w.heap.size + 1, 2⟩, rfl, ⟨?_, ?_, ?_, by simp, hm, by show w.heap.size + 2 ≠ w.heap.size; omega⟩, bel_al (bel_al (bel_al (Below.refl _ _) _) _) _, by show _ ≤ w.heap.size + 2; omega, Nat.le_refl _, by show _ ≤ w.heap.size + 1; omega⟩
  · have k := Blk.new ((w.alloc (.cells #[.int .i64 104, .int .i64 0, .int .i64 0, .int .i64 104, .int .i64 1, .int .i64 1] 53)).alloc (.map #[] 0)) 57 [.int .i64 (most : Nat), .slice (some ⟨w.heap.size, 0, none⟩) 2 2, .map (some (w.heap.size + 1))]
    rw [World.size_alloc, World.size_alloc] at k
    exact k
  · refine ⟨by rw [flat_len], Or.inr ⟨w.heap.size, 2, #[.int .i64 104, .int .i64 0, .int .i64 0, .int .i64 104, .int .i64 1, .int .i64 1], rfl, Nat.zero_le _, ?_, by simp, by unfold maxLen; omega, rfl, rfl⟩⟩
    rw [Below.heap_alloc _ _ _ (by simp; omega), Below.heap_alloc _ _ _ (by simp)]
    exact heap_now _ _
  · have k : numL [bot, top] = [] := rfl
    rw [k]
    have k2 := (MapG.made (P := Try.prog) (tk := 53) (te := 3) (kv := nv) (w.alloc (.cells #[.int .i64 104, .int .i64 0, .int .i64 0, .int .i64 104, .int .i64 1, .int .i64 1] 53)))
    rw [World.size_alloc] at k2
    exact k2.same (Below.heap_alloc _ _ _ (by simp))
set_option maxHeartbeats 1000000 in
theorem new_bad (most : Int) (h : most < 2 ∨ 262144 < most) (w : World) : Calls Try.prog 6 #[.int .i64 most] w fun e w' => e = .returned (.tuple #[.pointer none, .int .i64 1]) ∧ w = w' := by
  by_cases q1 : most < 2
  · go_enter Try.func6, Try.ntmps6
    go_wp2
    go_ret2
    exact ⟨rfl, rfl⟩
  · have q2 : 262144 < most := by omega
    go_enter Try.func6, Try.ntmps6
    go_wp2
    go_ret2
    exact ⟨rfl, rfl⟩
set_option maxRecDepth 100000 in
set_option maxHeartbeats 1000000 in
theorem node_any (a : AL) (most : Nat) (ns : List Nd) (f : Nat) (w : World) (h : Ar w a most ns) (hf : f < ns.length) :
    Calls Try.prog 49 #[.pointer (some ⟨a.p, 0, none⟩), .int .i64 (f : Nat)] w fun e w' => e = .returned (.tuple #[.int .i64 ((ns.getD f bot).v : Nat), .int .i64 ((ns.getD f bot).l : Nat), .int .i64 ((ns.getD f bot).h : Nat)]) ∧ Below w.heap.size w w' := by
  obtain ⟨n, hn⟩ : ∃ n, ns.getD f bot = n := ⟨_, rfl⟩
  rw [hn]
  obtain ⟨v, l, hi⟩ := n
  have C := Lib.hid (has_any a most ns f w h)
  have hb : hasB ns.length (f : Nat) = true := by unfold hasB; simp; omega
  rw [hb] at C
  have n_0 : w.cell? ⟨a.q, f * 3, none⟩ = some (.int .i64 (v : Nat)) := h.node (j := 0) hf (by rw [hn]; rfl)
  have n_1 : w.cell? ⟨a.q, f * 3 + 1, none⟩ = some (.int .i64 (l : Nat)) := h.node (j := 1) hf (by rw [hn]; rfl)
  have n_2 : w.cell? ⟨a.q, f * 3 + 2, none⟩ = some (.int .i64 (hi : Nat)) := h.node (j := 2) hf (by rw [hn]; rfl)
  obtain ⟨a_0, a_1, a_2⟩ : _ ∧ _ ∧ _ := ⟨h.s.1 0 _ rfl, h.s.1 1 _ rfl, h.s.1 2 _ rfl⟩
  clear h hn hb
  go_enter Try.func49, Try.ntmps49
  go_wp2_with fail
  refine C.out.mono ?_
  rintro e w' ⟨rfl, rfl⟩
  go_upto_region 4 with fail
  refine at_code (S := fun W => Blk W w.heap.size [.int .i64 (v : Nat), .int .i64 (l : Nat), .int .i64 (hi : Nat)] ∧ Below w.heap.size w W) ⟨Blk.new _ _ _, bel_al (Below.refl _ _) _⟩ (fun W1 hW => ?_)
  obtain ⟨hX, hb⟩ := hW
  have B1 := Lib.hid hb
  obtain ⟨x_0, x_1, x_2⟩ : _ ∧ _ ∧ _ := ⟨hX.1 0 _ rfl, hX.1 1 _ rfl, hX.1 2 _ rfl⟩
  clear n_0 n_1 n_2 a_0 a_1 a_2 hX hb C hf
  refine wp_region_noPanic ?_
  refine wp_region_along (S := fun w' => w' = W1.drew) ([(0, true), (1, true), (2, true), (3, true), (4, true), (5, true), (6, true), (7, true), (8, true)]) (by kernel_rfl) (by as_aux_lemma => kernel_rfl) (by kernel_rfl) (by kernel_rfl) (by as_aux_lemma => kernel_rfl) (by as_aux_lemma => kernel_rfl) (fun _ _ _ _ _ h => h) rfl (fun hH => ?_)
  simp only [stepsOf, pickOp]
  iterate 9 (first | (refine along_skip (by rfl) ?_; try simp only [Act.put, List.setIfInBounds_toArray, List.set_cons_zero, List.set_cons_succ]) | (refine along_pure ?_ (by rfl) (fun w hSw => ?_) ?_; rotate_left; (obtain rfl := hSw; go_simp; try with_reducible rfl); try simp only [Act.put, List.setIfInBounds_toArray, List.set_cons_zero, List.set_cons_succ]))
  refine along_end (NoPanic.normal ?_)
  clear hH
  go_wp2
  refine bodyPost_ret (v := .tuple #[.int .i64 (v : Nat), .int .i64 (l : Nat), .int .i64 (hi : Nat)]) (by simp [results, Try.results49, go_sem]) rfl ⟨rfl, B1.out.drew⟩
set_option maxHeartbeats 1000000 in
theorem node_none (p : Value) (f : Int) (w : World) (C : Hid (Calls Try.prog 24 #[p, .int .i64 f] w fun e w' => e = .returned (.bool false) ∧ w = w')) :
    Calls Try.prog 49 #[p, .int .i64 f] w fun e w' => e = .returned (.tuple #[.int .i64 104, .int .i64 0, .int .i64 0]) ∧ w = w' := by
  go_enter Try.func49, Try.ntmps49
  go_wp2_with fail
  refine C.out.mono ?_
  rintro e w' ⟨rfl, rfl⟩
  go_wp2
  refine bodyPost_ret (v := .tuple #[.int .i64 104, .int .i64 0, .int .i64 0]) (by simp [results, Try.results49, go_sem]) rfl ⟨rfl, rfl⟩
/-- A header's bits. -/
def hE (d s p x y : Nat) : Env := fun i => bt d s p x y (i : Int)
end Go.Proofs.Ytgcbngephokegab
/- A bit held: how the work lies; what a step comes to. -/
namespace Go.Proofs.Ytgcbngephokegab
open Go.RowKit Go.Maps Go.MapKept Go.ChangeMaps Go.WideElems Go.Joins
open Go.WideMaps (KeyLaw)
set_option linter.unusedVariables false

def ikv (k : Nat) : Value := .int .i64 (k : Nat)
theorem ikv_inj (a b : Nat) (h : ikv a = ikv b) : a = b := by simp [ikv] at h; omega
theorem keyedInt : Keyed Try.prog 3 := int_keyed Try.underlying3
theorem key_int (k : Nat) (h : k ≤ 9223372036854775807) : keyOf Try.prog 3 (ikv k) = some (.int .i64 (k : Nat)) := keyOf_int_mk Try.underlying3 (wf64 k h)
/-- The work of one Restrict lies there. -/
structure Nw (w : World) (a : AL) (jb db bit : Nat) (on : Bool) (m : Memo1) : Prop where
  s : Blk w jb [.pointer (some ⟨a.p, 0, none⟩), .int .i64 (bit : Nat), .bool on, .map (some db)]
  d : MapG Try.prog 3 3 ikv w db m
  j : jb ≠ a.p ∧ jb ≠ a.q ∧ jb ≠ a.m
  e : db ≠ a.p ∧ db ≠ a.q ∧ db ≠ a.m
theorem Nw.ne {w : World} {a : AL} {jb db bit : Nat} {on : Bool} {m : Memo1} (h : Nw w a jb db bit on m) : jb ≠ db := by
  obtain ⟨es, clock, h2⟩ := h.d.isMap
  intro e
  have := h.s.1 0 _ rfl
  rw [e] at this
  simp [World.cell?, h2] at this
theorem Nw.on' {w w' : World} {a : AL} {jb db bit : Nat} {on : Bool} {m : Memo1} (h : Nw w a jb db bit on m) (hb : Below w.heap.size w w') : Nw w' a jb db bit on m :=
  ⟨h.s.on hb, h.d.same (hb.block _ h.d.lt), h.j, h.e⟩
theorem Nw.tr {w w' : World} {a a' : AL} {jb db bit : Nat} {on : Bool} {m : Memo1} (h : Nw w a jb db bit on m) (t : Tr (fun _ => False) w a w' a') : Nw w' a' jb db bit on m := by
  have o1 : Off (fun _ => False) a jb := ⟨h.j.1, h.j.2.1, h.j.2.2, fun q => q⟩
  have o2 : Off (fun _ => False) a db := ⟨h.e.1, h.e.2.1, h.e.2.2, fun q => q⟩
  have p1 := o1.on t h.s.lt
  have p2 := o2.on t h.d.lt
  refine ⟨?_, h.d.same (t.k.block _ h.d.lt o2.not), ⟨p1.1, p1.2.1, p1.2.2.1⟩, ⟨p2.1, p2.2.1, p2.2.2.1⟩⟩
  rw [t.m.1]; exact h.s.tr t o1
theorem MV1.few {bit : Nat} {on : Bool} {ns : List Nd} {m : Memo1} (h : MV1 bit on ns m) (hl : ns.length ≤ 262144) : m.length ≤ 262144 := by
  have := nodup_sub _ (List.range 262144) h.one (fun v hv => by
    obtain ⟨x, hx, rfl⟩ := List.mem_map.1 hv
    obtain ⟨x1, -⟩ := h.ok x hx
    rw [List.mem_range]; omega)
  rw [List.length_map, List.length_range] at this
  exact this
theorem setF_step {bit : Nat} {on : Bool} {most k : Nat} {ns : List Nd} {m : Memo1} {f : Nat} (hbit : bit < 104) (h : WF ns) (hm : MV1 bit on ns m) (hf : f < ns.length) {v l hi : Nat} (hn : ns.getD f bot = ⟨v, l, hi⟩) (hk : 105 ≤ k + 1 + v) (c1 : v < bit) (hl : look1 f m = none) :
    l < ns.length ∧ 105 ≤ k + lv ns l ∧
    ∀ r1 ns1 m1, setF bit on most k ns m l = (r1, ns1, m1) → WF ns1 ∧ MV1 bit on ns1 m1 ∧ (r1 = none → setF bit on most (k + 1) ns m f = (none, ns1, m1)) ∧
      ∀ lo, r1 = some lo → lo < ns1.length ∧ hi < ns1.length ∧ 105 ≤ k + lv ns1 hi ∧
        ∀ r2 ns2 m2, setF bit on most k ns1 m1 hi = (r2, ns2, m2) → WF ns2 ∧ MV1 bit on ns2 m2 ∧ (r2 = none → setF bit on most (k + 1) ns m f = (none, ns2, m2)) ∧
          ∀ h2, r2 = some h2 → h2 < ns2.length ∧ lo < ns2.length ∧ ∀ r3 ns3, numF most ns2 ⟨v, lo, h2⟩ = (r3, ns3) →
            (r3 = none → setF bit on most (k + 1) ns m f = (none, ns3, m2)) ∧ (∀ r, r3 = some r → setF bit on most (k + 1) ns m f = (some r, ns3, (f, r) :: m2) ∧ f ∉ m2.map (·.1) ∧ r < ns3.length) := by
  have hv : lv ns f = v := by unfold lv; rw [hn]
  have hgl : (ns.getD f bot).l = l := by rw [hn]
  have hgh : (ns.getD f bot).h = hi := by rw [hn]
  have n1 : ¬ bit < v := by omega
  have n2 : ¬ v = bit := by omega
  obtain ⟨xl, xh, -, xvl, xvh, -⟩ := h.parts (lv_two h hf (by omega)) hf
  rw [hgl] at xl xvl
  rw [hgh] at xh xvh
  rw [hv] at xvl xvh
  refine ⟨by omega, by omega, fun r1 ns1 m1 e1 => ?_⟩
  obtain ⟨M1, V1, -⟩ := setF_made bit on most hbit k ns m l h hm (by omega) (by omega)
  rw [e1] at M1 V1
  replace M1 : Made most ns ns1 _ r1 _ := M1
  replace V1 : MV1 bit on ns1 m1 := V1
  have l1 := M1.ext.len
  refine ⟨M1.wf, V1, fun q => ?_, fun lo q => ?_⟩
  · subst q; unfold setF; rw [hv, if_neg n1, if_neg n2, hl]; simp only; rw [hgl, e1]
  subst q
  have w1 : lv ns1 hi = lv ns hi := M1.ext.lv (by omega)
  refine ⟨(M1.set lo rfl).1, by omega, by omega, fun r2 ns2 m2 e2 => ?_⟩
  obtain ⟨M2, V2, -⟩ := setF_made bit on most hbit k ns1 m1 hi M1.wf V1 (by omega) (by omega)
  rw [e2] at M2 V2
  replace M2 : Made most ns1 ns2 _ r2 _ := M2
  replace V2 : MV1 bit on ns2 m2 := V2
  have l2 := M2.ext.len
  refine ⟨M2.wf, V2, fun q => ?_, fun h2 q => ?_⟩
  · subst q; unfold setF; rw [hv, if_neg n1, if_neg n2, hl]; simp only; rw [hgl, e1]; simp only; rw [hgh, e2]
  subst q
  refine ⟨(M2.set h2 rfl).1, by have := (M1.set lo rfl).1; omega, fun r3 ns3 e3 => ⟨fun q => ?_, fun r q => ?_⟩⟩
  · subst q; unfold setF; rw [hv, if_neg n1, if_neg n2, hl]; simp only; rw [hgl, e1]; simp only; rw [hgh, e2]; simp only; rw [e3]
  · subst q
    have e : setF bit on most (k + 1) ns m f = (some r, ns3, (f, r) :: m2) := by unfold setF; rw [hv, if_neg n1, if_neg n2, hl]; simp only; rw [hgl, e1]; simp only; rw [hgh, e2]; simp only; rw [e3]
    obtain ⟨M3, V3, -⟩ := setF_made bit on most hbit (k + 1) ns m f h hm hf (by omega)
    rw [e] at V3 M3
    have := V3.one
    simp only [List.map_cons] at this
    exact ⟨e, (List.nodup_cons.1 this).1, (M3.set r rfl).1⟩
end Go.Proofs.Ytgcbngephokegab
