/- Texts joined, in their order: AW, AW2. -/
import Derived.Test.YtgcbngephokegabGc388192ded
import Derived.Test.YtgcbngephokegabGbd1e9ab6b4
/- A set with a bit held: the walk. -/
namespace Go.Proofs.Ytgcbngephokegab
open Go.RowKit Go.Maps Go.MapKept Go.ChangeMaps Go.WideElems Go.Joins
set_option linter.unusedVariables false

theorem TrWeak {X : Nat → Prop} {w w' : World} {a a' : AL} (t : Tr (fun _ => False) w a w' a') : Tr X w a w' a' := ⟨t.k.mono (fun i _ q => q.imp id (fun r => r.elim)), t.m⟩
set_option maxRecDepth 100000 in
set_option maxHeartbeats 8000000 in
theorem set_any (bit : Nat) (on : Bool) (most jb db : Nat) (hbit : bit < 104) : ∀ (k : Nat) (ns : List Nd) (m : Memo1) (f : Nat) (w : World) (a : AL), Ar w a most ns → WF ns → MV1 bit on ns m → Nw w a jb db bit on m → f < ns.length → 105 ≤ k + lv ns f →
    Calls Try.prog 39 #[.pointer (some ⟨jb, 0, none⟩), .int .i64 (f : Nat)] w fun e w' => e = .returned (.tuple #[.int .i64 (rv (setF bit on most k ns m f).1 : Nat), .int .i64 (er (setF bit on most k ns m f).1)]) ∧ ∃ a', Ar w' a' most (setF bit on most k ns m f).2.1 ∧ Nw w' a' jb db bit on (setF bit on most k ns m f).2.2 ∧ Tr (fun i => i = db) w a w' a' := by
  intro k
  induction k with
  | zero => intro ns m f w a _ h _ _ _ hk; have := lv_le h (f := f); omega
  | succ k ih =>
    intro ns m f w a hA hW hM hN hf hk
    have IH := Lib.hid ih
    clear ih
    obtain ⟨R, hR⟩ : ∃ R, setF bit on most (k + 1) ns m f = R := ⟨_, rfl⟩
    rw [hR]
    have HR := Lib.hid hR
    have A0 := Lib.hid hA
    have N0 := Lib.hid hN
    have HW := Lib.hid hW
    have HM := Lib.hid hM
    have hlen := hA.len
    obtain ⟨n, hn⟩ : ∃ n, ns.getD f bot = n := ⟨_, rfl⟩
    obtain ⟨v, l, hi⟩ := n
    have hv : lv ns f = v := by unfold lv; rw [hn]
    have hvle : v ≤ 104 := by have := lv_le hW (f := f); omega
    rw [hv] at hk
    have hk0 := Lib.hid hk
    have HK := Lib.hid (key_int f (by omega))
    have HN := Lib.hid hn
    have n_0 : w.cell? ⟨a.q, f * 3, none⟩ = some (.int .i64 (v : Nat)) := A0.out.node (j := 0) hf (by rw [hn]; rfl)
    have n_1 : w.cell? ⟨a.q, f * 3 + 1, none⟩ = some (.int .i64 (l : Nat)) := A0.out.node (j := 1) hf (by rw [hn]; rfl)
    have n_2 : w.cell? ⟨a.q, f * 3 + 2, none⟩ = some (.int .i64 (hi : Nat)) := A0.out.node (j := 2) hf (by rw [hn]; rfl)
    obtain ⟨a_0, a_1, a_2⟩ : _ ∧ _ ∧ _ := ⟨A0.out.s.1 0 _ rfl, A0.out.s.1 1 _ rfl, A0.out.s.1 2 _ rfl⟩
    obtain ⟨j_0, j_1, j_2, j_3⟩ : _ ∧ _ ∧ _ ∧ _ := ⟨N0.out.s.1 0 _ rfl, N0.out.s.1 1 _ rfl, N0.out.s.1 2 _ rfl, N0.out.s.1 3 _ rfl⟩
    have HV := Lib.hid hv
    clear hR hA hW hM hN hk hn hv
    go_enter Try.func39, Try.ntmps39
    go_upto_region 2 with fail
    refine at_code (S := fun W => Blk W w.heap.size [.int .i64 (v : Nat), .int .i64 (l : Nat), .int .i64 (hi : Nat)] ∧ Below w.heap.size w W) ⟨Blk.new _ _ _, bel_al (Below.refl _ _) _⟩ (fun W1 hW => ?_)
    obtain ⟨hX, hb⟩ := hW
    have X1 := Lib.hid hX
    have B1 := Lib.hid hb
    have A1 := Lib.hid (A0.out.on hb)
    have N1 := Lib.hid (N0.out.on' hb)
    clear hX hb n_0 n_1 n_2 a_0 a_1 a_2 j_0 j_1 j_2 j_3
    obtain ⟨x_0, x_1, x_2⟩ : _ ∧ _ ∧ _ := ⟨X1.out.1 0 _ rfl, X1.out.1 1 _ rfl, X1.out.1 2 _ rfl⟩
    obtain ⟨j_0, j_1, j_2, j_3⟩ : _ ∧ _ ∧ _ ∧ _ := ⟨N1.out.s.1 0 _ rfl, N1.out.s.1 1 _ rfl, N1.out.s.1 2 _ rfl, N1.out.s.1 3 _ rfl⟩
    by_cases c1 : bit < v
    · have hz : R = (some f, ns, m) := by rw [← HR.out]; unfold setF; rw [HV.out, if_pos c1]
      subst hz
      have c1' : (bit : Int) < (v : Int) := by omega
      refine wp_region_noPanic ?_
      refine wp_region_along (S := fun w' => w' = W1.drew) ([(0, true), (1, true), (2, true), (3, true), (4, true), (5, true), (6, true), (7, true)]) (by kernel_rfl) (by as_aux_lemma => kernel_rfl) (by kernel_rfl) (by kernel_rfl) (by as_aux_lemma => kernel_rfl) (by as_aux_lemma => kernel_rfl) (fun _ _ _ _ _ h => h) rfl (fun hH => ?_)
      simp only [stepsOf, pickOp]
      iterate 8 (first | (refine along_skip (by rfl) ?_; try simp only [Act.put, List.setIfInBounds_toArray, List.set_cons_zero, List.set_cons_succ]) | (refine along_pure ?_ (by rfl) (fun w hSw => ?_) ?_; rotate_left; (obtain rfl := hSw; go_simp; try with_reducible rfl); try simp only [Act.put, List.setIfInBounds_toArray, List.set_cons_zero, List.set_cons_succ]))
      refine along_end (NoPanic.normal ?_)
      clear hH
      obtain ⟨W2, hW⟩ : ∃ W, W = W1.drew := ⟨_, rfl⟩
      have X2 := Lib.hid (show Blk W2 w.heap.size [.int .i64 (v : Nat), .int .i64 (l : Nat), .int .i64 (hi : Nat)] by rw [hW]; exact X1.out.drew)
      have A2 := Lib.hid (show Ar W2 a most ns by rw [hW]; exact A1.out.on (Below.refl _ _).drew)
      have N2 := Lib.hid (show Nw W2 a jb db bit on m by rw [hW]; exact N1.out.on' (Below.refl _ _).drew)
      have B2 := Lib.hid (show Below w.heap.size w W2 by rw [hW]; exact B1.out.drew)
      rw [← hW]
      clear hW x_0 x_1 x_2 j_0 j_1 j_2 j_3 X1 A1 N1 B1
      obtain ⟨x_0, x_1, x_2⟩ : _ ∧ _ ∧ _ := ⟨X2.out.1 0 _ rfl, X2.out.1 1 _ rfl, X2.out.1 2 _ rfl⟩
      obtain ⟨j_0, j_1, j_2, j_3⟩ : _ ∧ _ ∧ _ ∧ _ := ⟨N2.out.s.1 0 _ rfl, N2.out.s.1 1 _ rfl, N2.out.s.1 2 _ rfl, N2.out.s.1 3 _ rfl⟩
      go_wp2
      go_ret2
      exact ⟨rfl, a, A2.out.on (Below.refl _ _), N2.out, ⟨Keep.of B2.out, Mv.refl _ _⟩⟩
    · have c1' : ¬ (bit : Int) < (v : Int) := by omega
      refine wp_region_noPanic ?_
      refine wp_region_along (S := fun w' => w' = W1.drew) ([(0, true), (1, true), (2, true), (3, true), (4, true), (5, true), (6, true), (7, true)]) (by kernel_rfl) (by as_aux_lemma => kernel_rfl) (by kernel_rfl) (by kernel_rfl) (by as_aux_lemma => kernel_rfl) (by as_aux_lemma => kernel_rfl) (fun _ _ _ _ _ h => h) rfl (fun hH => ?_)
      simp only [stepsOf, pickOp]
      iterate 8 (first | (refine along_skip (by rfl) ?_; try simp only [Act.put, List.setIfInBounds_toArray, List.set_cons_zero, List.set_cons_succ]) | (refine along_pure ?_ (by rfl) (fun w hSw => ?_) ?_; rotate_left; (obtain rfl := hSw; go_simp; try with_reducible rfl); try simp only [Act.put, List.setIfInBounds_toArray, List.set_cons_zero, List.set_cons_succ]))
      refine along_end (NoPanic.normal ?_)
      clear hH
      obtain ⟨W2, hW⟩ : ∃ W, W = W1.drew := ⟨_, rfl⟩
      have X2 := Lib.hid (show Blk W2 w.heap.size [.int .i64 (v : Nat), .int .i64 (l : Nat), .int .i64 (hi : Nat)] by rw [hW]; exact X1.out.drew)
      have A2 := Lib.hid (show Ar W2 a most ns by rw [hW]; exact A1.out.on (Below.refl _ _).drew)
      have N2 := Lib.hid (show Nw W2 a jb db bit on m by rw [hW]; exact N1.out.on' (Below.refl _ _).drew)
      have B2 := Lib.hid (show Below w.heap.size w W2 by rw [hW]; exact B1.out.drew)
      rw [← hW]
      clear hW x_0 x_1 x_2 j_0 j_1 j_2 j_3 X1 A1 N1 B1
      obtain ⟨x_0, x_1, x_2⟩ : _ ∧ _ ∧ _ := ⟨X2.out.1 0 _ rfl, X2.out.1 1 _ rfl, X2.out.1 2 _ rfl⟩
      obtain ⟨j_0, j_1, j_2, j_3⟩ : _ ∧ _ ∧ _ ∧ _ := ⟨N2.out.s.1 0 _ rfl, N2.out.s.1 1 _ rfl, N2.out.s.1 2 _ rfl, N2.out.s.1 3 _ rfl⟩
      go_upto_region 4 with fail
      by_cases c2 : v = bit
      · subst c2
        cases on with
        | true =>
          have hz : R = (some hi, ns, m) := by rw [← HR.out]; unfold setF; rw [HV.out, if_neg c1, if_pos rfl, HN.out]; rfl
          subst hz
          refine wp_region_noPanic ?_
          refine wp_region_along (S := fun w' => w' = W2.drew) ([(0, true), (1, true), (2, true), (3, true), (4, true), (5, true), (6, true), (7, true), (8, true), (9, true), (10, true), (11, true), (12, true), (13, true)]) (by kernel_rfl) (by as_aux_lemma => kernel_rfl) (by kernel_rfl) (by kernel_rfl) (by as_aux_lemma => kernel_rfl) (by as_aux_lemma => kernel_rfl) (fun _ _ _ _ _ h => h) rfl (fun hH => ?_)
          simp only [stepsOf, pickOp]
          iterate 14 (first | (refine along_skip (by rfl) ?_; try simp only [Act.put, List.setIfInBounds_toArray, List.set_cons_zero, List.set_cons_succ]) | (refine along_pure ?_ (by rfl) (fun w hSw => ?_) ?_; rotate_left; (obtain rfl := hSw; go_simp; try with_reducible rfl); try simp only [Act.put, List.setIfInBounds_toArray, List.set_cons_zero, List.set_cons_succ]))
          refine along_end (NoPanic.normal ?_)
          clear hH
          obtain ⟨W3, hW⟩ : ∃ W, W = W2.drew := ⟨_, rfl⟩
          have X3 := Lib.hid (show Blk W3 w.heap.size [.int .i64 (v : Nat), .int .i64 (l : Nat), .int .i64 (hi : Nat)] by rw [hW]; exact X2.out.drew)
          have A3 := Lib.hid (show Ar W3 a most ns by rw [hW]; exact A2.out.on (Below.refl _ _).drew)
          have N3 := Lib.hid (show Nw W3 a jb db v true m by rw [hW]; exact N2.out.on' (Below.refl _ _).drew)
          have B3 := Lib.hid (show Below w.heap.size w W3 by rw [hW]; exact B2.out.drew)
          rw [← hW]
          clear hW x_0 x_1 x_2 j_0 j_1 j_2 j_3 X2 A2 N2 B2
          obtain ⟨x_0, x_1, x_2⟩ : _ ∧ _ ∧ _ := ⟨X3.out.1 0 _ rfl, X3.out.1 1 _ rfl, X3.out.1 2 _ rfl⟩
          obtain ⟨j_0, j_1, j_2, j_3⟩ : _ ∧ _ ∧ _ ∧ _ := ⟨N3.out.s.1 0 _ rfl, N3.out.s.1 1 _ rfl, N3.out.s.1 2 _ rfl, N3.out.s.1 3 _ rfl⟩
          go_wp2
          go_ret2
          exact ⟨rfl, a, A3.out.on (Below.refl _ _), N3.out, ⟨Keep.of B3.out, Mv.refl _ _⟩⟩
        | false =>
          have hz : R = (some l, ns, m) := by rw [← HR.out]; unfold setF; rw [HV.out, if_neg c1, if_pos rfl, HN.out]; rfl
          subst hz
          refine wp_region_noPanic ?_
          refine wp_region_along (S := fun w' => w' = W2.drew) ([(0, true), (1, true), (2, true), (3, true), (4, true), (5, true), (6, true), (7, true), (8, true), (9, true), (10, true), (11, true), (12, true), (13, true)]) (by kernel_rfl) (by as_aux_lemma => kernel_rfl) (by kernel_rfl) (by kernel_rfl) (by as_aux_lemma => kernel_rfl) (by as_aux_lemma => kernel_rfl) (fun _ _ _ _ _ h => h) rfl (fun hH => ?_)
          simp only [stepsOf, pickOp]
          iterate 14 (first | (refine along_skip (by rfl) ?_; try simp only [Act.put, List.setIfInBounds_toArray, List.set_cons_zero, List.set_cons_succ]) | (refine along_pure ?_ (by rfl) (fun w hSw => ?_) ?_; rotate_left; (obtain rfl := hSw; go_simp; try with_reducible rfl); try simp only [Act.put, List.setIfInBounds_toArray, List.set_cons_zero, List.set_cons_succ]))
          refine along_end (NoPanic.normal ?_)
          clear hH
          obtain ⟨W3, hW⟩ : ∃ W, W = W2.drew := ⟨_, rfl⟩
          have X3 := Lib.hid (show Blk W3 w.heap.size [.int .i64 (v : Nat), .int .i64 (l : Nat), .int .i64 (hi : Nat)] by rw [hW]; exact X2.out.drew)
          have A3 := Lib.hid (show Ar W3 a most ns by rw [hW]; exact A2.out.on (Below.refl _ _).drew)
          have N3 := Lib.hid (show Nw W3 a jb db v false m by rw [hW]; exact N2.out.on' (Below.refl _ _).drew)
          have B3 := Lib.hid (show Below w.heap.size w W3 by rw [hW]; exact B2.out.drew)
          rw [← hW]
          clear hW x_0 x_1 x_2 j_0 j_1 j_2 j_3 X2 A2 N2 B2
          obtain ⟨x_0, x_1, x_2⟩ : _ ∧ _ ∧ _ := ⟨X3.out.1 0 _ rfl, X3.out.1 1 _ rfl, X3.out.1 2 _ rfl⟩
          obtain ⟨j_0, j_1, j_2, j_3⟩ : _ ∧ _ ∧ _ ∧ _ := ⟨N3.out.s.1 0 _ rfl, N3.out.s.1 1 _ rfl, N3.out.s.1 2 _ rfl, N3.out.s.1 3 _ rfl⟩
          go_upto_region 6 with fail
          refine wp_region_noPanic ?_
          refine wp_region_along (S := fun w' => w' = W3.drew) ([(0, true), (1, true), (2, true), (3, true), (4, true), (5, true), (6, true), (7, true)]) (by kernel_rfl) (by as_aux_lemma => kernel_rfl) (by kernel_rfl) (by kernel_rfl) (by as_aux_lemma => kernel_rfl) (by as_aux_lemma => kernel_rfl) (fun _ _ _ _ _ h => h) rfl (fun hH => ?_)
          simp only [stepsOf, pickOp]
          iterate 8 (first | (refine along_skip (by rfl) ?_; try simp only [Act.put, List.setIfInBounds_toArray, List.set_cons_zero, List.set_cons_succ]) | (refine along_pure ?_ (by rfl) (fun w hSw => ?_) ?_; rotate_left; (obtain rfl := hSw; go_simp; try with_reducible rfl); try simp only [Act.put, List.setIfInBounds_toArray, List.set_cons_zero, List.set_cons_succ]))
          refine along_end (NoPanic.normal ?_)
          clear hH
          obtain ⟨W4, hW⟩ : ∃ W, W = W3.drew := ⟨_, rfl⟩
          have X4 := Lib.hid (show Blk W4 w.heap.size [.int .i64 (v : Nat), .int .i64 (l : Nat), .int .i64 (hi : Nat)] by rw [hW]; exact X3.out.drew)
          have A4 := Lib.hid (show Ar W4 a most ns by rw [hW]; exact A3.out.on (Below.refl _ _).drew)
          have N4 := Lib.hid (show Nw W4 a jb db v false m by rw [hW]; exact N3.out.on' (Below.refl _ _).drew)
          have B4 := Lib.hid (show Below w.heap.size w W4 by rw [hW]; exact B3.out.drew)
          rw [← hW]
          clear hW x_0 x_1 x_2 j_0 j_1 j_2 j_3 X3 A3 N3 B3
          obtain ⟨x_0, x_1, x_2⟩ : _ ∧ _ ∧ _ := ⟨X4.out.1 0 _ rfl, X4.out.1 1 _ rfl, X4.out.1 2 _ rfl⟩
          obtain ⟨j_0, j_1, j_2, j_3⟩ : _ ∧ _ ∧ _ ∧ _ := ⟨N4.out.s.1 0 _ rfl, N4.out.s.1 1 _ rfl, N4.out.s.1 2 _ rfl, N4.out.s.1 3 _ rfl⟩
          go_wp2
          go_ret2
          exact ⟨rfl, a, A4.out.on (Below.refl _ _), N4.out, ⟨Keep.of B4.out, Mv.refl _ _⟩⟩
      · have c2' : ((v : Int) == (bit : Int)) = false := by simp; omega
        have c2'' : ¬ (v : Int) = (bit : Int) := by omega
        refine wp_region_noPanic ?_
        refine wp_region_along (S := fun w' => w' = W2.drew) ([(0, true), (1, true), (2, true), (3, true), (4, true), (5, true), (6, true), (7, true), (8, true), (9, true), (10, true), (11, true), (12, true), (13, true)]) (by kernel_rfl) (by as_aux_lemma => kernel_rfl) (by kernel_rfl) (by kernel_rfl) (by as_aux_lemma => kernel_rfl) (by as_aux_lemma => kernel_rfl) (fun _ _ _ _ _ h => h) rfl (fun hH => ?_)
        simp only [stepsOf, pickOp]
        iterate 14 (first | (refine along_skip (by rfl) ?_; try simp only [Act.put, List.setIfInBounds_toArray, List.set_cons_zero, List.set_cons_succ]) | (refine along_pure ?_ (by rfl) (fun w hSw => ?_) ?_; rotate_left; (obtain rfl := hSw; go_simp; try with_reducible rfl); try simp only [Act.put, List.setIfInBounds_toArray, List.set_cons_zero, List.set_cons_succ]))
        refine along_end (NoPanic.normal ?_)
        clear hH
        obtain ⟨W3, hW⟩ : ∃ W, W = W2.drew := ⟨_, rfl⟩
        have X3 := Lib.hid (show Blk W3 w.heap.size [.int .i64 (v : Nat), .int .i64 (l : Nat), .int .i64 (hi : Nat)] by rw [hW]; exact X2.out.drew)
        have A3 := Lib.hid (show Ar W3 a most ns by rw [hW]; exact A2.out.on (Below.refl _ _).drew)
        have N3 := Lib.hid (show Nw W3 a jb db bit on m by rw [hW]; exact N2.out.on' (Below.refl _ _).drew)
        have B3 := Lib.hid (show Below w.heap.size w W3 by rw [hW]; exact B2.out.drew)
        rw [← hW]
        clear hW x_0 x_1 x_2 j_0 j_1 j_2 j_3 X2 A2 N2 B2
        obtain ⟨x_0, x_1, x_2⟩ : _ ∧ _ ∧ _ := ⟨X3.out.1 0 _ rfl, X3.out.1 1 _ rfl, X3.out.1 2 _ rfl⟩
        obtain ⟨j_0, j_1, j_2, j_3⟩ : _ ∧ _ ∧ _ ∧ _ := ⟨N3.out.s.1 0 _ rfl, N3.out.s.1 1 _ rfl, N3.out.s.1 2 _ rfl, N3.out.s.1 3 _ rfl⟩
        go_upto_region 6 with fail
        refine wp_region_noPanic ?_
        refine wp_region_along (S := fun w' => w' = W3.drew) ([(0, true), (1, true), (2, true), (3, true), (4, true), (5, true), (6, true), (7, true)]) (by kernel_rfl) (by as_aux_lemma => kernel_rfl) (by kernel_rfl) (by kernel_rfl) (by as_aux_lemma => kernel_rfl) (by as_aux_lemma => kernel_rfl) (fun _ _ _ _ _ h => h) rfl (fun hH => ?_)
        simp only [stepsOf, pickOp]
        iterate 8 (first | (refine along_skip (by rfl) ?_; try simp only [Act.put, List.setIfInBounds_toArray, List.set_cons_zero, List.set_cons_succ]) | (refine along_pure ?_ (by rfl) (fun w hSw => ?_) ?_; rotate_left; (obtain rfl := hSw; go_simp; try with_reducible rfl); try simp only [Act.put, List.setIfInBounds_toArray, List.set_cons_zero, List.set_cons_succ]))
        refine along_end (NoPanic.normal ?_)
        clear hH
        obtain ⟨W4, hW⟩ : ∃ W, W = W3.drew := ⟨_, rfl⟩
        have X4 := Lib.hid (show Blk W4 w.heap.size [.int .i64 (v : Nat), .int .i64 (l : Nat), .int .i64 (hi : Nat)] by rw [hW]; exact X3.out.drew)
        have A4 := Lib.hid (show Ar W4 a most ns by rw [hW]; exact A3.out.on (Below.refl _ _).drew)
        have N4 := Lib.hid (show Nw W4 a jb db bit on m by rw [hW]; exact N3.out.on' (Below.refl _ _).drew)
        have B4 := Lib.hid (show Below w.heap.size w W4 by rw [hW]; exact B3.out.drew)
        rw [← hW]
        clear hW x_0 x_1 x_2 j_0 j_1 j_2 j_3 X3 A3 N3 B3
        obtain ⟨x_0, x_1, x_2⟩ : _ ∧ _ ∧ _ := ⟨X4.out.1 0 _ rfl, X4.out.1 1 _ rfl, X4.out.1 2 _ rfl⟩
        obtain ⟨j_0, j_1, j_2, j_3⟩ : _ ∧ _ ∧ _ ∧ _ := ⟨N4.out.s.1 0 _ rfl, N4.out.s.1 1 _ rfl, N4.out.s.1 2 _ rfl, N4.out.s.1 3 _ rfl⟩
        clear c2' c2''
        cases hl : look1 f m with
        | some r =>
          have hz : R = (some r, ns, m) := by rw [← HR.out]; unfold setF; rw [HV.out, if_neg c1, if_neg c2, hl]
          subst hz
          have hlk : (Instr.lookup 80 (.map (some db)) (.int .i64 (f : Nat)) true).run Try.prog W4 = .ok (.tuple #[.int .i64 (r : Nat), .bool true]) W4 := mapG_some keyedInt Try.underlying80 zeroInt ikv_inj true N4.out.d (k := f) HK.out (look1_some hl) HM.out.one
          go_wp2
          go_ret2
          exact ⟨rfl, a, A4.out.on (Below.refl _ _), N4.out, ⟨Keep.of B4.out, Mv.refl _ _⟩⟩
        | none =>
          have hlk : (Instr.lookup 80 (.map (some db)) (.int .i64 (f : Nat)) true).run Try.prog W4 = .ok (.tuple #[.int .i64 0, .bool false]) W4 := mapG_none keyedInt Try.underlying80 zeroInt ikv_inj true N4.out.d (k := f) HK.out (look1_none hl)
          have ST := Lib.hid (setF_step (most := most) (k := k) hbit HW.out HM.out hf HN.out (by have := hk0.out; omega) (by omega) hl)
          clear hl
          have OX := Lib.hid (show Off (fun i => i = db) a w.heap.size from ⟨by have := A0.out.pl; omega, by have := A0.out.ql; omega, by have := A0.out.ml; omega, by have := N0.out.d.lt; omega⟩)
          obtain ⟨s1, s2, ST'⟩ := ST.out
          obtain ⟨r1, ns1, m1, e1⟩ : ∃ r1 ns1 m1, setF bit on most k ns m l = (r1, ns1, m1) := ⟨_, _, _, rfl⟩
          have C1 := Lib.hid (IH.out ns m l W4 a A4.out HW.out HM.out N4.out s1 s2)
          rw [e1] at C1
          have ST1 := Lib.hid (ST' r1 ns1 m1 e1)
          clear s1 s2 ST' ST e1
          cases r1 with
          | none =>
            have hz : R = (none, ns1, m1) := by rw [← HR.out]; exact ST1.out.2.2.1 rfl
            subst hz
            replace C1 : Hid (Calls Try.prog _ _ W4 fun e w' => e = .returned (.tuple #[.int .i64 0, .int .i64 20]) ∧ ∃ a', Ar w' a' most ns1 ∧ Nw w' a' jb db bit on m1 ∧ Tr (fun i => i = db) W4 a w' a') := C1
            go_wp2_with fail
            refine C1.out.mono ?_
            rintro e w3 ⟨rfl, a1, hA, hN, hT⟩
            have F := Lib.hid (And.intro hA (And.intro hN hT))
            clear hA hN hT
            go_wp2
            go_ret2
            exact ⟨rfl, a1, F.out.1, F.out.2.1, Tr.ahead B4.out F.out.2.2⟩
          | some lo =>
            replace C1 : Hid (Calls Try.prog _ _ W4 fun e w' => e = .returned (.tuple #[.int .i64 (lo : Nat), .int .i64 0]) ∧ ∃ a', Ar w' a' most ns1 ∧ Nw w' a' jb db bit on m1 ∧ Tr (fun i => i = db) W4 a w' a') := C1
            go_wp2_with fail
            refine C1.out.mono ?_
            rintro e w3 ⟨rfl, a1, hA, hN, hT⟩
            have A3 := Lib.hid hA
            have N3 := Lib.hid hN
            have T3 := Lib.hid (Tr.ahead B4.out hT)
            have X3 := Lib.hid (X4.out.tr hT OX.out)
            have OX3 := Lib.hid (OX.out.on hT X4.out.lt)
            clear hA hN hT A4 N4 B4 X4 OX C1 x_0 x_1 x_2 j_0 j_1 j_2 j_3
            obtain ⟨x_0, x_1, x_2⟩ : _ ∧ _ ∧ _ := ⟨X3.out.1 0 _ rfl, X3.out.1 1 _ rfl, X3.out.1 2 _ rfl⟩
            obtain ⟨j_0, j_1, j_2, j_3⟩ : _ ∧ _ ∧ _ ∧ _ := ⟨N3.out.s.1 0 _ rfl, N3.out.s.1 1 _ rfl, N3.out.s.1 2 _ rfl, N3.out.s.1 3 _ rfl⟩
            obtain ⟨w1, v1, -, ST1'⟩ := ST1.out
            obtain ⟨s1, s2, s3, ST2'⟩ := ST1' lo rfl
            obtain ⟨r2, ns2, m2, e2⟩ : ∃ r2 ns2 m2, setF bit on most k ns1 m1 hi = (r2, ns2, m2) := ⟨_, _, _, rfl⟩
            have C2 := Lib.hid (IH.out ns1 m1 hi w3 a1 A3.out w1 v1 N3.out s2 s3)
            rw [e2] at C2
            have ST2 := Lib.hid (ST2' r2 ns2 m2 e2)
            clear w1 v1 ST1' s1 s2 s3 ST2' ST1 e2 IH
            cases r2 with
            | none =>
              have hz : R = (none, ns2, m2) := by rw [← HR.out]; exact ST2.out.2.2.1 rfl
              subst hz
              replace C2 : Hid (Calls Try.prog _ _ w3 fun e w' => e = .returned (.tuple #[.int .i64 0, .int .i64 20]) ∧ ∃ a', Ar w' a' most ns2 ∧ Nw w' a' jb db bit on m2 ∧ Tr (fun i => i = db) w3 a1 w' a') := C2
              go_wp2_with fail
              refine C2.out.mono ?_
              rintro e w4 ⟨rfl, a2, hA, hN, hT⟩
              have F := Lib.hid (And.intro hA (And.intro hN hT))
              clear hA hN hT
              go_wp2
              go_ret2
              exact ⟨rfl, a2, F.out.1, F.out.2.1, T3.out.trans F.out.2.2⟩
            | some h2 =>
              replace C2 : Hid (Calls Try.prog _ _ w3 fun e w' => e = .returned (.tuple #[.int .i64 (h2 : Nat), .int .i64 0]) ∧ ∃ a', Ar w' a' most ns2 ∧ Nw w' a' jb db bit on m2 ∧ Tr (fun i => i = db) w3 a1 w' a') := C2
              go_wp2_with fail
              refine C2.out.mono ?_
              rintro e w4 ⟨rfl, a2, hA, hN, hT⟩
              have A4 := Lib.hid hA
              have N4 := Lib.hid hN
              have T4 := Lib.hid (T3.out.trans hT)
              have X4 := Lib.hid (X3.out.tr hT OX3.out)
              have OX4 := Lib.hid (OX3.out.on hT X3.out.lt)
              clear hA hN hT A3 N3 T3 X3 OX3 C2 x_0 x_1 x_2 j_0 j_1 j_2 j_3
              obtain ⟨x_0, x_1, x_2⟩ : _ ∧ _ ∧ _ := ⟨X4.out.1 0 _ rfl, X4.out.1 1 _ rfl, X4.out.1 2 _ rfl⟩
              obtain ⟨j_0, j_1, j_2, j_3⟩ : _ ∧ _ ∧ _ ∧ _ := ⟨N4.out.s.1 0 _ rfl, N4.out.s.1 1 _ rfl, N4.out.s.1 2 _ rfl, N4.out.s.1 3 _ rfl⟩
              obtain ⟨w2, v2, -, ST2'⟩ := ST2.out
              obtain ⟨s1, s2, ST3'⟩ := ST2' h2 rfl
              obtain ⟨r3, ns3, e3⟩ : ∃ r3 ns3, numF most ns2 ⟨v, lo, h2⟩ = (r3, ns3) := ⟨_, _, rfl⟩
              have C3 := Lib.hid (number_any a2 most ns2 v lo h2 w4.drew (A4.out.on (Below.refl _ _).drew) w2 (by have := A4.out.len; exact ⟨by show v ≤ _; omega, by show lo ≤ _; omega, by show h2 ≤ _; omega⟩))
              rw [e3, T4.out.m.1] at C3
              have V2 := Lib.hid v2
              have ST3 := Lib.hid (ST3' r3 ns3 e3)
              clear w2 v2 ST2' s1 s2 ST3' ST2 e3
              rw [T4.out.m.1] at j_0
              cases r3 with
              | none =>
                have hz : R = (none, ns3, m2) := by rw [← HR.out]; exact ST3.out.1 rfl
                subst hz
                replace C3 : Hid (Calls Try.prog _ _ w4.drew fun e w' => e = .returned (.tuple #[.int .i64 0, .int .i64 20]) ∧ ∃ a', Ar w' a' most ns3 ∧ Tr (fun _ => False) w4.drew a2 w' a') := C3
                go_upto_region 17 with fail
                refine wp_region_noPanic ?_
                refine wp_region_along (S := fun w' => w'.cell? ⟨jb, 0, none⟩ = some (.pointer (some ⟨a.p, 0, none⟩)) ∧ w'.cell? ⟨w.heap.size, 0, none⟩ = some (.int .i64 (v : Nat))) ([(0, true), (1, true), (2, true), (3, true), (4, true), (5, true), (6, true), (7, true), (8, true), (9, false), (10, true), (11, true), (12, true), (13, true), (14, true)]) (by kernel_rfl) (by as_aux_lemma => kernel_rfl) (by kernel_rfl) (by kernel_rfl) (by as_aux_lemma => kernel_rfl) (by as_aux_lemma => kernel_rfl) (fun _ _ _ _ _ h => h) ⟨j_0, x_0⟩ (fun hH => ?_)
                simp only [stepsOf, pickOp]
                iterate 9 (first | (refine along_skip (by rfl) ?_; try simp only [Act.put, List.setIfInBounds_toArray, List.set_cons_zero, List.set_cons_succ]) | (refine along_pure ?_ (by rfl) (fun w hSw => ?_) ?_; rotate_left; (obtain ⟨s_a, s_b⟩ := hSw; go_simp; try with_reducible rfl); try simp only [Act.put, List.setIfInBounds_toArray, List.set_cons_zero, List.set_cons_succ]))
                clear hH
                refine along_bar (fun K hK => ?_)
                go_simp
                refine C3.out.mono ?_
                rintro e w5 ⟨rfl, a3, hA, hT⟩
                try go_wp2_with fail
                have A5 := Lib.hid hA
                have TT := Lib.hid (show Tr (fun _ => False) w4 a2 w5 a3 from Tr.ahead (Below.refl _ _).drew hT)
                have N5 := Lib.hid (N4.out.tr TT.out)
                have X5 := Lib.hid (X4.out.tr (TT.out.weak (X := fun i => i = db)) OX4.out)
                have T5 := Lib.hid (T4.out.trans (TT.out.weak (X := fun i => i = db)))
                have j5 := N5.out.s.1 0 _ rfl
                rw [TT.out.m.1, T4.out.m.1] at j5
                have x5 := X5.out.1 0 _ rfl
                refine hK.out _ _ ⟨j5, x5⟩ (fun hH => ?_)
                clear hK K hA hT j_0 x_0
                try simp only [Act.put, List.setIfInBounds_toArray, List.set_cons_zero, List.set_cons_succ]
                iterate 5 (first | (refine along_skip (by rfl) ?_; try simp only [Act.put, List.setIfInBounds_toArray, List.set_cons_zero, List.set_cons_succ]) | (refine along_pure ?_ (by rfl) (fun w hSw => ?_) ?_; rotate_left; (obtain ⟨s_a, s_b⟩ := hSw; go_simp; try with_reducible rfl); try simp only [Act.put, List.setIfInBounds_toArray, List.set_cons_zero, List.set_cons_succ]))
                refine along_end (NoPanic.normal ?_)
                clear hH j5 x5
                go_wp2
                go_ret2
                exact ⟨rfl, a3, A5.out, N5.out, T5.out⟩
              | some r =>
                obtain ⟨hz', hnot, hr⟩ := ST3.out.2 r rfl
                have hz : R = (some r, ns3, (f, r) :: m2) := by rw [← HR.out]; exact hz'
                subst hz
                have HNot := Lib.hid hnot
                have hr' := Lib.hid hr
                clear hz' hnot hr
                replace C3 : Hid (Calls Try.prog _ _ w4.drew fun e w' => e = .returned (.tuple #[.int .i64 (r : Nat), .int .i64 0]) ∧ ∃ a', Ar w' a' most ns3 ∧ Tr (fun _ => False) w4.drew a2 w' a') := C3
                go_upto_region 17 with fail
                refine wp_region_noPanic ?_
                refine wp_region_along (S := fun w' => w'.cell? ⟨jb, 0, none⟩ = some (.pointer (some ⟨a.p, 0, none⟩)) ∧ w'.cell? ⟨w.heap.size, 0, none⟩ = some (.int .i64 (v : Nat))) ([(0, true), (1, true), (2, true), (3, true), (4, true), (5, true), (6, true), (7, true), (8, true), (9, false), (10, true), (11, true), (12, true), (13, true), (14, true)]) (by kernel_rfl) (by as_aux_lemma => kernel_rfl) (by kernel_rfl) (by kernel_rfl) (by as_aux_lemma => kernel_rfl) (by as_aux_lemma => kernel_rfl) (fun _ _ _ _ _ h => h) ⟨j_0, x_0⟩ (fun hH => ?_)
                simp only [stepsOf, pickOp]
                iterate 9 (first | (refine along_skip (by rfl) ?_; try simp only [Act.put, List.setIfInBounds_toArray, List.set_cons_zero, List.set_cons_succ]) | (refine along_pure ?_ (by rfl) (fun w hSw => ?_) ?_; rotate_left; (obtain ⟨s_a, s_b⟩ := hSw; go_simp; try with_reducible rfl); try simp only [Act.put, List.setIfInBounds_toArray, List.set_cons_zero, List.set_cons_succ]))
                clear hH
                refine along_bar (fun K hK => ?_)
                go_simp
                refine C3.out.mono ?_
                rintro e w5 ⟨rfl, a3, hA, hT⟩
                try go_wp2_with fail
                have A5 := Lib.hid hA
                have TT := Lib.hid (show Tr (fun _ => False) w4 a2 w5 a3 from Tr.ahead (Below.refl _ _).drew hT)
                have N5 := Lib.hid (N4.out.tr TT.out)
                have X5 := Lib.hid (X4.out.tr (TT.out.weak (X := fun i => i = db)) OX4.out)
                have T5 := Lib.hid (T4.out.trans (TT.out.weak (X := fun i => i = db)))
                have j5 := N5.out.s.1 0 _ rfl
                rw [TT.out.m.1, T4.out.m.1] at j5
                have x5 := X5.out.1 0 _ rfl
                refine hK.out _ _ ⟨j5, x5⟩ (fun hH => ?_)
                clear hK K hA hT j_0 x_0
                try simp only [Act.put, List.setIfInBounds_toArray, List.set_cons_zero, List.set_cons_succ]
                iterate 5 (first | (refine along_skip (by rfl) ?_; try simp only [Act.put, List.setIfInBounds_toArray, List.set_cons_zero, List.set_cons_succ]) | (refine along_pure ?_ (by rfl) (fun w hSw => ?_) ?_; rotate_left; (obtain ⟨s_a, s_b⟩ := hSw; go_simp; try with_reducible rfl); try simp only [Act.put, List.setIfInBounds_toArray, List.set_cons_zero, List.set_cons_succ]))
                refine along_end (NoPanic.normal ?_)
                clear hH j5 x5
                have hm2 := Lib.hid (V2.out.few A4.out.len)
                obtain ⟨w6, hup, hM6, hO6⟩ := mapG_store keyedInt Try.underlying80 Try.underlying3 ikv_inj N5.out.d (k := f) (v := r) HK.out HNot.out (by have := hr'.out; have := A5.out.len; omega) (by have := hm2.out; unfold maxLen; omega)
                have M6 := Lib.hid hM6
                have O6 := Lib.hid hO6
                clear hM6 hO6 j_1 j_2 j_3 x_1 x_2
                simp only [ikv] at hup
                obtain ⟨j_0, j_1, j_2, j_3⟩ : _ ∧ _ ∧ _ ∧ _ := ⟨N5.out.s.1 0 _ rfl, N5.out.s.1 1 _ rfl, N5.out.s.1 2 _ rfl, N5.out.s.1 3 _ rfl⟩
                have K6 := Lib.hid (show Keep (fun i => i = db) w5 w6 from (Keep.refl _ _).only O6.out (fun _ => rfl))
                have A6 := Lib.hid (A5.out.keep K6.out (fun i hi e => by
                  subst e
                  rcases hi with e | e | e
                  · exact N5.out.e.1 e
                  · exact N5.out.e.2.1 e
                  · exact N5.out.e.2.2 e))
                have N6 := Lib.hid (show Nw w6 a3 jb db bit on ((f, r) :: m2) from ⟨K6.out.blk N5.out.s N5.out.ne, M6.out, N5.out.j, N5.out.e⟩)
                have T6 := Lib.hid (T5.out.trans (show Tr (fun i => i = db) w5 a3 w6 a3 from ⟨K6.out.mono (fun i _ e => Or.inr e), Mv.refl _ _⟩))
                go_wp2
                go_ret2
                exact ⟨rfl, a3, A6.out, N6.out, T6.out⟩
end Go.Proofs.Ytgcbngephokegab
/- Restrict. -/
namespace Go.Proofs.Ytgcbngephokegab
open Go.RowKit
set_option linter.unusedVariables false

set_option maxRecDepth 100000 in
set_option maxHeartbeats 1000000 in
theorem resL_any (X : Nat → Prop) (most : Nat) (R : Option Nat × List Nd) (W : World) (a : AL) (f : Int) (jb b1 : Nat) (c1 : W.cell? ⟨b1, 0, none⟩ = some (.int .i64 f)) (HJ : Hid (Calls Try.prog 39 #[.pointer (some ⟨jb, 0, none⟩), .int .i64 f] W (AnsX X most R W a))) :
    Calls Try.prog 38 #[.pointer (some ⟨jb, 0, none⟩), .pointer (some ⟨b1, 0, none⟩)] W (AnsX X most R W a) := by
  unfold AnsX at HJ ⊢
  obtain ⟨r, hr⟩ : ∃ r : Int, ((rv R.1 : Nat) : Int) = r := ⟨_, rfl⟩
  obtain ⟨x, hx⟩ : ∃ x : Int, er R.1 = x := ⟨_, rfl⟩
  rw [hr, hx] at HJ ⊢
  clear hr hx
  go_enter Try.func38, Try.ntmps38
  go_wp2_with fail
  refine HJ.out.mono ?_
  rintro e w1 ⟨rfl, a1, hA, hT⟩
  have F := Lib.hid (And.intro hA hT)
  clear hA hT
  go_wp2
  go_ret2
  exact ⟨rfl, a1, F.out.1, F.out.2⟩
set_option maxRecDepth 100000 in
set_option maxHeartbeats 2000000 in
theorem resJ_core1 (most : Nat) (ns : List Nd) (f i : Int) (on : Bool) (w : World) (a : AL) (h : Ar w a most ns) 
    (HK : Hid (∀ W b, Ar W a most ns → W.cell? ⟨b, 0, none⟩ = some (.int .i64 f) → Calls Try.prog 35 #[.pointer (some ⟨a.p, 0, none⟩), .slice (some ⟨b, 0, none⟩) 1 1] W fun e w' => e = .returned (.int .i64 1) ∧ W = w'))
    : Calls Try.prog 19 #[.pointer (some ⟨a.p, 0, none⟩), .int .i64 f, .int .i64 i, .bool on] w fun e w' => e = .returned (.tuple #[.int .i64 0, .int .i64 1]) ∧ Below w.heap.size w w' := by
  have A0 := Lib.hid h
  clear h
  go_enter Try.func19, Try.ntmps19
  go_wp2_with fail
  refine at_calls (S := fun W => Blk W w.heap.size [.int .i64 f] ∧ W.cell? ⟨w.heap.size + 1, 0, none⟩ = some (.int .i64 f) ∧ Below w.heap.size w W) ⟨(Blk.new w _ [.int .i64 f]).on (bel_al (Below.refl _ _) _), by simp [go_sem], bel_al (bel_al (Below.refl _ _) _) _⟩ (fun W1 hW => ?_)
  obtain ⟨hX, k_0, hb⟩ := hW
  have X1 := Lib.hid hX
  have x_0 := hX.1 0 _ rfl
  have A1 := Lib.hid (A0.out.on hb)
  have B1 := Lib.hid hb
  clear hb hX
  refine (HK.out W1 _ A1.out k_0).mono ?_
  rintro e w' ⟨rfl, rfl⟩
  clear k_0 HK
  go_wp2
  go_ret2
  exact ⟨rfl, B1.out⟩
set_option maxRecDepth 100000 in
set_option maxHeartbeats 2000000 in
theorem resJ_core2 (most : Nat) (ns : List Nd) (f i : Int) (on : Bool) (w : World) (a : AL) (h : Ar w a most ns) (hi : bitB i = false)
    (HK : Hid (∀ W b, Ar W a most ns → W.cell? ⟨b, 0, none⟩ = some (.int .i64 f) → Calls Try.prog 35 #[.pointer (some ⟨a.p, 0, none⟩), .slice (some ⟨b, 0, none⟩) 1 1] W fun e w' => e = .returned (.int .i64 0) ∧ W = w'))
    : Calls Try.prog 19 #[.pointer (some ⟨a.p, 0, none⟩), .int .i64 f, .int .i64 i, .bool on] w fun e w' => e = .returned (.tuple #[.int .i64 0, .int .i64 1]) ∧ Below w.heap.size w w' := by
  have A0 := Lib.hid h
  clear h
  go_enter Try.func19, Try.ntmps19
  go_wp2_with fail
  refine at_calls (S := fun W => Blk W w.heap.size [.int .i64 f] ∧ W.cell? ⟨w.heap.size + 1, 0, none⟩ = some (.int .i64 f) ∧ Below w.heap.size w W) ⟨(Blk.new w _ [.int .i64 f]).on (bel_al (Below.refl _ _) _), by simp [go_sem], bel_al (bel_al (Below.refl _ _) _) _⟩ (fun W1 hW => ?_)
  obtain ⟨hX, k_0, hb⟩ := hW
  have X1 := Lib.hid hX
  have x_0 := hX.1 0 _ rfl
  have A1 := Lib.hid (A0.out.on hb)
  have B1 := Lib.hid hb
  clear hb hX
  refine (HK.out W1 _ A1.out k_0).mono ?_
  rintro e w' ⟨rfl, rfl⟩
  clear k_0 HK
  have CI := Lib.hid (isbit_any i W1)
  rw [hi] at CI
  go_wp2_with fail
  refine CI.out.mono ?_
  rintro e w' ⟨rfl, rfl⟩
  go_wp2
  go_ret2
  exact ⟨rfl, B1.out⟩
set_option maxRecDepth 100000 in
set_option maxHeartbeats 2000000 in
theorem resJ_core3 (most : Nat) (ns : List Nd) (f i : Int) (on : Bool) (w : World) (a : AL) (h : Ar w a most ns) (hi : bitB i = true) (R : Option Nat × List Nd)
    (HW : Hid (∀ W (jb db b1 : Nat), Ar W a most ns → Blk W jb [.pointer (some ⟨a.p, 0, none⟩), .int .i64 i, .bool on, .map (some db)] → MapG Try.prog 3 3 ikv W db [] → w.heap.size ≤ jb → w.heap.size ≤ db → Blk W b1 [.int .i64 f] → Calls Try.prog 32 #[.pointer (some ⟨a.p, 0, none⟩), .func (.func 38) #[] #[.pointer (some ⟨jb, 0, none⟩), .pointer (some ⟨b1, 0, none⟩)]] W (AnsX (fun i => w.heap.size ≤ i) most R W a)))
    (HK : Hid (∀ W b, Ar W a most ns → W.cell? ⟨b, 0, none⟩ = some (.int .i64 f) → Calls Try.prog 35 #[.pointer (some ⟨a.p, 0, none⟩), .slice (some ⟨b, 0, none⟩) 1 1] W fun e w' => e = .returned (.int .i64 0) ∧ W = w'))
    : Calls Try.prog 19 #[.pointer (some ⟨a.p, 0, none⟩), .int .i64 f, .int .i64 i, .bool on] w (Ans most R w a) := by
  obtain ⟨r, hr⟩ : ∃ r : Int, ((rv R.1 : Nat) : Int) = r := ⟨_, rfl⟩
  obtain ⟨x, hx⟩ : ∃ x : Int, er R.1 = x := ⟨_, rfl⟩
  unfold AnsX at HW
  unfold Ans
  rw [hr, hx] at HW ⊢
  clear hr hx
  have hmm := @run_makeMap Try.prog
  have hmf : ∀ (fn : Fn) (first cap : Array Value) (w : World), (Instr.makeFunc fn first cap).run Try.prog w = .ok (.func fn first cap) w := fun _ _ _ _ => rfl
  have A0 := Lib.hid h
  clear h
  go_enter Try.func19, Try.ntmps19
  go_wp2_with fail
  refine at_calls (S := fun W => Blk W w.heap.size [.int .i64 f] ∧ W.cell? ⟨w.heap.size + 1, 0, none⟩ = some (.int .i64 f) ∧ Below w.heap.size w W) ⟨(Blk.new w _ [.int .i64 f]).on (bel_al (Below.refl _ _) _), by simp [go_sem], bel_al (bel_al (Below.refl _ _) _) _⟩ (fun W1 hW => ?_)
  obtain ⟨hX, k_0, hb⟩ := hW
  have X1 := Lib.hid hX
  have x_0 := hX.1 0 _ rfl
  have A1 := Lib.hid (A0.out.on hb)
  have B1 := Lib.hid hb
  clear hb hX
  refine (HK.out W1 _ A1.out k_0).mono ?_
  rintro e w' ⟨rfl, rfl⟩
  clear k_0 HK
  have CI := Lib.hid (isbit_any i W1)
  rw [hi] at CI
  go_wp2_with fail
  refine CI.out.mono ?_
  rintro e w' ⟨rfl, rfl⟩
  go_upto_region 7 with fail
  refine at_code (S := fun W => Blk W (W1.heap.size + 1) [.pointer (some ⟨a.p, 0, none⟩), .int .i64 i, .bool on, .map (some W1.heap.size)] ∧ MapG Try.prog 3 3 ikv W W1.heap.size [] ∧ Below W1.heap.size W1 W) ?_ (fun W2 hW => ?_)
  · refine ⟨?_, ?_, ?_⟩
    · have k := Blk.new (W1.alloc (.map #[] 0)) 82 [.pointer (some ⟨a.p, 0, none⟩), .int .i64 i, .bool on, .map (some W1.heap.size)]
      rw [World.size_alloc] at k
      exact k
    · exact (MapG.made W1).same (Below.heap_alloc _ _ _ (by simp))
    · exact bel_al (bel_al (Below.refl _ _) _) _
  obtain ⟨hJ, hD, hb⟩ := hW
  have CW := Lib.hid (HW.out W2 (W1.heap.size + 1) W1.heap.size w.heap.size (A1.out.on hb) hJ hD (by have := B1.out.size; omega) (by have := B1.out.size; omega) (X1.out.on hb))
  have B2 := Lib.hid (bel_on' B1.out hb)
  clear HW CI hJ hD hb hmm x_0
  go_wp2_with fail
  refine CW.out.mono ?_
  rintro e w3 ⟨rfl, a2, hA, hT⟩
  have F := Lib.hid (And.intro hA hT)
  clear hA hT
  go_wp2
  go_ret2
  exact ⟨rfl, a2, F.out.1, ⟨(Keep.of B2.out).trans F.out.2.k (fun i hi q => q.imp id (fun e => by omega)), (Tr.ahead B2.out F.out.2).m⟩⟩
set_option maxRecDepth 100000 in
set_option maxHeartbeats 2000000 in
theorem res_nil (f i : Int) (on : Bool) (w : World) : Calls Try.prog 19 #[.pointer none, .int .i64 f, .int .i64 i, .bool on] w fun e w' => e = .returned (.tuple #[.int .i64 0, .int .i64 2]) ∧ Below w.heap.size w w' := by
  have HK := Lib.hid (fun v W => check_nil v W)
  go_enter Try.func19, Try.ntmps19
  go_wp2_with fail
  refine at_calls (S := fun W => Below w.heap.size w W) (bel_al (bel_al (Below.refl _ _) _) _) (fun W1 hb => ?_)
  have B1 := Lib.hid hb
  clear hb
  refine (HK.out _ W1).mono ?_
  rintro e w' ⟨rfl, rfl⟩
  go_wp2
  go_ret2
  exact ⟨rfl, B1.out⟩
theorem chkF_one (n : Nat) (f : Int) : chkF n [f] = if hasB n f then 0 else 1 := by unfold chkF; simp [List.all_cons]
theorem resJ_chk (most : Nat) (ns : List Nd) (f : Int) (a : AL) {c : Int} (hc : chkF ns.length [f] = c) : ∀ W b, Ar W a most ns → W.cell? ⟨b, 0, none⟩ = some (.int .i64 f) → Calls Try.prog 35 #[.pointer (some ⟨a.p, 0, none⟩), .slice (some ⟨b, 0, none⟩) 1 1] W fun e w' => e = .returned (.int .i64 c) ∧ W = w' := fun W b hA h0 => by
  subst hc
  exact check_any a most ns W hA b 1 [f] (by simp) (fun i v hv => by
    match i, hv with
    | 0, hv => cases hv; exact h0)
theorem resJ_any (bit : Nat) (on : Bool) (hbit : bit < 104) (most : Nat) (ns : List Nd) (f : Nat) (w : World) (a : AL) (h : Ar w a most ns) (hw : WF ns) (hf : f < ns.length) :
    Calls Try.prog 19 #[.pointer (some ⟨a.p, 0, none⟩), .int .i64 (f : Nat), .int .i64 (bit : Nat), .bool on] w (Ans most (rF bit on most ns f) w a) := by
  obtain ⟨M, -⟩ := setF_made bit on most hbit 105 ns [] f hw ⟨fun p hp => (by cases hp), List.nodup_nil⟩ hf (by omega)
  refine resJ_core3 most ns f bit on w a h (by unfold bitB; simp; omega) (rF bit on most ns f) (fun W jb db b1 hA hJ hD q1 q2 hX => ?_) (resJ_chk most ns f a ?_)
  · have N : Nw W a jb db bit on [] := ⟨hJ, hD, ⟨by have := h.pl; omega, by have := h.ql; omega, by have := h.ml; omega⟩, ⟨by have := h.pl; omega, by have := h.ql; omega, by have := h.ml; omega⟩⟩
    have S := set_any bit on most jb db hbit 105 ns [] f W a hA hw ⟨fun p hp => (by cases hp), List.nodup_nil⟩ N hf (by omega)
    refine whole_coreX (fun i => w.heap.size ≤ i) most ns (heldF bit on most ns f).2 (heldF bit on most ns f).1 38 _ W a hA hw M.wf M.ext Try.call38 ?_
    exact resL_any (fun i => w.heap.size ≤ i) most (heldF bit on most ns f) W a f jb b1 (hX.1 0 _ rfl) (S.mono fun e w' q => by
      obtain ⟨rfl, a', h1, -, h3⟩ := q
      exact ⟨rfl, a', h1, ⟨h3.k.mono (fun i _ q => q.imp id (fun e => by rw [e]; exact q2)), h3.m⟩⟩)
  · rw [chkF_one, if_pos]; unfold hasB; simp; omega
theorem resJ_bad (most : Nat) (ns : List Nd) (f i : Int) (on : Bool) (w : World) (a : AL) (h : Ar w a most ns) (hb : hasB ns.length f = false ∨ bitB i = false) :
    Calls Try.prog 19 #[.pointer (some ⟨a.p, 0, none⟩), .int .i64 f, .int .i64 i, .bool on] w fun e w' => e = .returned (.tuple #[.int .i64 0, .int .i64 1]) ∧ Below w.heap.size w w' := by
  cases hc : hasB ns.length f with
  | true =>
    refine resJ_core2 most ns f i on w a h ?_ (resJ_chk most ns f a ?_)
    · rcases hb with q | q
      · rw [hc] at q; cases q
      · exact q
    · rw [chkF_one, if_pos hc]
  | false => exact resJ_core1 most ns f i on w a h (resJ_chk most ns f a (by rw [chkF_one, hc]; rfl))
end Go.Proofs.Ytgcbngephokegab
