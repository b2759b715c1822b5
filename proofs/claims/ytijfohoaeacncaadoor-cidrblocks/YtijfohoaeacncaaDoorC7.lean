/- CidrBlocks' call answers true for any range and port. -/
import Derived.Test.YtijfohoaeacncaaDoorC6
import Derived.Test.YtijfohoaeacncaaDoorAlong2
namespace Go.Proofs.YtijfohoaeacncaaDoor
open Go.RowKit
set_option linter.unusedVariables false

/-- What is known of the block ahead of place i. -/
def Prev (L : List (Nat × Nat)) (i at_ e : Nat) : Prop := ∀ j, i = j + 1 → ∃ p k, L[j]? = some (p, k) ∧ at_ = p + 2 ^ k ∧ k ≤ 16 ∧ p < 65536 ∧ (p % 2 ^ (k + 1) = 0 → e - p < 2 ^ (k + 1))
theorem drop_get {L : List (Nat × Nat)} {i : Nat} {x : Nat × Nat} {r : List (Nat × Nat)} (h : L.drop i = x :: r) : L[i]? = some x ∧ L.drop (i + 1) = r := by
  have h1 : i < L.length := by
    rcases Nat.lt_or_ge i L.length with h2 | h2
    · exact h2
    · rw [List.drop_eq_nil_of_le h2] at h; cases h
  rw [List.drop_eq_getElem_cons h1] at h
  injection h with h2 h3
  exact ⟨by rw [List.getElem?_eq_getElem h1, h2], h3⟩
set_option maxRecDepth 100000 in
set_option maxHeartbeats 4000000 in
theorem cidrBlocks_any (l h p : Nat) (hl : l < 65536) (hh : h < 65536) (hp : p < 65536) (w : World) (ht : DbTab w) :
    Calls Tryd.prog 9 #[.agg #[.int .u16 l, .int .u16 h], .int .u16 p] w fun e w' => e = .returned (.bool true) ∧ Below w.heap.size w w' := by
  have hT0 := ht.al (Obj.cells #[.int .u16 l, .int .u16 h] 64)
  have hBk := blocks_any l h hl hh _ hT0
  have hL32 := blks_len l (h + 1) (by omega)
  obtain ⟨L, hL⟩ : ∃ L, blks (h + 1 - l) l (h + 1) = L := ⟨_, rfl⟩
  rw [hL] at hBk hL32
  have HK := Lib.hid hBk
  have HL := Lib.hid hL
  have HT0 := Lib.hid hT0
  clear hBk hL ht hT0
  go_enter Tryd.func9, Tryd.ntmps9
  go_wp2_with fail
  refine HK.out.mono ?_
  rintro e w1 ⟨v, rfl, hb, hv⟩
  have z0 : w1.cell? ⟨w.heap.size, 0, none⟩ = some (.int .u16 l) := by rw [hb.cell (p := ⟨w.heap.size, 0, none⟩) (by simp)]; simp [go_sem]
  have z1 : w1.cell? ⟨w.heap.size, 1, none⟩ = some (.int .u16 h) := by rw [hb.cell (p := ⟨w.heap.size, 1, none⟩) (by simp)]; simp [go_sem]
  have HT1 := Lib.hid (HT0.out.on hb)
  have HB1 := Lib.hid (cbelow_on (cbelow_al (Below.refl w.heap.size w) _) hb)
  have hz := hb.size
  simp at hz
  obtain ⟨a, cap, rfl, hcap⟩ := hv.form
  have HV := Lib.hid hv
  clear hb hv HK HT0
  go_upto_region 2 with fail
  go_cut [37] (fun t wx => t = .bool false ∧ Below w1.heap.size w1 wx)
  case first =>
   as_aux_lemma =>
    have HI : Hid (∀ b, (decide (l ≤ p) && decide (p ≤ h)) = b → ∀ w, Calls Tryd.prog 38 #[.agg #[.int .u16 l, .int .u16 h], .int .u16 p] w fun e w' => e = .returned (.bool b) ∧ Below w.heap.size w w') := fun b hb w => by
      have := in_any l h p w
      rw [show inR l h p = b from by rw [← hb]; unfold inR; rw [Bool.eq_iff_iff]; simp] at this
      exact this.mono fun e w' ⟨h1, h2⟩ => ⟨h1, by rw [← h2]; exact cbelow_al (Below.refl _ _) _⟩
    have hc : (h < l ∧ L = []) ∨ l ≤ h := by
      rcases Nat.lt_or_ge h l with c | c
      · exact Or.inl ⟨c, by rw [← HL.out, blks_end _ _ _ (by omega)]⟩
      · exact Or.inr c
    clear hL32
    rcases hc with ⟨c3, rfl⟩ | c3
    · clear HL HV
      have d3 : decide (h < l) = true := decide_eq_true c3
      by_cases c1 : l ≤ p
      · have c2 : ¬ p ≤ h := by omega
        have d1 : decide (l ≤ p) = true := decide_eq_true c1
        have d2 : decide (p ≤ h) = false := decide_eq_false c2
        have HI1 := Lib.hid (HI.out false (by rw [d1, d2]; rfl))
        clear HI
        refine wp_region_noPanic ?_
        refine wp_region_along (S := fun w' => Below w1.heap.size w1 w' ∧ ∀ b o, (w1.cell? ⟨b, o, none⟩).isSome = true → w'.cell? ⟨b, o, none⟩ = w1.cell? ⟨b, o, none⟩) ([(0, true), (1, true), (3, true), (4, true), (5, true), (6, true), (2, false), (7, true), (8, true), (9, true), (10, true), (11, true), (12, true), (13, true), (14, true), (15, true)] ++ ([(16, true), (17, true), (18, true), (19, true), (20, true), (21, true), (22, true), (23, true), (24, true), (25, true)])) (by kernel_rfl) (by as_aux_lemma => kernel_rfl) (by kernel_rfl) (by kernel_rfl) (alongPre_append _ _ _ (by as_aux_lemma => kernel_rfl) (by as_aux_lemma => kernel_rfl)) (by as_aux_lemma => kernel_rfl) (fun _ _ _ _ _ h => h) (ckeep (Below.refl _ _).drew) (fun hH => ?_)
        simp only [List.cons_append, List.nil_append, stepsOf, pickOp]
        iterate 6 (first | (refine along_skip (by rfl) ?_; try simp only [Act.put, List.setIfInBounds_toArray, List.set_cons_zero, List.set_cons_succ]) | (refine along_pure ?_ (by rfl) (fun w hSw => ?_) ?_; rotate_left; ((try dsimp only at hSw); go_simp; try with_reducible rfl); try simp only [Act.put, List.setIfInBounds_toArray, List.set_cons_zero, List.set_cons_succ]))
        refine along_bar (fun K hK => ?_)
        go_simp
        refine (HI1.out _).mono ?_
        rintro e w' ⟨rfl, hbx⟩
        try go_wp2_with fail
        refine hK.out _ _ (ckeep (cbelow_on hH.1 hbx)) (fun hH' => ?_)
        clear hK K hH
        have hH := hH'
        clear hH'
        clear hbx
        try simp only [Act.put, List.setIfInBounds_toArray, List.set_cons_zero, List.set_cons_succ]
        iterate 19 (first | (refine along_skip (by rfl) ?_; try simp only [Act.put, List.setIfInBounds_toArray, List.set_cons_zero, List.set_cons_succ]) | (refine along_pure ?_ (by rfl) (fun w hSw => ?_) ?_; rotate_left; ((try dsimp only at hSw); go_simp; try with_reducible rfl); try simp only [Act.put, List.setIfInBounds_toArray, List.set_cons_zero, List.set_cons_succ]))
        refine along_end (NoPanic.normal ?_)
        have HB := Lib.hid hH.1
        clear hH
        go_wp2_with fail
        go_meet
        exact ⟨rfl, HB.out⟩
      · have d1 : decide (l ≤ p) = false := decide_eq_false c1
        have HI1 := Lib.hid (HI.out false (by rw [d1]; rfl))
        clear HI
        refine wp_region_noPanic ?_
        refine wp_region_along (S := fun w' => Below w1.heap.size w1 w' ∧ ∀ b o, (w1.cell? ⟨b, o, none⟩).isSome = true → w'.cell? ⟨b, o, none⟩ = w1.cell? ⟨b, o, none⟩) ([(0, true), (1, true), (3, true), (4, true), (5, true), (6, true), (2, false), (7, true), (8, true), (9, true), (10, true), (11, true), (12, true), (13, true), (14, true), (15, true)] ++ ([(16, true), (17, true), (18, true), (19, true), (20, true), (21, true), (22, true), (23, true), (24, true), (25, true)])) (by kernel_rfl) (by as_aux_lemma => kernel_rfl) (by kernel_rfl) (by kernel_rfl) (alongPre_append _ _ _ (by as_aux_lemma => kernel_rfl) (by as_aux_lemma => kernel_rfl)) (by as_aux_lemma => kernel_rfl) (fun _ _ _ _ _ h => h) (ckeep (Below.refl _ _).drew) (fun hH => ?_)
        simp only [List.cons_append, List.nil_append, stepsOf, pickOp]
        iterate 6 (first | (refine along_skip (by rfl) ?_; try simp only [Act.put, List.setIfInBounds_toArray, List.set_cons_zero, List.set_cons_succ]) | (refine along_pure ?_ (by rfl) (fun w hSw => ?_) ?_; rotate_left; ((try dsimp only at hSw); go_simp; try with_reducible rfl); try simp only [Act.put, List.setIfInBounds_toArray, List.set_cons_zero, List.set_cons_succ]))
        refine along_bar (fun K hK => ?_)
        go_simp
        refine (HI1.out _).mono ?_
        rintro e w' ⟨rfl, hbx⟩
        try go_wp2_with fail
        refine hK.out _ _ (ckeep (cbelow_on hH.1 hbx)) (fun hH' => ?_)
        clear hK K hH
        have hH := hH'
        clear hH'
        clear hbx
        try simp only [Act.put, List.setIfInBounds_toArray, List.set_cons_zero, List.set_cons_succ]
        iterate 19 (first | (refine along_skip (by rfl) ?_; try simp only [Act.put, List.setIfInBounds_toArray, List.set_cons_zero, List.set_cons_succ]) | (refine along_pure ?_ (by rfl) (fun w hSw => ?_) ?_; rotate_left; ((try dsimp only at hSw); go_simp; try with_reducible rfl); try simp only [Act.put, List.setIfInBounds_toArray, List.set_cons_zero, List.set_cons_succ]))
        refine along_end (NoPanic.normal ?_)
        have HB := Lib.hid hH.1
        clear hH
        go_wp2_with fail
        go_meet
        exact ⟨rfl, HB.out⟩
    · clear HL HV
      have d3 : decide (h < l) = false := decide_eq_false (by omega)
      by_cases c1 : l ≤ p
      · have d1 : decide (l ≤ p) = true := decide_eq_true c1
        by_cases c2 : p ≤ h
        · have d2 : decide (p ≤ h) = true := decide_eq_true c2
          have HI1 := Lib.hid (HI.out true (by rw [d1, d2]; rfl))
          clear HI
          refine wp_region_noPanic ?_
          refine wp_region_along (S := fun w' => Below w1.heap.size w1 w' ∧ ∀ b o, (w1.cell? ⟨b, o, none⟩).isSome = true → w'.cell? ⟨b, o, none⟩ = w1.cell? ⟨b, o, none⟩) ([(0, true), (1, true), (3, true), (4, true), (5, true), (6, true), (2, false), (7, true), (8, true), (9, true), (10, true), (11, true), (12, true), (13, true), (14, true), (15, true)] ++ ([(16, true), (17, true), (18, true), (19, true), (20, true), (21, true), (22, true), (23, true), (24, true), (25, true)])) (by kernel_rfl) (by as_aux_lemma => kernel_rfl) (by kernel_rfl) (by kernel_rfl) (alongPre_append _ _ _ (by as_aux_lemma => kernel_rfl) (by as_aux_lemma => kernel_rfl)) (by as_aux_lemma => kernel_rfl) (fun _ _ _ _ _ h => h) (ckeep (Below.refl _ _).drew) (fun hH => ?_)
          simp only [List.cons_append, List.nil_append, stepsOf, pickOp]
          iterate 6 (first | (refine along_skip (by rfl) ?_; try simp only [Act.put, List.setIfInBounds_toArray, List.set_cons_zero, List.set_cons_succ]) | (refine along_pure ?_ (by rfl) (fun w hSw => ?_) ?_; rotate_left; ((try dsimp only at hSw); go_simp; try with_reducible rfl); try simp only [Act.put, List.setIfInBounds_toArray, List.set_cons_zero, List.set_cons_succ]))
          refine along_bar (fun K hK => ?_)
          go_simp
          refine (HI1.out _).mono ?_
          rintro e w' ⟨rfl, hbx⟩
          try go_wp2_with fail
          refine hK.out _ _ (ckeep (cbelow_on hH.1 hbx)) (fun hH' => ?_)
          clear hK K hH
          have hH := hH'
          clear hH'
          clear hbx
          try simp only [Act.put, List.setIfInBounds_toArray, List.set_cons_zero, List.set_cons_succ]
          iterate 19 (first | (refine along_skip (by rfl) ?_; try simp only [Act.put, List.setIfInBounds_toArray, List.set_cons_zero, List.set_cons_succ]) | (refine along_pure ?_ (by rfl) (fun w hSw => ?_) ?_; rotate_left; ((try dsimp only at hSw); go_simp; try with_reducible rfl); try simp only [Act.put, List.setIfInBounds_toArray, List.set_cons_zero, List.set_cons_succ]))
          refine along_end (NoPanic.normal ?_)
          have HB := Lib.hid hH.1
          clear hH
          go_wp2_with fail
          go_meet
          exact ⟨rfl, HB.out⟩
        · have d2 : decide (p ≤ h) = false := decide_eq_false c2
          have HI1 := Lib.hid (HI.out false (by rw [d1, d2]; rfl))
          clear HI
          refine wp_region_noPanic ?_
          refine wp_region_along (S := fun w' => Below w1.heap.size w1 w' ∧ ∀ b o, (w1.cell? ⟨b, o, none⟩).isSome = true → w'.cell? ⟨b, o, none⟩ = w1.cell? ⟨b, o, none⟩) ([(0, true), (1, true), (3, true), (4, true), (5, true), (6, true), (2, false), (7, true), (8, true), (9, true), (10, true), (11, true), (12, true), (13, true), (14, true), (15, true)] ++ ([(16, true), (17, true), (18, true), (19, true), (20, true), (21, true), (22, true), (23, true), (24, true), (25, true)])) (by kernel_rfl) (by as_aux_lemma => kernel_rfl) (by kernel_rfl) (by kernel_rfl) (alongPre_append _ _ _ (by as_aux_lemma => kernel_rfl) (by as_aux_lemma => kernel_rfl)) (by as_aux_lemma => kernel_rfl) (fun _ _ _ _ _ h => h) (ckeep (Below.refl _ _).drew) (fun hH => ?_)
          simp only [List.cons_append, List.nil_append, stepsOf, pickOp]
          iterate 6 (first | (refine along_skip (by rfl) ?_; try simp only [Act.put, List.setIfInBounds_toArray, List.set_cons_zero, List.set_cons_succ]) | (refine along_pure ?_ (by rfl) (fun w hSw => ?_) ?_; rotate_left; ((try dsimp only at hSw); go_simp; try with_reducible rfl); try simp only [Act.put, List.setIfInBounds_toArray, List.set_cons_zero, List.set_cons_succ]))
          refine along_bar (fun K hK => ?_)
          go_simp
          refine (HI1.out _).mono ?_
          rintro e w' ⟨rfl, hbx⟩
          try go_wp2_with fail
          refine hK.out _ _ (ckeep (cbelow_on hH.1 hbx)) (fun hH' => ?_)
          clear hK K hH
          have hH := hH'
          clear hH'
          clear hbx
          try simp only [Act.put, List.setIfInBounds_toArray, List.set_cons_zero, List.set_cons_succ]
          iterate 19 (first | (refine along_skip (by rfl) ?_; try simp only [Act.put, List.setIfInBounds_toArray, List.set_cons_zero, List.set_cons_succ]) | (refine along_pure ?_ (by rfl) (fun w hSw => ?_) ?_; rotate_left; ((try dsimp only at hSw); go_simp; try with_reducible rfl); try simp only [Act.put, List.setIfInBounds_toArray, List.set_cons_zero, List.set_cons_succ]))
          refine along_end (NoPanic.normal ?_)
          have HB := Lib.hid hH.1
          clear hH
          go_wp2_with fail
          go_meet
          exact ⟨rfl, HB.out⟩
      · have d1 : decide (l ≤ p) = false := decide_eq_false c1
        have HI1 := Lib.hid (HI.out false (by rw [d1]; rfl))
        clear HI
        refine wp_region_noPanic ?_
        refine wp_region_along (S := fun w' => Below w1.heap.size w1 w' ∧ ∀ b o, (w1.cell? ⟨b, o, none⟩).isSome = true → w'.cell? ⟨b, o, none⟩ = w1.cell? ⟨b, o, none⟩) ([(0, true), (1, true), (3, true), (4, true), (5, true), (6, true), (2, false), (7, true), (8, true), (9, true), (10, true), (11, true), (12, true), (13, true), (14, true), (15, true)] ++ ([(16, true), (17, true), (18, true), (19, true), (20, true), (21, true), (22, true), (23, true), (24, true), (25, true)])) (by kernel_rfl) (by as_aux_lemma => kernel_rfl) (by kernel_rfl) (by kernel_rfl) (alongPre_append _ _ _ (by as_aux_lemma => kernel_rfl) (by as_aux_lemma => kernel_rfl)) (by as_aux_lemma => kernel_rfl) (fun _ _ _ _ _ h => h) (ckeep (Below.refl _ _).drew) (fun hH => ?_)
        simp only [List.cons_append, List.nil_append, stepsOf, pickOp]
        iterate 6 (first | (refine along_skip (by rfl) ?_; try simp only [Act.put, List.setIfInBounds_toArray, List.set_cons_zero, List.set_cons_succ]) | (refine along_pure ?_ (by rfl) (fun w hSw => ?_) ?_; rotate_left; ((try dsimp only at hSw); go_simp; try with_reducible rfl); try simp only [Act.put, List.setIfInBounds_toArray, List.set_cons_zero, List.set_cons_succ]))
        refine along_bar (fun K hK => ?_)
        go_simp
        refine (HI1.out _).mono ?_
        rintro e w' ⟨rfl, hbx⟩
        try go_wp2_with fail
        refine hK.out _ _ (ckeep (cbelow_on hH.1 hbx)) (fun hH' => ?_)
        clear hK K hH
        have hH := hH'
        clear hH'
        clear hbx
        try simp only [Act.put, List.setIfInBounds_toArray, List.set_cons_zero, List.set_cons_succ]
        iterate 19 (first | (refine along_skip (by rfl) ?_; try simp only [Act.put, List.setIfInBounds_toArray, List.set_cons_zero, List.set_cons_succ]) | (refine along_pure ?_ (by rfl) (fun w hSw => ?_) ?_; rotate_left; ((try dsimp only at hSw); go_simp; try with_reducible rfl); try simp only [Act.put, List.setIfInBounds_toArray, List.set_cons_zero, List.set_cons_succ]))
        refine along_end (NoPanic.normal ?_)
        have HB := Lib.hid hH.1
        clear hH
        go_wp2_with fail
        go_meet
        exact ⟨rfl, HB.out⟩
  case rest =>
    obtain ⟨rfl, hb2⟩ := hcut
    have HT2 := Lib.hid (HT1.out.on hb2)
    have HB2 := Lib.hid (cbelow_on HB1.out hb2)
    have HV2 := Lib.hid (HV.out.on hb2)
    have y0 := (hb2.cell (p := ⟨w.heap.size, 0, none⟩) (by show w.heap.size < w1.heap.size; omega)).trans z0
    have y1 := (hb2.cell (p := ⟨w.heap.size, 1, none⟩) (by show w.heap.size < w1.heap.size; omega)).trans z1
    have hz2 := hb2.size
    clear hb2 HT1 HB1 HV z0 z1
    go_wp2_with fail
    go_loopw [6, 43] (fun atv iv wr => ∃ i at_ f : Nat, iv = .int .i64 i ∧ atv = .int .i64 at_ ∧ i ≤ L.length ∧ at_ ≤ 65536 ∧ (l ≤ h → at_ ≤ h + 1) ∧ L.drop i = blks f at_ (h + 1) ∧ h + 1 - at_ ≤ f ∧ Prev L i at_ (h + 1) ∧ Below wc.heap.size wc wr) (fun _ iv _ => L.length - (intOf iv).toNat)
    case atStart =>
      refine ⟨0, l, h + 1 - l, rfl, rfl, Nat.zero_le _, by omega, by omega, by rw [HL.out]; rfl, Nat.le_refl _, fun j e => by omega, Below.refl _ _⟩
    case round =>
      obtain ⟨i, at_, f, rfl, rfl, hi, hat, hle, hd, hf, hP, hbr⟩ := hrel
      have HD := Lib.hid hd
      have HP := Lib.hid hP
      have HBr := Lib.hid hbr
      have HLe := Lib.hid hle
      have zc0 := (hbr.cell (p := ⟨w.heap.size, 0, none⟩) (by show w.heap.size < wc.heap.size; omega)).trans y0
      have zc1 := (hbr.cell (p := ⟨w.heap.size, 1, none⟩) (by show w.heap.size < wc.heap.size; omega)).trans y1
      clear hd hP hbr hle
      by_cases hlt : i < L.length
      · have hlt2 : at_ < h + 1 := by
          rcases Nat.lt_or_ge at_ (h + 1) with c | c
          · exact c
          · have h1 := HD.out
            rw [blks_end _ _ _ (by omega), List.drop_eq_getElem_cons hlt] at h1
            cases h1
        obtain ⟨f', e1, e2⟩ := blks_on f at_ (h + 1) hlt2 hf
        obtain ⟨k1, k2, k3, k4, -⟩ := fr_spec at_ (h + 1 - at_) (by omega) (by omega) (by omega)
        obtain ⟨k, hk⟩ : ∃ k, fr at_ (h + 1 - at_) = k := ⟨_, rfl⟩
        rw [hk] at e1 e2 k1 k2 k3 k4
        obtain ⟨q, hq⟩ : ∃ q, 2 ^ k = q := ⟨_, rfl⟩
        have hqI : (2 : Int) ^ k = (q : Int) := by rw [← hq]; exact (Int.natCast_pow 2 k).symm
        have hpos : 0 < q := by rw [← hq]; exact Nat.pow_pos (by decide)
        have hp16 : q ≤ 65536 := by rw [← hq]; exact pow16 k1
        obtain ⟨hg, hdr⟩ := drop_get (HD.out.trans e1)
        have HDr := Lib.hid hdr
        have K4 := Lib.hid k4
        rw [hq] at e2 k2 k3
        have hv := HV2.out.on HBr.out
        obtain ⟨g, cap', ev, hgb, hgl, x0, x1⟩ := hv.cellAt i (at_, k) hg
        simp at ev
        obtain ⟨rfl, rfl⟩ := ev
        have HG := Lib.hid hg
        have HQ := Lib.hid hq
        have hq0 : ¬ (q : Int) = 0 := by omega
        have hm0 : (at_ : Int).tmod (q : Int) = 0 := by rw [Int.tmod_eq_emod_of_nonneg (by omega), ← Int.natCast_emod, k2]; rfl
        have hm1 : (at_ : Int) % (q : Int) = 0 := by rw [← Int.natCast_emod, k2]; rfl
        obtain ⟨B, hB⟩ : ∃ B : Int, 16 - (k : Int) = B := ⟨_, rfl⟩
        simp only [hB] at x1
        have hB16 : 16 - B = (k : Int) := by omega
        have b0 : 0 ≤ B := by omega
        have b1 : B ≤ 16 := by omega
        have HBB := Lib.hid hB
        have Hv := Lib.hid hv
        clear hv hg hdr k4 hk hq hB e1 k2
        have hlI : (at_ : Int) < (h : Int) + 1 := by omega
        have HNext : Hid (Prev L (i + 1) (at_ + q) (h + 1)) := fun j e => by
          obtain rfl : i = j := by omega
          exact ⟨at_, k, HG.out, by rw [HQ.out], k1, by omega, K4.out⟩
        cases i with
        | zero =>
          go_wp2_with fail
          go_quiet (fail)
          go_wp2_with fail
          refine ⟨⟨1, at_ + q, f', by go_num, by go_num, by omega, by omega, fun _ => by omega, by rw [← HQ.out]; exact HDr.out, e2, HNext.out, ?_⟩, ?_⟩
          · repeat (first | exact HBr.out | refine Below.drew ?_ | refine below_drewN ?_ _ | refine cbelow_al ?_ _ | refine Below.setCell ?_ (by simp; have := HBr.out.size; omega) _)
          · simp [intOf]; omega
        | succ j =>
          obtain ⟨p', k', g1, g2, g3, g4, g5⟩ := HP.out j rfl
          obtain ⟨g', cap', ev, -, -, t0, t1⟩ := Hv.out.cellAt j (p', k') g1
          simp at ev
          obtain ⟨rfl, rfl⟩ := ev
          have hwj : IntKind.i64.wrap (((j + 1 : Nat) : Int) - 1) = (j : Int) := by rw [show ((j + 1 : Nat) : Int) - 1 = (j : Int) by omega, IntKind.wrap_i64]; omega
          have hj1 : ((j + 1 : Nat) : Int) - 1 = (j : Int) := by omega
          have hj2 : decide ((0 : Int) < ((j + 1 : Nat) : Int)) = true := decide_eq_true (by omega)
          have hjl : (j : Int) < (L.length : Int) := by omega
          simp only at t0 t1
          by_cases ck : k' = k
          · subst ck
            rw [HBB.out] at t1
            have hne : ¬ p' % (2 * q) = 0 := fun h0 => by
              have h1 := g5 (by rw [Nat.pow_succ, HQ.out, Nat.mul_comm]; exact h0)
              rw [Nat.pow_succ, HQ.out] at h1
              rw [HQ.out] at g2
              omega
            have hne1 : ((p' : Int).tmod (2 * (q : Int)) == 0) = false := by
              rw [Int.tmod_eq_emod_of_nonneg (by omega), show (2 : Int) * (q : Int) = ((2 * q : Nat) : Int) by omega, ← Int.natCast_emod, beq_eq_false_iff_ne]
              intro h0
              exact hne (by exact_mod_cast h0)
            have hne2 : ((p' : Int) % (2 * (q : Int)) == 0) = false := by
              rw [show (2 : Int) * (q : Int) = ((2 * q : Nat) : Int) by omega, ← Int.natCast_emod, beq_eq_false_iff_ne]
              intro h0
              exact hne (by exact_mod_cast h0)
            have hw2 : IntKind.i64.wrap (2 * (q : Int)) = 2 * (q : Int) := by rw [IntKind.wrap_i64]; omega
            have hq2 : ¬ 2 * (q : Int) = 0 := by omega
            have G2 := Lib.hid g2
            clear g1 g2 g5 hne
            go_wp2_with fail
            go_quiet (fail)
            go_wp2_with fail
            refine ⟨⟨j + 1 + 1, at_ + q, f', by go_num, by go_num, by omega, by omega, fun _ => by omega, by rw [← HQ.out]; exact HDr.out, e2, HNext.out, ?_⟩, ?_⟩
            · repeat (first | exact HBr.out | refine Below.drew ?_ | refine below_drewN ?_ _ | refine cbelow_al ?_ _ | refine Below.setCell ?_ (by simp; have := HBr.out.size; omega) _)
            · simp [intOf]; omega
          · have hne : ((16 - (k' : Int)) == B) = false := by rw [← HBB.out]; simp; omega
            have G2 := Lib.hid g2
            clear g1 g2 g5
            go_wp2_with fail
            go_quiet (fail)
            go_wp2_with fail
            refine ⟨⟨j + 1 + 1, at_ + q, f', by go_num, by go_num, by omega, by omega, fun _ => by omega, by rw [← HQ.out]; exact HDr.out, e2, HNext.out, ?_⟩, ?_⟩
            · repeat (first | exact HBr.out | refine Below.drew ?_ | refine below_drewN ?_ _ | refine cbelow_al ?_ _ | refine Below.setCell ?_ (by simp; have := HBr.out.size; omega) _)
            · simp [intOf]; omega
      · have hiL : i = L.length := by omega
        have hge : ¬ (i : Int) < (L.length : Int) := by omega
        have HE : Hid (h < l ∨ at_ = h + 1) := by
          rcases Nat.lt_or_ge h l with c | c
          · exact Or.inl c
          · right
            have h1 := HD.out
            rw [List.drop_eq_nil_of_le (by omega)] at h1
            have h2 := HLe.out c
            rcases Nat.lt_or_ge at_ (h + 1) with h3 | h3
            · obtain ⟨f', e1, -⟩ := blks_on f at_ (h + 1) h3 hf
              rw [e1] at h1; cases h1
            · omega
        have hA := cawake_any wr (HT2.out.on HBr.out)
        have HA := Lib.hid hA
        clear hA
        go_wp2_with fail
        refine HA.out.mono ?_
        rintro e w3 ⟨rfl, hb3⟩
        have hlt3 : w.heap.size < wr.heap.size := by have := HBr.out.size; omega
        have q0 := (hb3.cell (p := ⟨w.heap.size, 0, none⟩) hlt3).trans zc0
        have q1 := (hb3.cell (p := ⟨w.heap.size, 1, none⟩) hlt3).trans zc1
        have HB3 := Lib.hid (cbelow_on (cbelow_on HB2.out HBr.out) hb3)
        clear hb3
        rcases HE.out with c | c
        · go_wp2
          go_ret
          exact ⟨cret_bool (by simp; try omega), HB3.out⟩
        · subst c
          go_wp2
          all_goals
            go_ret
            exact ⟨cret_bool (by simp; try omega), HB3.out⟩
end Go.Proofs.YtijfohoaeacncaaDoor
