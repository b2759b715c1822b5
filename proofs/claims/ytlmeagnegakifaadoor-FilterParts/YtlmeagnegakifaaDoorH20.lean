/- The document's Split: a text's parts between bytes. -/
import Derived.Test.YtlmeagnegakifaaDoorH19
import Derived.Test.YtlmeagnegakifaaDoorKept
import Derived.Test.YtlmeagnegakifaaDoorAlong2
namespace Go.Proofs.YtlmeagnegakifaaDoor
open Go.RowKit
set_option linter.unusedVariables false

theorem sp_snoc_eq (c : UInt8) : ∀ l, sp c (l ++ [c]) = sp c l ++ [[]]
  | [] => by simp [sp]
  | b :: r => by
    rw [List.cons_append, sp, sp, sp_snoc_eq c r]
    by_cases h : b = c
    · rw [if_pos h, if_pos h]; rfl
    · rw [if_neg h, if_neg h]
      cases e : sp c r with
      | nil => exact absurd e (sp_ne c r)
      | cons x t => rfl
theorem sp_snoc_ne (c b : UInt8) (hb : b ≠ c) : ∀ l, ∃ (I : List (List UInt8)) (x : List UInt8), sp c l = I ++ [x] ∧ sp c (l ++ [b]) = I ++ [x ++ [b]]
  | [] => ⟨[], [], rfl, by simp [sp, hb]⟩
  | a :: r => by
    obtain ⟨I, x, h1, h2⟩ := sp_snoc_ne c b hb r
    rw [List.cons_append, sp, sp, h1, h2]
    by_cases h : a = c
    · rw [if_pos h, if_pos h]; exact ⟨[] :: I, x, rfl, rfl⟩
    · rw [if_neg h, if_neg h]
      cases I with
      | nil => exact ⟨[], a :: x, rfl, rfl⟩
      | cons y t => exact ⟨(a :: y) :: t, x, rfl, rfl⟩
def mkS (l : List UInt8) : ByteArray := ⟨l.toArray⟩
/-- The cells of parts. -/
def strCells (L : List (List UInt8)) : List Value := L.map fun l => .string (mkS l)
theorem own_set {w : World} {base g cap n : Nat} {t : TypeId} {xs : List Value} (h : w.ownsRow base t 1 (.slice (some ⟨g, 0, none⟩) n cap) n xs) (j : Nat) (hj : j < n) (u : Value) :
    (w.setCell ⟨g, j, none⟩ u).ownsRow base t 1 (.slice (some ⟨g, 0, none⟩) n cap) n (xs.set j u) := by
  obtain ⟨h1, ⟨h2, h3⟩ | ⟨g', cap', cur, h2, h3, h4, h5, h6, h7, h8⟩⟩ := h
  · cases h2
  · simp at h2
    obtain ⟨rfl, rfl⟩ := h2
    refine ⟨by simpa using h1, Or.inr ⟨g, cap, cur.setIfInBounds j u, rfl, h3, ?_, h5, h6, by simpa using h7, ?_⟩⟩
    · rw [Go.Joins.block_setCell h4]
    · rw [← h8]
      simp [List.take_set]
theorem sp_part (c : UInt8) : ∀ l x, x ∈ sp c l → x.length ≤ l.length
  | [], x, h => by simp [sp] at h; subst h; simp
  | b :: r, x, h => by
    rw [sp] at h
    split at h
    · rcases List.mem_cons.1 h with rfl | h
      · simp
      · have := sp_part c r x h; simp; omega
    · cases e : sp c r with
      | nil => exact absurd e (sp_ne c r)
      | cons y t =>
        rw [e] at h
        rcases List.mem_cons.1 h with rfl | h
        · have := sp_part c r y (by rw [e]; simp); simp; omega
        · have := sp_part c r x (by rw [e]; simp [h]); simp; omega
theorem own_form {w : World} {base n : Nat} {v : Value} {t : TypeId} {xs : List Value} (h : w.ownsRow base t 1 v n xs) (hn : 1 ≤ n) : ∃ g cap, v = .slice (some ⟨g, 0, none⟩) n cap ∧ base ≤ g ∧ n ≤ cap ∧ (∀ j, j < n → w.frozen? ⟨g, j, none⟩ = false) := by
  obtain ⟨h1, ⟨h2, h3⟩ | ⟨g, cap, cur, h2, h3, h4, h5, h6, h7, h8⟩⟩ := h
  · omega
  · exact ⟨g, cap, h2, h3, h5, fun j _ => by simp [World.frozen?, h4]⟩
theorem ext_one (s : ByteArray) (i : Nat) (h : i < s.size) (x : UInt8) (hx : s[i] = x) (y : List UInt8) : mkS y ++ s.extract i (i + 1) = mkS (y ++ [x]) := by
  apply ByteArray.ext
  apply Array.ext'
  subst hx
  unfold mkS
  simp
  rw [List.drop_eq_getElem_cons (by simpa using h)]
  simp
  rfl
theorem infoStr : (Tryd.prog.info? 9).map (fun i => (i.zero, i.size, i.bytes)) = some (some (.string ByteArray.empty), 1, 16) := by kernel_rfl
def RSplitRet (c : UInt8) (s : ByteArray) (w : World) (e : Ending) (w' : World) : Prop :=
  ∃ v, e = .returned v ∧ Below w.heap.size w w' ∧ w'.ownsRow w.heap.size 9 1 v (sp c s.data.toList).length (strCells (sp c s.data.toList))
set_option maxRecDepth 100000 in
set_option maxHeartbeats 4000000 in
theorem rsplit_any (c : UInt8) (s : ByteArray) (hs : s.size ≤ 300) (w : World) :
    Calls Tryd.prog 52 #[.string s, .int .u8 (c.toNat : Int)] w (RSplitRet c s w) := by
  go_enter Tryd.func52, Tryd.ntmps52
  go_wp2_with fail
  go_loopw [5, 6] (fun v iv wr => ∃ i : Nat, iv = .int .i64 i ∧ i ≤ s.size ∧ Below w.heap.size w wr ∧ wr.ownsRow w.heap.size 9 1 v (sp c (s.data.toList.take i)).length (strCells (sp c (s.data.toList.take i)))) (fun _ iv _ => s.size - (intOf iv).toNat)
  case atStart =>
    refine ⟨0, rfl, Nat.zero_le _, below_al (Below.refl _ _) _, rfl, Or.inr ⟨w.heap.size, 1, #[.string ByteArray.empty], rfl, Nat.le_refl _, ?_, Nat.le_refl _, by decide, rfl, rfl⟩⟩
    exact heap_alloc_new w _
  case round =>
    obtain ⟨i, rfl, hi, hb, ho⟩ := hrel
    have HB := Lib.hid hb
    have HO := Lib.hid ho
    clear hb ho
    by_cases hlt : i < s.size
    · have hts : s.data.toList.take (i + 1) = s.data.toList.take i ++ [s[i]] := by rw [List.take_succ_eq_append_getElem (by simpa using hlt)]; rfl
      have HTS := Lib.hid hts
      clear hts
      have hpl := sp_len c (s.data.toList.take i)
      have htl : (s.data.toList.take i).length ≤ 300 := by simp; omega
      obtain ⟨x, hx⟩ : ∃ x, s[i] = x := ⟨_, rfl⟩
      rw [hx] at HTS
      by_cases ce : x = c
      · have HN : Hid (sp c (s.data.toList.take (i + 1)) = sp c (s.data.toList.take i) ++ [[]]) := by show _ = _; rw [HTS.out, ce, sp_snoc_eq]
        generalize sp c (s.data.toList.take i) = L at *
        obtain ⟨i0, hi0, hz0, hz1, hz2⟩ := hinfo_parts infoStr
        have hown := HO.out
        have e1 : ((x.toNat : Int) == (c.toNat : Int)) = true := by rw [ce]; simp
        have hxx : s[i].toNat = x.toNat := by rw [hx]
        clear hx
        go_wp2_with (at_builtin; refine wpList_append_own _ rfl _ _ 79 rfl w.heap.size 9 i0 (.string ByteArray.empty) 1 16 Tryd.underlying79 hi0 hz0 hz1 hz2 rfl (by decide) _ _ _ rfl (hown.alloc _) ⟨wr.heap.size, 0, none⟩ 1 1 [.string ByteArray.empty] rfl rfl ?c1 ?c2 ?c3 ?c4 ?c5 ?_)
        case c1 =>
          intro j x hj
          match j, hj with
          | 0, hj => simp at hj; subst hj; simp [Addr.add, go_sem]; rfl
        case c2 => intro x hx; simp at hx; subst hx; rfl
        case c3 => unfold maxLen; omega
        case c4 => omega
        case c5 => have := HB.out.size; simp; omega
        · intro v' w2 hown' hgrow _
          have HO' := Lib.hid hown'
          have HG := Lib.hid hgrow
          clear hown' hgrow hown
          go_wp2_with fail
          have hB2 : Below w.heap.size w w2 := (below_al HB.out _).grown HG.out (by have := HB.out.size; simp; omega) (fun g e => (World.ownsRow.lt HO.out g e).1)
          refine ⟨⟨i + 1, by go_num, by omega, hB2, ?_⟩, ?_⟩
          · rw [HN.out, List.length_append]
            have h := HO'.out
            unfold strCells at h ⊢
            rw [List.map_append]
            exact h
          · simp [intOf]; omega
      · obtain ⟨I, y, h1, h2⟩ := sp_snoc_ne c x ce (s.data.toList.take i)
        have HN : Hid (sp c (s.data.toList.take (i + 1)) = I ++ [y ++ [x]]) := by show _ = _; rw [HTS.out, h2]
        have hyl : y.length ≤ 300 := by
          have := sp_part c (s.data.toList.take i) y (by rw [h1]; simp)
          omega
        rw [h1] at HO hpl
        have hext := ext_one s i hlt x hx y
        have HEX := Lib.hid hext
        have HX : Hid (s[i].toNat = x.toNat) := by show _ = _; rw [hx]
        obtain ⟨q, hq⟩ : ∃ q, I.length = q := ⟨_, rfl⟩
        have hN1 : (I ++ [y]).length = q + 1 := by simp [hq]
        rw [hN1] at HO hpl
        obtain ⟨g, cap, rfl, hgb, hcap, hfz⟩ := own_form HO.out (by omega)
        have hcell : wr.cell? ⟨g, q, none⟩ = some (.string (mkS y)) := by
          rw [World.ownsRow.cellAt HO.out q (by omega)]
          unfold strCells
          rw [List.map_append, List.getElem?_append_right (by simp [hq])]
          simp [hq]
        have hf := hfz q (by omega)
        have hw1 : IntKind.i64.wrap (((q + 1 : Nat) : Int) - 1) = (q : Int) := by rw [show ((q + 1 : Nat) : Int) - 1 = (q : Int) by omega, IntKind.wrap_i64]; omega
        have hw2 : IntKind.i64.wrap ((i : Int) + 1) = (i : Int) + 1 := by rw [IntKind.wrap_i64]; omega
        have hw3 : IntKind.i64.wrap (q : Int) = (q : Int) := by rw [IntKind.wrap_i64]; omega
        have b1 : (i : Int) + 1 ≤ (s.size : Int) := by omega
        have b2 : (0 : Int) ≤ (i : Int) + 1 := by omega
        have b3 : ((i : Int) + 1).toNat = i + 1 := by omega
        have b4 : (i : Int) ≤ (i : Int) + 1 := by omega
        have hq2 : (q : Int) < (q : Int) + 1 := by omega
        have hq1 : (q : Int) < ((q + 1 : Nat) : Int) := by omega
        have e0 : ((x.toNat : Int) == (c.toNat : Int)) = false := by
          rw [beq_eq_false_iff_ne]; intro h0; exact ce (UInt8.toNat_inj.1 (by exact_mod_cast h0))
        have hxx := HX.out
        have hysz : (mkS y).size ≤ 300 := by unfold mkS; simpa [ByteArray.size] using hyl
        have hcc : ¬ 9223372036854775807 < (mkS y).size + (min (i + 1) s.size - i) := by omega
        have HH1 := Lib.hid h1
        have HQ := Lib.hid hq
        clear h1 h2 hx hN1 hfz hq hext
        go_upto_region 7 with fail
        refine wp_region_noPanic ?_
        refine wp_region_along (S := fun _ => True) ([(0, true), (1, true), (2, true), (3, true), (4, true), (5, true), (6, true), (7, true), (8, true), (10, true), (11, true), (12, true), (13, true), (14, true), (9, false), (15, true)] ++ ([(16, true), (17, false)])) (by kernel_rfl) (by as_aux_lemma => kernel_rfl) (by kernel_rfl) (by kernel_rfl) (alongPre_append _ _ _ (by as_aux_lemma => kernel_rfl) (by as_aux_lemma => kernel_rfl)) (by as_aux_lemma => kernel_rfl) (fun _ _ _ _ _ h => h) trivial (fun hH => ?_)
        simp only [List.cons_append, List.nil_append, stepsOf, pickOp]
        iterate 14 (first | (refine along_skip (by rfl) ?_; try simp only [Act.put, List.setIfInBounds_toArray, List.set_cons_zero, List.set_cons_succ]) | (refine along_pure ?_ (by rfl) (fun w hSw => ?_) ?_; rotate_left; ((try dsimp only at hSw); go_simp; try with_reducible rfl); try simp only [Act.put, List.setIfInBounds_toArray, List.set_cons_zero, List.set_cons_succ]))
        refine along_bar (fun K hK => ?_)
        go_simp
        refine hK.out _ _ trivial (fun hH' => ?_)
        clear hK K hH
        have hH := hH'
        clear hH'
        try simp only [Act.put, List.setIfInBounds_toArray, List.set_cons_zero, List.set_cons_succ]
        iterate 2 (first | (refine along_skip (by rfl) ?_; try simp only [Act.put, List.setIfInBounds_toArray, List.set_cons_zero, List.set_cons_succ]) | (refine along_pure ?_ (by rfl) (fun w hSw => ?_) ?_; rotate_left; ((try dsimp only at hSw); go_simp; try with_reducible rfl); try simp only [Act.put, List.setIfInBounds_toArray, List.set_cons_zero, List.set_cons_succ]))
        refine along_bar (fun K hK => ?_)
        go_simp
        refine hK.out _ _ trivial (fun hH' => ?_)
        clear hK K hH
        have hH := hH'
        clear hH'
        try simp only [Act.put, List.setIfInBounds_toArray, List.set_cons_zero, List.set_cons_succ]
        refine along_end (NoPanic.normal ?_)
        go_wp2_with fail
        refine ⟨⟨i + 1, by go_num, by omega, ?_, ?_⟩, ?_⟩
        · exact (HB.out.drew).setCell (by show w.heap.size ≤ g; exact hgb) _
        · rw [HN.out, HEX.out]
          have h := own_set (show wr.drew.ownsRow _ _ _ _ _ _ from HO.out) q (by omega) (.string (mkS (y ++ [x])))
          have e : (strCells (I ++ [y])).set q (.string (mkS (y ++ [x]))) = strCells (I ++ [y ++ [x]]) := by
            unfold strCells
            rw [List.map_append, List.map_append, List.set_append_right _ _ (by simp [HQ.out])]
            simp [HQ.out]
          rw [e] at h
          rw [show (I ++ [y ++ [x]]).length = q + 1 by simp [HQ.out]]
          exact h
        · simp [intOf]; omega
    · obtain rfl : i = s.size := by omega
      have HE : Hid (s.data.toList.take s.size = s.data.toList) := by show _ = _; rw [List.take_of_length_le (by rw [Array.length_toList]; exact Nat.le_refl _)]
      go_wp2
      go_ret
      refine ⟨_, rfl, HB.out, ?_⟩
      have h := HO.out
      rw [HE.out] at h
      exact h
end Go.Proofs.YtlmeagnegakifaaDoor
