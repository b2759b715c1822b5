/- Texts of prefixes and ranges: what they are, and how they are read; the program's and the document's. -/
import Derived.Test.YtlmeagnegakifaaDoorT1
import Derived.Test.YtlmeagnegakifaaDoorC2
import Derived.Test.YtlmeagnegakifaaDoorH11
import Derived.Test.YtlmeagnegakifaaDoorAlong2
namespace Go.Proofs.YtlmeagnegakifaaDoor
open Go.RowKit
set_option linter.unusedVariables false

def gv (l h : Int) : Value := .agg #[.int .u16 l, .int .u16 h]
def CutRet (T : ByteArray × ByteArray × Bool) (w : World) (e : Ending) (w' : World) : Prop := e = .returned (.tuple #[.string T.1, .string T.2.1, .bool T.2.2]) ∧ Below w.heap.size w w'
theorem ccut_any (c : UInt8) (s : ByteArray) (hs : s.size < 4294967281) (w : World) (ht : Mxl w) : Calls Tryd.prog 53 #[.string s, .string ⟨#[c]⟩] w (CutRet (cutT c s) w) := by
  obtain ⟨m, hm⟩ := ht
  refine (Tryd.strings_Cut s ⟨#[c]⟩ m w hs hm).mono ?_
  rintro e w' ⟨rfl, n, rfl⟩
  rw [← cut_ct]
  exact ⟨rfl, below_drewN (Below.refl _ _) n⟩
theorem ext_take (s : ByteArray) (i : Nat) (h : i ≤ s.size) : s.extract 0 i = mkS (s.data.toList.take i) := by
  apply ByteArray.ext
  apply Array.ext'
  simp [mkS]
theorem ext_drop (s : ByteArray) (i : Nat) (h : i ≤ s.size) : s.extract i s.size = mkS (s.data.toList.drop i) := by
  apply ByteArray.ext
  apply Array.ext'
  simp [mkS]
  rw [List.take_of_length_le (by simp)]
set_option maxRecDepth 100000 in
set_option maxHeartbeats 4000000 in
theorem rcut_any (c : UInt8) (s : ByteArray) (hs : s.size ≤ 300) (w : World) : Calls Tryd.prog 57 #[.string s, .int .u8 (c.toNat : Int)] w (CutRet (rcutT c s) w) := by
  obtain ⟨T, hT⟩ : ∃ T, rcutT c s = T := ⟨_, rfl⟩
  rw [hT]
  have HT := Lib.hid hT
  clear hT
  go_enter Tryd.func57, Tryd.ntmps57
  go_wp2_with fail
  go_loopw [7] (fun iv wr => ∃ i : Nat, iv = .int .i64 i ∧ i ≤ s.size ∧ c ∉ s.data.toList.take i ∧ w = wr) (fun iv _ => s.size - (intOf iv).toNat)
  case atStart => exact ⟨0, rfl, Nat.zero_le _, by simp, rfl⟩
  case round =>
    obtain ⟨i, rfl, hi, hn, rfl⟩ := hrel
    have HN := Lib.hid hn
    clear hn
    by_cases hlt : i < s.size
    · obtain ⟨x, hx⟩ : ∃ x, s[i] = x := ⟨_, rfl⟩
      have hd : s.data.toList.drop i = x :: s.data.toList.drop (i + 1) := by rw [drop_byte s i hlt, hx]
      have hts : s.data.toList.take (i + 1) = s.data.toList.take i ++ [x] := by rw [List.take_succ_eq_append_getElem (by simpa using hlt), ← hx]; rfl
      have hxx : s[i].toNat = x.toNat := by rw [hx]
      clear hx
      by_cases ce : x = c
      · have HTe : Hid (T = (mkS (s.data.toList.take i), mkS (s.data.toList.drop (i + 1)), true)) := by
          show _ = _
          have e : s.data.toList = s.data.toList.take i ++ c :: s.data.toList.drop (i + 1) := by rw [← ce, ← hd, List.take_append_drop]
          have q : ct c s.data.toList = some (s.data.toList.take i, s.data.toList.drop (i + 1)) := by
            have q0 := ct_app c (s.data.toList.drop (i + 1)) (s.data.toList.take i) HN.out
            rw [← e] at q0; exact q0
          rw [← HT.out]; unfold rcutT; rw [q]
        have e1 : ((x.toNat : Int) == (c.toNat : Int)) = true := by rw [ce]; simp
        have w1 : IntKind.i64.wrap ((i : Int) + 1) = (i : Int) + 1 := by rw [IntKind.wrap_i64]; omega
        have b1 : (0 : Int) ≤ (i : Int) + 1 := by omega
        have b2 : (i : Int) + 1 ≤ (s.size : Int) := by omega
        have b3 : ((i : Int) + 1).toNat = i + 1 := by omega
        have b4 : (i : Int) ≤ (s.size : Int) := by omega
        have x1 := ext_take s i hi
        have x2 := ext_drop s (i + 1) (by omega)
        clear hd hts ce
        go_upto_region 5 with fail
        refine wp_region_noPanic ?_
        refine wp_region_along (S := fun _ => True) ([(0, true), (1, true), (2, true), (3, true), (4, true), (5, true), (6, true), (7, true), (8, true), (9, true)]) (by kernel_rfl) (by as_aux_lemma => kernel_rfl) (by kernel_rfl) (by kernel_rfl) (by as_aux_lemma => kernel_rfl) (by as_aux_lemma => kernel_rfl) (fun _ _ _ _ _ h => h) trivial (fun hH => ?_)
        simp only [stepsOf, pickOp]
        iterate 10 (refine along_pure ?_ (by rfl) (fun w hSw => ?_) ?_; rotate_left; (go_simp; try with_reducible rfl); try simp only [Act.put, List.setIfInBounds_toArray, List.set_cons_zero, List.set_cons_succ])
        refine along_end (NoPanic.normal ?_)
        go_wp2_with fail
        refine bodyPost_ret (v := .tuple #[.string (mkS (s.data.toList.take i)), .string (mkS (s.data.toList.drop (i + 1))), .bool true]) (by simp [results, Tryd.results57, go_sem]) rfl ⟨?_, (Below.refl _ _).drew⟩
        rw [HTe.out]
      · have hn' : c ∉ s.data.toList.take (i + 1) := by
          rw [hts]; simp only [List.mem_append, List.mem_singleton, not_or]; exact ⟨HN.out, fun e => ce e.symm⟩
        have HN' := Lib.hid hn'
        have e0 : ((x.toNat : Int) == (c.toNat : Int)) = false := by
          rw [beq_eq_false_iff_ne]; intro h0; exact ce (UInt8.toNat_inj.1 (by exact_mod_cast h0))
        clear hd hts hn'
        go_wp2_with fail
        refine ⟨⟨i + 1, by go_num, by omega, HN'.out, by trivial⟩, ?_⟩
        simp [intOf]; omega
    · obtain rfl : i = s.size := by omega
      have HTe : Hid (T = (⟨#[]⟩, ⟨#[]⟩, false)) := by
        show _ = _
        have h := HN.out
        rw [List.take_of_length_le (by simp)] at h
        rw [← HT.out]; unfold rcutT; rw [ct_none c _ h]
      go_wp2
      refine bodyPost_ret (v := .tuple #[.string ⟨#[]⟩, .string ⟨#[]⟩, .bool false]) (by simp [results, Tryd.results57, go_sem]) rfl ⟨?_, Below.refl _ _⟩
      rw [HTe.out]
set_option maxRecDepth 100000 in
set_option maxHeartbeats 4000000 in
theorem pparse_core (s x y : ByteArray) (b : Bool) (a e n f : Int) (R : Bool) (A B E : Int) (P : World → Prop) (HP : Hid (∀ W w, P W → Below W.heap.size W w → P w))
    (CU : Hid (∀ w, P w → Calls Tryd.prog 53 #[.string s, .string ⟨#[47]⟩] w (CutRet (x, y, b) w)))
    (PA : Hid (b = true → ∀ w, P w → Calls Tryd.prog 13 #[.string x] w fun z w' => z = .returned (.tuple #[.int .u32 a, .int .i64 e]) ∧ Below w.heap.size w w'))
    (NU : Hid (b = true → ∀ w, Calls Tryd.prog 20 #[.string y, .int .i64 32] w fun z w' => z = .returned (.tuple #[.int .i64 n, .int .i64 f]) ∧ Below w.heap.size w w'))
    (RI : Hid (b = true → ∀ w, Calls Tryd.prog 56 #[pv a n] w fun z w' => z = .returned (.bool R) ∧ Below w.heap.size w w'))
    (HT : Hid ((if b = true then (if e = 0 then (if f = 0 then (if R = true then (a, n, 0) else (0, 0, 13)) else (0, 0, f)) else (0, 0, e)) else ((0 : Int), (0 : Int), (6 : Int))) = (A, B, E)))
    (w : World) (hw : P w) :
    Calls Tryd.prog 28 #[.string s] w fun z w' => z = .returned (.tuple #[pv A B, .int .i64 E]) ∧ Below w.heap.size w w' := by
  unfold pv at RI ⊢
  obtain ⟨W0, hW0⟩ : ∃ W0, w.alloc (Obj.cells #[.int .u32 0, .int .i64 0] 45) = W0 := ⟨_, rfl⟩
  have hB0 : Below w.heap.size w W0 := by rw [← hW0]; exact below_al (Below.refl _ _) _
  have HR0 := Lib.hid (show Pr .u32 .i64 W0 w.heap.size 0 0 by rw [← hW0]; exact Pr.new _ _ _ _ _ _)
  have hP0 := Lib.hid (HP.out _ _ hw hB0)
  have HB0 := Lib.hid hB0
  clear hB0 hw
  go_enter Tryd.func28, Tryd.ntmps28
  go_upto_region 1 with fail
  clear hW0
  go_wp2_with fail
  refine (CU.out _ hP0.out).mono ?_
  rintro z w1 ⟨rfl, hb⟩
  have HB1 := Lib.hid (below_on HB0.out hb)
  have HR1 := Lib.hid (HR0.out.on hb)
  have hP1 := Lib.hid (HP.out _ _ hP0.out hb)
  clear hb HB0 HR0 hP0 CU
  cases b with
  | false =>
    obtain ⟨⟨r1, r2⟩, g1, g2⟩ := HR1.out
    obtain ⟨rfl, rfl, rfl⟩ : 0 = A ∧ 0 = B ∧ 6 = E := by have q := HT.out; simp  at q; exact q
    go_wp2_with fail
    refine at_pr (Q := fun W => bodyPost _ _ _ _ _ W) (Pr.put HR1.out 0 0) (below_put2 HB1.out (Nat.le_refl _) _ _) (fun W' HD' BB' => ?_)
    obtain ⟨⟨r1, r2⟩, -, -⟩ := HD'
    exact bodyPost_ret (v := .tuple #[.agg #[.int .u32 0, .int .i64 0], .int .i64 6]) (by simp [results, Tryd.results28, go_sem, r1, r2]) rfl ⟨rfl, BB'⟩
  | true =>
    go_wp2_with fail
    refine (PA.out (by trivial) _ hP1.out).mono ?_
    rintro z w2 ⟨rfl, hb⟩
    have HB2 := Lib.hid (below_on HB1.out hb)
    have HR2 := Lib.hid (HR1.out.on hb)
    clear hb HB1 HR1 hP1 PA
    by_cases q0 : e = 0
    · subst q0
      go_wp2_with fail
      refine (NU.out (by trivial) _).mono ?_
      rintro z w3 ⟨rfl, hb⟩
      have HB3 := Lib.hid (below_on HB2.out hb)
      have HR3 := Lib.hid (HR2.out.on hb)
      clear hb HB2 HR2 NU
      by_cases q1 : f = 0
      · subst q1
        go_upto_region 11 with fail
        obtain ⟨W4, hW4⟩ : ∃ W4, w3.alloc (Obj.cells #[.int .u32 a, .int .i64 n] 45) = W4 := ⟨_, rfl⟩
        rw [hW4]
        have hb4 : Below w3.heap.size w3 W4 := by rw [← hW4]; exact below_al (Below.refl _ _) _
        have HB4 := Lib.hid (below_on HB3.out hb4)
        have HR4 := Lib.hid (HR3.out.on hb4)
        have HE4 := Lib.hid (show Pr .u32 .i64 W4 w3.heap.size a n by rw [← hW4]; exact Pr.new _ _ _ _ _ _)
        clear hb4 hW4 HB3 HR3
        obtain ⟨⟨v1, v2⟩, -, -⟩ := HE4.out
        go_wp2_with fail
        refine (RI.out (by trivial) _).mono ?_
        rintro z w5 ⟨rfl, hb⟩
        have HB5 := Lib.hid (below_on HB4.out hb)
        have HR5 := Lib.hid (HR4.out.on hb)
        have HE5 := HE4.out.on hb
        clear hb HB4 HR4 HE4 v1 v2 RI
        obtain ⟨⟨v1, v2⟩, -, -⟩ := HE5
        obtain ⟨⟨r1, r2⟩, g1, g2⟩ := HR5.out
        cases R with
        | false =>
          obtain ⟨rfl, rfl, rfl⟩ : 0 = A ∧ 0 = B ∧ 13 = E := by have q := HT.out; simp  at q; exact q
          go_wp2_with fail
          refine at_pr (Q := fun W => bodyPost _ _ _ _ _ W) (Pr.put HR5.out 0 0) (below_put2 HB5.out (Nat.le_refl _) _ _) (fun W' HD' BB' => ?_)
          obtain ⟨⟨r1, r2⟩, -, -⟩ := HD'
          exact bodyPost_ret (v := .tuple #[.agg #[.int .u32 0, .int .i64 0], .int .i64 13]) (by simp [results, Tryd.results28, go_sem, r1, r2]) rfl ⟨rfl, BB'⟩
        | true =>
          obtain ⟨rfl, rfl, rfl⟩ : a = A ∧ n = B ∧ 0 = E := by have q := HT.out; simp  at q; exact q
          go_wp2_with fail
          refine at_pr (Q := fun W => bodyPost _ _ _ _ _ W) (Pr.put HR5.out a n) (below_put2 HB5.out (Nat.le_refl _) _ _) (fun W' HD' BB' => ?_)
          obtain ⟨⟨r1, r2⟩, -, -⟩ := HD'
          exact bodyPost_ret (v := .tuple #[.agg #[.int .u32 a, .int .i64 n], .int .i64 0]) (by simp [results, Tryd.results28, go_sem, r1, r2]) rfl ⟨rfl, BB'⟩
      · have q1' : (f != 0) = true := by simp; exact q1
        obtain ⟨⟨r1, r2⟩, g1, g2⟩ := HR3.out
        obtain ⟨rfl, rfl, rfl⟩ : 0 = A ∧ 0 = B ∧ f = E := by have q := HT.out; simp [q1] at q; exact q
        go_wp2_with fail
        refine at_pr (Q := fun W => bodyPost _ _ _ _ _ W) (Pr.put HR3.out 0 0) (below_put2 HB3.out (Nat.le_refl _) _ _) (fun W' HD' BB' => ?_)
        obtain ⟨⟨r1, r2⟩, -, -⟩ := HD'
        exact bodyPost_ret (v := .tuple #[.agg #[.int .u32 0, .int .i64 0], .int .i64 f]) (by simp [results, Tryd.results28, go_sem, r1, r2]) rfl ⟨rfl, BB'⟩
    · have q0' : (e != 0) = true := by simp; exact q0
      obtain ⟨⟨r1, r2⟩, g1, g2⟩ := HR2.out
      obtain ⟨rfl, rfl, rfl⟩ : 0 = A ∧ 0 = B ∧ e = E := by have q := HT.out; simp [q0] at q; exact q
      go_wp2_with fail
      refine at_pr (Q := fun W => bodyPost _ _ _ _ _ W) (Pr.put HR2.out 0 0) (below_put2 HB2.out (Nat.le_refl _) _ _) (fun W' HD' BB' => ?_)
      obtain ⟨⟨r1, r2⟩, -, -⟩ := HD'
      exact bodyPost_ret (v := .tuple #[.agg #[.int .u32 0, .int .i64 0], .int .i64 e]) (by simp [results, Tryd.results28, go_sem, r1, r2]) rfl ⟨rfl, BB'⟩
set_option maxRecDepth 100000 in
set_option maxHeartbeats 4000000 in
theorem rpparse_core (s x y : ByteArray) (b : Bool) (a e n f : Int) (R : Bool) (A B E : Int) (P : World → Prop) (HP : Hid (∀ W w, P W → Below W.heap.size W w → P w))
    (CU : Hid (∀ w, P w → Calls Tryd.prog 57 #[.string s, .int .u8 47] w (CutRet (x, y, b) w)))
    (PA : Hid (b = true → ∀ w, P w → Calls Tryd.prog 19 #[.string x] w fun z w' => z = .returned (.tuple #[.int .u32 a, .int .i64 e]) ∧ Below w.heap.size w w'))
    (NU : Hid (b = true → ∀ w, Calls Tryd.prog 21 #[.string y, .int .i64 32] w fun z w' => z = .returned (.tuple #[.int .i64 n, .int .i64 f]) ∧ Below w.heap.size w w'))
    (RI : Hid (b = true → ∀ w, Calls Tryd.prog 25 #[pv a n] w fun z w' => z = .returned (.bool R) ∧ Below w.heap.size w w'))
    (HT : Hid ((if b = true then (if e = 0 then (if f = 0 then (if R = true then (a, n, 0) else (0, 0, 13)) else (0, 0, f)) else (0, 0, e)) else ((0 : Int), (0 : Int), (6 : Int))) = (A, B, E)))
    (w : World) (hw : P w) :
    Calls Tryd.prog 30 #[.string s] w fun z w' => z = .returned (.tuple #[pv A B, .int .i64 E]) ∧ Below w.heap.size w w' := by
  unfold pv at RI ⊢
  obtain ⟨W0, hW0⟩ : ∃ W0, w.alloc (Obj.cells #[.int .u32 0, .int .i64 0] 45) = W0 := ⟨_, rfl⟩
  have hB0 : Below w.heap.size w W0 := by rw [← hW0]; exact below_al (Below.refl _ _) _
  have HR0 := Lib.hid (show Pr .u32 .i64 W0 w.heap.size 0 0 by rw [← hW0]; exact Pr.new _ _ _ _ _ _)
  have hP0 := Lib.hid (HP.out _ _ hw hB0)
  have HB0 := Lib.hid hB0
  clear hB0 hw
  go_enter Tryd.func30, Tryd.ntmps30
  go_upto_region 1 with fail
  clear hW0
  go_wp2_with fail
  refine (CU.out _ hP0.out).mono ?_
  rintro z w1 ⟨rfl, hb⟩
  have HB1 := Lib.hid (below_on HB0.out hb)
  have HR1 := Lib.hid (HR0.out.on hb)
  have hP1 := Lib.hid (HP.out _ _ hP0.out hb)
  clear hb HB0 HR0 hP0 CU
  cases b with
  | false =>
    obtain ⟨⟨r1, r2⟩, g1, g2⟩ := HR1.out
    obtain ⟨rfl, rfl, rfl⟩ : 0 = A ∧ 0 = B ∧ 6 = E := by have q := HT.out; simp  at q; exact q
    go_wp2_with fail
    refine at_pr (Q := fun W => bodyPost _ _ _ _ _ W) (Pr.put HR1.out 0 0) (below_put2 HB1.out (Nat.le_refl _) _ _) (fun W' HD' BB' => ?_)
    obtain ⟨⟨r1, r2⟩, -, -⟩ := HD'
    exact bodyPost_ret (v := .tuple #[.agg #[.int .u32 0, .int .i64 0], .int .i64 6]) (by simp [results, Tryd.results30, go_sem, r1, r2]) rfl ⟨rfl, BB'⟩
  | true =>
    go_wp2_with fail
    refine (PA.out (by trivial) _ hP1.out).mono ?_
    rintro z w2 ⟨rfl, hb⟩
    have HB2 := Lib.hid (below_on HB1.out hb)
    have HR2 := Lib.hid (HR1.out.on hb)
    clear hb HB1 HR1 hP1 PA
    by_cases q0 : e = 0
    · subst q0
      go_wp2_with fail
      refine (NU.out (by trivial) _).mono ?_
      rintro z w3 ⟨rfl, hb⟩
      have HB3 := Lib.hid (below_on HB2.out hb)
      have HR3 := Lib.hid (HR2.out.on hb)
      clear hb HB2 HR2 NU
      by_cases q1 : f = 0
      · subst q1
        go_upto_region 11 with fail
        obtain ⟨W4, hW4⟩ : ∃ W4, w3.alloc (Obj.cells #[.int .u32 a, .int .i64 n] 45) = W4 := ⟨_, rfl⟩
        rw [hW4]
        have hb4 : Below w3.heap.size w3 W4 := by rw [← hW4]; exact below_al (Below.refl _ _) _
        have HB4 := Lib.hid (below_on HB3.out hb4)
        have HR4 := Lib.hid (HR3.out.on hb4)
        have HE4 := Lib.hid (show Pr .u32 .i64 W4 w3.heap.size a n by rw [← hW4]; exact Pr.new _ _ _ _ _ _)
        clear hb4 hW4 HB3 HR3
        obtain ⟨⟨v1, v2⟩, -, -⟩ := HE4.out
        go_wp2_with fail
        refine (RI.out (by trivial) _).mono ?_
        rintro z w5 ⟨rfl, hb⟩
        have HB5 := Lib.hid (below_on HB4.out hb)
        have HR5 := Lib.hid (HR4.out.on hb)
        have HE5 := HE4.out.on hb
        clear hb HB4 HR4 HE4 v1 v2 RI
        obtain ⟨⟨v1, v2⟩, -, -⟩ := HE5
        obtain ⟨⟨r1, r2⟩, g1, g2⟩ := HR5.out
        cases R with
        | false =>
          obtain ⟨rfl, rfl, rfl⟩ : 0 = A ∧ 0 = B ∧ 13 = E := by have q := HT.out; simp  at q; exact q
          go_wp2_with fail
          refine at_pr (Q := fun W => bodyPost _ _ _ _ _ W) (Pr.put HR5.out 0 0) (below_put2 HB5.out (Nat.le_refl _) _ _) (fun W' HD' BB' => ?_)
          obtain ⟨⟨r1, r2⟩, -, -⟩ := HD'
          exact bodyPost_ret (v := .tuple #[.agg #[.int .u32 0, .int .i64 0], .int .i64 13]) (by simp [results, Tryd.results30, go_sem, r1, r2]) rfl ⟨rfl, BB'⟩
        | true =>
          obtain ⟨rfl, rfl, rfl⟩ : a = A ∧ n = B ∧ 0 = E := by have q := HT.out; simp  at q; exact q
          go_wp2_with fail
          refine at_pr (Q := fun W => bodyPost _ _ _ _ _ W) (Pr.put HR5.out a n) (below_put2 HB5.out (Nat.le_refl _) _ _) (fun W' HD' BB' => ?_)
          obtain ⟨⟨r1, r2⟩, -, -⟩ := HD'
          exact bodyPost_ret (v := .tuple #[.agg #[.int .u32 a, .int .i64 n], .int .i64 0]) (by simp [results, Tryd.results30, go_sem, r1, r2]) rfl ⟨rfl, BB'⟩
      · have q1' : (f != 0) = true := by simp; exact q1
        obtain ⟨⟨r1, r2⟩, g1, g2⟩ := HR3.out
        obtain ⟨rfl, rfl, rfl⟩ : 0 = A ∧ 0 = B ∧ f = E := by have q := HT.out; simp [q1] at q; exact q
        go_wp2_with fail
        refine at_pr (Q := fun W => bodyPost _ _ _ _ _ W) (Pr.put HR3.out 0 0) (below_put2 HB3.out (Nat.le_refl _) _ _) (fun W' HD' BB' => ?_)
        obtain ⟨⟨r1, r2⟩, -, -⟩ := HD'
        exact bodyPost_ret (v := .tuple #[.agg #[.int .u32 0, .int .i64 0], .int .i64 f]) (by simp [results, Tryd.results30, go_sem, r1, r2]) rfl ⟨rfl, BB'⟩
    · have q0' : (e != 0) = true := by simp; exact q0
      obtain ⟨⟨r1, r2⟩, g1, g2⟩ := HR2.out
      obtain ⟨rfl, rfl, rfl⟩ : 0 = A ∧ 0 = B ∧ e = E := by have q := HT.out; simp [q0] at q; exact q
      go_wp2_with fail
      refine at_pr (Q := fun W => bodyPost _ _ _ _ _ W) (Pr.put HR2.out 0 0) (below_put2 HB2.out (Nat.le_refl _) _ _) (fun W' HD' BB' => ?_)
      obtain ⟨⟨r1, r2⟩, -, -⟩ := HD'
      exact bodyPost_ret (v := .tuple #[.agg #[.int .u32 0, .int .i64 0], .int .i64 e]) (by simp [results, Tryd.results30, go_sem, r1, r2]) rfl ⟨rfl, BB'⟩
set_option maxRecDepth 100000 in
set_option maxHeartbeats 4000000 in
theorem gparse_core (s x y : ByteArray) (b : Bool) (a e n f : Int) (A B E : Int) (ha : 0 ≤ a ∧ a ≤ 65535) (hn : 0 ≤ n ∧ n ≤ 65535) (P : World → Prop) (HP : Hid (∀ W w, P W → Below W.heap.size W w → P w))
    (CU : Hid (∀ w, P w → Calls Tryd.prog 53 #[.string s, .string ⟨#[45]⟩] w (CutRet (x, y, b) w)))
    (NX : Hid (b = true → ∀ w, Calls Tryd.prog 20 #[.string x, .int .i64 65535] w fun z w' => z = .returned (.tuple #[.int .i64 a, .int .i64 e]) ∧ Below w.heap.size w w'))
    (NY : Hid (b = true → ∀ w, Calls Tryd.prog 20 #[.string y, .int .i64 65535] w fun z w' => z = .returned (.tuple #[.int .i64 n, .int .i64 f]) ∧ Below w.heap.size w w'))
    (HT : Hid ((if b = true then (if e = 0 then (if f = 0 then (if n < a then (0, 0, 14) else (a, n, 0)) else (0, 0, f)) else (0, 0, e)) else ((0 : Int), (0 : Int), (6 : Int))) = (A, B, E)))
    (w : World) (hw : P w) :
    Calls Tryd.prog 23 #[.string s] w fun z w' => z = .returned (.tuple #[gv A B, .int .i64 E]) ∧ Below w.heap.size w w' := by
  unfold gv
  have ca : IntKind.u16.wrap a = a := by rw [IntKind.wrap_u16]; omega
  have cn : IntKind.u16.wrap n = n := by rw [IntKind.wrap_u16]; omega
  obtain ⟨a0, a1⟩ := ha
  obtain ⟨n0, n1⟩ := hn
  obtain ⟨W0, hW0⟩ : ∃ W0, w.alloc (Obj.cells #[.int .u16 0, .int .u16 0] 47) = W0 := ⟨_, rfl⟩
  have hB0 : Below w.heap.size w W0 := by rw [← hW0]; exact below_al (Below.refl _ _) _
  have HR0 := Lib.hid (show Pr .u16 .u16 W0 w.heap.size 0 0 by rw [← hW0]; exact Pr.new _ _ _ _ _ _)
  have hP0 := Lib.hid (HP.out _ _ hw hB0)
  have HB0 := Lib.hid hB0
  clear hB0 hw
  go_enter Tryd.func23, Tryd.ntmps23
  go_upto_region 1 with fail
  clear hW0
  go_wp2_with fail
  refine (CU.out _ hP0.out).mono ?_
  rintro z w1 ⟨rfl, hb⟩
  have HB1 := Lib.hid (below_on HB0.out hb)
  have HR1 := Lib.hid (HR0.out.on hb)
  clear hb HB0 HR0 hP0 CU
  cases b with
  | false =>
    obtain ⟨⟨r1, r2⟩, g1, g2⟩ := HR1.out
    obtain ⟨rfl, rfl, rfl⟩ : 0 = A ∧ 0 = B ∧ 6 = E := by have q := HT.out; simp  at q; exact q
    go_wp2_with fail
    refine at_pr (Q := fun W => bodyPost _ _ _ _ _ W) (Pr.put HR1.out 0 0) (below_put2 HB1.out (Nat.le_refl _) _ _) (fun W' HD' BB' => ?_)
    obtain ⟨⟨r1, r2⟩, -, -⟩ := HD'
    exact bodyPost_ret (v := .tuple #[.agg #[.int .u16 0, .int .u16 0], .int .i64 6]) (by simp [results, Tryd.results23, go_sem, r1, r2]) rfl ⟨rfl, BB'⟩
  | true =>
    go_wp2_with fail
    refine (NX.out (by trivial) _).mono ?_
    rintro z w2 ⟨rfl, hb⟩
    have HB2 := Lib.hid (below_on HB1.out hb)
    have HR2 := Lib.hid (HR1.out.on hb)
    clear hb HB1 HR1 NX
    by_cases q0 : e = 0
    · subst q0
      go_wp2_with fail
      refine (NY.out (by trivial) _).mono ?_
      rintro z w3 ⟨rfl, hb⟩
      have HB3 := Lib.hid (below_on HB2.out hb)
      have HR3 := Lib.hid (HR2.out.on hb)
      clear hb HB2 HR2 NY
      obtain ⟨⟨r1, r2⟩, g1, g2⟩ := HR3.out
      by_cases q1 : f = 0
      · subst q1
        by_cases q2 : n < a
        · have q2' : decide (n < a) = true := decide_eq_true q2
          obtain ⟨rfl, rfl, rfl⟩ : 0 = A ∧ 0 = B ∧ 14 = E := by have q := HT.out; simp [q2] at q; exact q
          go_wp2_with fail
          refine at_pr (Q := fun W => bodyPost _ _ _ _ _ W) (Pr.put HR3.out 0 0) (below_put2 HB3.out (Nat.le_refl _) _ _) (fun W' HD' BB' => ?_)
          obtain ⟨⟨r1, r2⟩, -, -⟩ := HD'
          exact bodyPost_ret (v := .tuple #[.agg #[.int .u16 0, .int .u16 0], .int .i64 14]) (by simp [results, Tryd.results23, go_sem, r1, r2]) rfl ⟨rfl, BB'⟩
        · have q2' : decide (n < a) = false := decide_eq_false q2
          obtain ⟨rfl, rfl, rfl⟩ : a = A ∧ n = B ∧ 0 = E := by have q := HT.out; simp [q2] at q; exact q
          go_wp2_with fail
          refine at_pr (Q := fun W => bodyPost _ _ _ _ _ W) (Pr.put HR3.out a n) (below_put2 HB3.out (Nat.le_refl _) _ _) (fun W' HD' BB' => ?_)
          obtain ⟨⟨r1, r2⟩, -, -⟩ := HD'
          exact bodyPost_ret (v := .tuple #[.agg #[.int .u16 a, .int .u16 n], .int .i64 0]) (by simp [results, Tryd.results23, go_sem, r1, r2]) rfl ⟨rfl, BB'⟩
      · have q1' : (f != 0) = true := by simp; exact q1
        obtain ⟨rfl, rfl, rfl⟩ : 0 = A ∧ 0 = B ∧ f = E := by have q := HT.out; simp [q1] at q; exact q
        go_wp2_with fail
        refine at_pr (Q := fun W => bodyPost _ _ _ _ _ W) (Pr.put HR3.out 0 0) (below_put2 HB3.out (Nat.le_refl _) _ _) (fun W' HD' BB' => ?_)
        obtain ⟨⟨r1, r2⟩, -, -⟩ := HD'
        exact bodyPost_ret (v := .tuple #[.agg #[.int .u16 0, .int .u16 0], .int .i64 f]) (by simp [results, Tryd.results23, go_sem, r1, r2]) rfl ⟨rfl, BB'⟩
    · have q0' : (e != 0) = true := by simp; exact q0
      obtain ⟨⟨r1, r2⟩, g1, g2⟩ := HR2.out
      obtain ⟨rfl, rfl, rfl⟩ : 0 = A ∧ 0 = B ∧ e = E := by have q := HT.out; simp [q0] at q; exact q
      go_wp2_with fail
      refine at_pr (Q := fun W => bodyPost _ _ _ _ _ W) (Pr.put HR2.out 0 0) (below_put2 HB2.out (Nat.le_refl _) _ _) (fun W' HD' BB' => ?_)
      obtain ⟨⟨r1, r2⟩, -, -⟩ := HD'
      exact bodyPost_ret (v := .tuple #[.agg #[.int .u16 0, .int .u16 0], .int .i64 e]) (by simp [results, Tryd.results23, go_sem, r1, r2]) rfl ⟨rfl, BB'⟩
set_option maxRecDepth 100000 in
set_option maxHeartbeats 4000000 in
theorem rgparse_core (s x y : ByteArray) (b : Bool) (a e n f : Int) (A B E : Int) (ha : 0 ≤ a ∧ a ≤ 65535) (hn : 0 ≤ n ∧ n ≤ 65535) (P : World → Prop) (HP : Hid (∀ W w, P W → Below W.heap.size W w → P w))
    (CU : Hid (∀ w, P w → Calls Tryd.prog 57 #[.string s, .int .u8 45] w (CutRet (x, y, b) w)))
    (NX : Hid (b = true → ∀ w, Calls Tryd.prog 21 #[.string x, .int .i64 65535] w fun z w' => z = .returned (.tuple #[.int .i64 a, .int .i64 e]) ∧ Below w.heap.size w w'))
    (NY : Hid (b = true → ∀ w, Calls Tryd.prog 21 #[.string y, .int .i64 65535] w fun z w' => z = .returned (.tuple #[.int .i64 n, .int .i64 f]) ∧ Below w.heap.size w w'))
    (HT : Hid ((if b = true then (if e = 0 then (if f = 0 then (if n < a then (0, 0, 14) else (a, n, 0)) else (0, 0, f)) else (0, 0, e)) else ((0 : Int), (0 : Int), (6 : Int))) = (A, B, E)))
    (w : World) (hw : P w) :
    Calls Tryd.prog 31 #[.string s] w fun z w' => z = .returned (.tuple #[gv A B, .int .i64 E]) ∧ Below w.heap.size w w' := by
  unfold gv
  have ca : IntKind.u16.wrap a = a := by rw [IntKind.wrap_u16]; omega
  have cn : IntKind.u16.wrap n = n := by rw [IntKind.wrap_u16]; omega
  obtain ⟨a0, a1⟩ := ha
  obtain ⟨n0, n1⟩ := hn
  obtain ⟨W0, hW0⟩ : ∃ W0, w.alloc (Obj.cells #[.int .u16 0, .int .u16 0] 47) = W0 := ⟨_, rfl⟩
  have hB0 : Below w.heap.size w W0 := by rw [← hW0]; exact below_al (Below.refl _ _) _
  have HR0 := Lib.hid (show Pr .u16 .u16 W0 w.heap.size 0 0 by rw [← hW0]; exact Pr.new _ _ _ _ _ _)
  have hP0 := Lib.hid (HP.out _ _ hw hB0)
  have HB0 := Lib.hid hB0
  clear hB0 hw
  go_enter Tryd.func31, Tryd.ntmps31
  go_upto_region 1 with fail
  clear hW0
  go_wp2_with fail
  refine (CU.out _ hP0.out).mono ?_
  rintro z w1 ⟨rfl, hb⟩
  have HB1 := Lib.hid (below_on HB0.out hb)
  have HR1 := Lib.hid (HR0.out.on hb)
  clear hb HB0 HR0 hP0 CU
  cases b with
  | false =>
    obtain ⟨⟨r1, r2⟩, g1, g2⟩ := HR1.out
    obtain ⟨rfl, rfl, rfl⟩ : 0 = A ∧ 0 = B ∧ 6 = E := by have q := HT.out; simp  at q; exact q
    go_wp2_with fail
    refine at_pr (Q := fun W => bodyPost _ _ _ _ _ W) (Pr.put HR1.out 0 0) (below_put2 HB1.out (Nat.le_refl _) _ _) (fun W' HD' BB' => ?_)
    obtain ⟨⟨r1, r2⟩, -, -⟩ := HD'
    exact bodyPost_ret (v := .tuple #[.agg #[.int .u16 0, .int .u16 0], .int .i64 6]) (by simp [results, Tryd.results31, go_sem, r1, r2]) rfl ⟨rfl, BB'⟩
  | true =>
    go_wp2_with fail
    refine (NX.out (by trivial) _).mono ?_
    rintro z w2 ⟨rfl, hb⟩
    have HB2 := Lib.hid (below_on HB1.out hb)
    have HR2 := Lib.hid (HR1.out.on hb)
    clear hb HB1 HR1 NX
    by_cases q0 : e = 0
    · subst q0
      go_wp2_with fail
      refine (NY.out (by trivial) _).mono ?_
      rintro z w3 ⟨rfl, hb⟩
      have HB3 := Lib.hid (below_on HB2.out hb)
      have HR3 := Lib.hid (HR2.out.on hb)
      clear hb HB2 HR2 NY
      obtain ⟨⟨r1, r2⟩, g1, g2⟩ := HR3.out
      by_cases q1 : f = 0
      · subst q1
        by_cases q2 : n < a
        · have q2' : decide (n < a) = true := decide_eq_true q2
          obtain ⟨rfl, rfl, rfl⟩ : 0 = A ∧ 0 = B ∧ 14 = E := by have q := HT.out; simp [q2] at q; exact q
          go_wp2_with fail
          refine at_pr (Q := fun W => bodyPost _ _ _ _ _ W) (Pr.put HR3.out 0 0) (below_put2 HB3.out (Nat.le_refl _) _ _) (fun W' HD' BB' => ?_)
          obtain ⟨⟨r1, r2⟩, -, -⟩ := HD'
          exact bodyPost_ret (v := .tuple #[.agg #[.int .u16 0, .int .u16 0], .int .i64 14]) (by simp [results, Tryd.results31, go_sem, r1, r2]) rfl ⟨rfl, BB'⟩
        · have q2' : decide (n < a) = false := decide_eq_false q2
          obtain ⟨rfl, rfl, rfl⟩ : a = A ∧ n = B ∧ 0 = E := by have q := HT.out; simp [q2] at q; exact q
          go_wp2_with fail
          refine at_pr (Q := fun W => bodyPost _ _ _ _ _ W) (Pr.put HR3.out a n) (below_put2 HB3.out (Nat.le_refl _) _ _) (fun W' HD' BB' => ?_)
          obtain ⟨⟨r1, r2⟩, -, -⟩ := HD'
          exact bodyPost_ret (v := .tuple #[.agg #[.int .u16 a, .int .u16 n], .int .i64 0]) (by simp [results, Tryd.results31, go_sem, r1, r2]) rfl ⟨rfl, BB'⟩
      · have q1' : (f != 0) = true := by simp; exact q1
        obtain ⟨rfl, rfl, rfl⟩ : 0 = A ∧ 0 = B ∧ f = E := by have q := HT.out; simp [q1] at q; exact q
        go_wp2_with fail
        refine at_pr (Q := fun W => bodyPost _ _ _ _ _ W) (Pr.put HR3.out 0 0) (below_put2 HB3.out (Nat.le_refl _) _ _) (fun W' HD' BB' => ?_)
        obtain ⟨⟨r1, r2⟩, -, -⟩ := HD'
        exact bodyPost_ret (v := .tuple #[.agg #[.int .u16 0, .int .u16 0], .int .i64 f]) (by simp [results, Tryd.results31, go_sem, r1, r2]) rfl ⟨rfl, BB'⟩
    · have q0' : (e != 0) = true := by simp; exact q0
      obtain ⟨⟨r1, r2⟩, g1, g2⟩ := HR2.out
      obtain ⟨rfl, rfl, rfl⟩ : 0 = A ∧ 0 = B ∧ e = E := by have q := HT.out; simp [q0] at q; exact q
      go_wp2_with fail
      refine at_pr (Q := fun W => bodyPost _ _ _ _ _ W) (Pr.put HR2.out 0 0) (below_put2 HB2.out (Nat.le_refl _) _ _) (fun W' HD' BB' => ?_)
      obtain ⟨⟨r1, r2⟩, -, -⟩ := HD'
      exact bodyPost_ret (v := .tuple #[.agg #[.int .u16 0, .int .u16 0], .int .i64 e]) (by simp [results, Tryd.results31, go_sem, r1, r2]) rfl ⟨rfl, BB'⟩
set_option maxRecDepth 100000 in
set_option maxHeartbeats 4000000 in
theorem pprint_core (a n : Int) (ha : 0 ≤ a ∧ a < 4294967296) (hn : 0 ≤ n ∧ n ≤ 32) (t1 t2 R : ByteArray) (s1 : t1.size ≤ 100) (s2 : t2.size ≤ 100) (P : World → Prop) (HP : Hid (∀ W w, P W → Below W.heap.size W w → P w))
    (C1 : Hid (∀ w, P w → Calls Tryd.prog 14 #[.int .u32 a] w fun e w' => e = .returned (.string t1) ∧ Below w.heap.size w w'))
    (C2 : Hid (∀ w, P w → Calls Tryd.prog 45 #[.int .i64 n] w fun e w' => e = .returned (.string t2) ∧ Below w.heap.size w w'))
    (hR : Hid (t1 ++ ⟨#[47]⟩ ++ t2 = R)) (w : World) (hw0 : P w) :
    Calls Tryd.prog 27 #[pv a n] w fun e w' => e = .returned (.string R) ∧ Below w.heap.size w w' := by
  unfold pv
  obtain ⟨W0, hW0⟩ : ∃ W0, w.alloc (Obj.cells #[.int .u32 a, .int .i64 n] 45) = W0 := ⟨_, rfl⟩
  have HR0 := (show Pr .u32 .i64 W0 w.heap.size a n by rw [← hW0]; exact Pr.new _ _ _ _ _ _)
  have HB0 := Lib.hid (show Below w.heap.size w W0 by rw [← hW0]; exact below_al (Below.refl _ _) _)
  have hw := Lib.hid (HP.out _ _ hw0 HB0.out)
  clear hw0
  obtain ⟨⟨za0, za1⟩, -, -⟩ := HR0
  have k1 : ¬ 9223372036854775807 < t1.size + 1 := by omega
  have k2 : ¬ 9223372036854775807 < t1.size + 1 + t2.size := by omega
  have ea : IntKind.i64.wrap a = a := by rw [IntKind.wrap_i64]; omega
  have en : IntKind.i64.wrap n = n := by rw [IntKind.wrap_i64]; omega
  go_enter Tryd.func27, Tryd.ntmps27
  go_upto_region 1 with fail
  clear hW0
  refine wp_region_noPanic ?_
  refine wp_region_along (S := fun w' => Below W0.heap.size W0 w' ∧ ∀ b o, (W0.cell? ⟨b, o, none⟩).isSome = true → w'.cell? ⟨b, o, none⟩ = W0.cell? ⟨b, o, none⟩) ([(0, true), (1, true), (4, true), (5, true), (2, false), (3, true), (6, false), (7, true), (8, true)]) (by kernel_rfl) (by as_aux_lemma => kernel_rfl) (by kernel_rfl) (by kernel_rfl) (by as_aux_lemma => kernel_rfl) (by as_aux_lemma => kernel_rfl) (fun _ _ _ _ _ h => h) (below_kb (Below.refl _ _).drew) (fun hH => ?_)
  simp only [stepsOf, pickOp]
  iterate 4 (first | (refine along_skip (by rfl) ?_; try simp only [Act.put, List.setIfInBounds_toArray, List.set_cons_zero, List.set_cons_succ]) | (refine along_pure ?_ (by rfl) (fun w hSw => ?_) ?_; rotate_left; ((try dsimp only at hSw); go_simp; try with_reducible rfl); try simp only [Act.put, List.setIfInBounds_toArray, List.set_cons_zero, List.set_cons_succ]))
  refine along_bar (fun K hK => ?_)
  go_simp
  refine (C1.out _ (HP.out _ _ hw.out hH.1)).mono ?_
  rintro e w' ⟨rfl, hbx⟩
  try go_wp2_with fail
  refine hK.out _ _ (below_kb (below_on hH.1 hbx)) (fun hH' => ?_)
  clear hK K hH
  have hH := hH'
  clear hH'
  clear hbx
  try simp only [Act.put, List.setIfInBounds_toArray, List.set_cons_zero, List.set_cons_succ]
  iterate 1 (first | (refine along_skip (by rfl) ?_; try simp only [Act.put, List.setIfInBounds_toArray, List.set_cons_zero, List.set_cons_succ]) | (refine along_pure ?_ (by rfl) (fun w hSw => ?_) ?_; rotate_left; ((try dsimp only at hSw); go_simp; try with_reducible rfl); try simp only [Act.put, List.setIfInBounds_toArray, List.set_cons_zero, List.set_cons_succ]))
  refine along_bar (fun K hK => ?_)
  go_simp
  refine (C2.out _ (HP.out _ _ hw.out hH.1)).mono ?_
  rintro e w' ⟨rfl, hbx⟩
  try go_wp2_with fail
  refine hK.out _ _ (below_kb (below_on hH.1 hbx)) (fun hH' => ?_)
  clear hK K hH
  have hH := hH'
  clear hH'
  clear hbx
  try simp only [Act.put, List.setIfInBounds_toArray, List.set_cons_zero, List.set_cons_succ]
  iterate 2 (first | (refine along_skip (by rfl) ?_; try simp only [Act.put, List.setIfInBounds_toArray, List.set_cons_zero, List.set_cons_succ]) | (refine along_pure ?_ (by rfl) (fun w hSw => ?_) ?_; rotate_left; ((try dsimp only at hSw); go_simp; try with_reducible rfl); try simp only [Act.put, List.setIfInBounds_toArray, List.set_cons_zero, List.set_cons_succ]))
  refine along_end (NoPanic.normal ?_)
  have HB1 := Lib.hid (below_on HB0.out hH.1)
  clear hH za0 za1
  go_wp2
  go_ret
  exact ⟨by rw [← hR.out]; rfl, HB1.out⟩
set_option maxRecDepth 100000 in
set_option maxHeartbeats 4000000 in
theorem rpprint_core (a n : Int) (ha : 0 ≤ a ∧ a < 4294967296) (hn : 0 ≤ n ∧ n ≤ 32) (t1 t2 R : ByteArray) (s1 : t1.size ≤ 100) (s2 : t2.size ≤ 100) (P : World → Prop) (HP : Hid (∀ W w, P W → Below W.heap.size W w → P w))
    (C1 : Hid (∀ w, P w → Calls Tryd.prog 17 #[.int .u32 a] w fun e w' => e = .returned (.string t1) ∧ Below w.heap.size w w'))
    (C2 : Hid (∀ w, P w → Calls Tryd.prog 51 #[.int .i64 n] w fun e w' => e = .returned (.string t2) ∧ Below w.heap.size w w'))
    (hR : Hid (t1 ++ ⟨#[47]⟩ ++ t2 = R)) (w : World) (hw0 : P w) :
    Calls Tryd.prog 29 #[pv a n] w fun e w' => e = .returned (.string R) ∧ Below w.heap.size w w' := by
  unfold pv
  obtain ⟨W0, hW0⟩ : ∃ W0, w.alloc (Obj.cells #[.int .u32 a, .int .i64 n] 45) = W0 := ⟨_, rfl⟩
  have HR0 := (show Pr .u32 .i64 W0 w.heap.size a n by rw [← hW0]; exact Pr.new _ _ _ _ _ _)
  have HB0 := Lib.hid (show Below w.heap.size w W0 by rw [← hW0]; exact below_al (Below.refl _ _) _)
  have hw := Lib.hid (HP.out _ _ hw0 HB0.out)
  clear hw0
  obtain ⟨⟨za0, za1⟩, -, -⟩ := HR0
  have k1 : ¬ 9223372036854775807 < t1.size + 1 := by omega
  have k2 : ¬ 9223372036854775807 < t1.size + 1 + t2.size := by omega
  have ea : IntKind.i64.wrap a = a := by rw [IntKind.wrap_i64]; omega
  have en : IntKind.i64.wrap n = n := by rw [IntKind.wrap_i64]; omega
  go_enter Tryd.func29, Tryd.ntmps29
  go_upto_region 1 with fail
  clear hW0
  refine wp_region_noPanic ?_
  refine wp_region_along (S := fun w' => Below W0.heap.size W0 w' ∧ ∀ b o, (W0.cell? ⟨b, o, none⟩).isSome = true → w'.cell? ⟨b, o, none⟩ = W0.cell? ⟨b, o, none⟩) ([(0, true), (1, true), (4, true), (5, true), (2, false), (3, true), (6, false), (7, true), (8, true)]) (by kernel_rfl) (by as_aux_lemma => kernel_rfl) (by kernel_rfl) (by kernel_rfl) (by as_aux_lemma => kernel_rfl) (by as_aux_lemma => kernel_rfl) (fun _ _ _ _ _ h => h) (below_kb (Below.refl _ _).drew) (fun hH => ?_)
  simp only [stepsOf, pickOp]
  iterate 4 (first | (refine along_skip (by rfl) ?_; try simp only [Act.put, List.setIfInBounds_toArray, List.set_cons_zero, List.set_cons_succ]) | (refine along_pure ?_ (by rfl) (fun w hSw => ?_) ?_; rotate_left; ((try dsimp only at hSw); go_simp; try with_reducible rfl); try simp only [Act.put, List.setIfInBounds_toArray, List.set_cons_zero, List.set_cons_succ]))
  refine along_bar (fun K hK => ?_)
  go_simp
  refine (C1.out _ (HP.out _ _ hw.out hH.1)).mono ?_
  rintro e w' ⟨rfl, hbx⟩
  try go_wp2_with fail
  refine hK.out _ _ (below_kb (below_on hH.1 hbx)) (fun hH' => ?_)
  clear hK K hH
  have hH := hH'
  clear hH'
  clear hbx
  try simp only [Act.put, List.setIfInBounds_toArray, List.set_cons_zero, List.set_cons_succ]
  iterate 1 (first | (refine along_skip (by rfl) ?_; try simp only [Act.put, List.setIfInBounds_toArray, List.set_cons_zero, List.set_cons_succ]) | (refine along_pure ?_ (by rfl) (fun w hSw => ?_) ?_; rotate_left; ((try dsimp only at hSw); go_simp; try with_reducible rfl); try simp only [Act.put, List.setIfInBounds_toArray, List.set_cons_zero, List.set_cons_succ]))
  refine along_bar (fun K hK => ?_)
  go_simp
  refine (C2.out _ (HP.out _ _ hw.out hH.1)).mono ?_
  rintro e w' ⟨rfl, hbx⟩
  try go_wp2_with fail
  refine hK.out _ _ (below_kb (below_on hH.1 hbx)) (fun hH' => ?_)
  clear hK K hH
  have hH := hH'
  clear hH'
  clear hbx
  try simp only [Act.put, List.setIfInBounds_toArray, List.set_cons_zero, List.set_cons_succ]
  iterate 2 (first | (refine along_skip (by rfl) ?_; try simp only [Act.put, List.setIfInBounds_toArray, List.set_cons_zero, List.set_cons_succ]) | (refine along_pure ?_ (by rfl) (fun w hSw => ?_) ?_; rotate_left; ((try dsimp only at hSw); go_simp; try with_reducible rfl); try simp only [Act.put, List.setIfInBounds_toArray, List.set_cons_zero, List.set_cons_succ]))
  refine along_end (NoPanic.normal ?_)
  have HB1 := Lib.hid (below_on HB0.out hH.1)
  clear hH za0 za1
  go_wp2
  go_ret
  exact ⟨by rw [← hR.out]; rfl, HB1.out⟩
set_option maxRecDepth 100000 in
set_option maxHeartbeats 4000000 in
theorem gprint_core (a n : Int) (ha : 0 ≤ a ∧ a < 65536) (hn : 0 ≤ n ∧ n < 65536) (t1 t2 R : ByteArray) (s1 : t1.size ≤ 100) (s2 : t2.size ≤ 100) (P : World → Prop) (HP : Hid (∀ W w, P W → Below W.heap.size W w → P w))
    (C1 : Hid (∀ w, P w → Calls Tryd.prog 45 #[.int .i64 a] w fun e w' => e = .returned (.string t1) ∧ Below w.heap.size w w'))
    (C2 : Hid (∀ w, P w → Calls Tryd.prog 45 #[.int .i64 n] w fun e w' => e = .returned (.string t2) ∧ Below w.heap.size w w'))
    (hR : Hid (t1 ++ ⟨#[45]⟩ ++ t2 = R)) (w : World) (hw0 : P w) :
    Calls Tryd.prog 22 #[gv a n] w fun e w' => e = .returned (.string R) ∧ Below w.heap.size w w' := by
  unfold gv
  obtain ⟨W0, hW0⟩ : ∃ W0, w.alloc (Obj.cells #[.int .u16 a, .int .u16 n] 47) = W0 := ⟨_, rfl⟩
  have HR0 := (show Pr .u16 .u16 W0 w.heap.size a n by rw [← hW0]; exact Pr.new _ _ _ _ _ _)
  have HB0 := Lib.hid (show Below w.heap.size w W0 by rw [← hW0]; exact below_al (Below.refl _ _) _)
  have hw := Lib.hid (HP.out _ _ hw0 HB0.out)
  clear hw0
  obtain ⟨⟨za0, za1⟩, -, -⟩ := HR0
  have k1 : ¬ 9223372036854775807 < t1.size + 1 := by omega
  have k2 : ¬ 9223372036854775807 < t1.size + 1 + t2.size := by omega
  have ea : IntKind.i64.wrap a = a := by rw [IntKind.wrap_i64]; omega
  have en : IntKind.i64.wrap n = n := by rw [IntKind.wrap_i64]; omega
  go_enter Tryd.func22, Tryd.ntmps22
  go_upto_region 1 with fail
  clear hW0
  refine wp_region_noPanic ?_
  refine wp_region_along (S := fun w' => Below W0.heap.size W0 w' ∧ ∀ b o, (W0.cell? ⟨b, o, none⟩).isSome = true → w'.cell? ⟨b, o, none⟩ = W0.cell? ⟨b, o, none⟩) ([(0, true), (1, true), (2, true), (5, true), (6, true), (7, true), (3, false), (4, true), (8, false), (9, true), (10, true)]) (by kernel_rfl) (by as_aux_lemma => kernel_rfl) (by kernel_rfl) (by kernel_rfl) (by as_aux_lemma => kernel_rfl) (by as_aux_lemma => kernel_rfl) (fun _ _ _ _ _ h => h) (below_kb (Below.refl _ _).drew) (fun hH => ?_)
  simp only [stepsOf, pickOp]
  iterate 6 (first | (refine along_skip (by rfl) ?_; try simp only [Act.put, List.setIfInBounds_toArray, List.set_cons_zero, List.set_cons_succ]) | (refine along_pure ?_ (by rfl) (fun w hSw => ?_) ?_; rotate_left; ((try dsimp only at hSw); go_simp; try with_reducible rfl); try simp only [Act.put, List.setIfInBounds_toArray, List.set_cons_zero, List.set_cons_succ]))
  refine along_bar (fun K hK => ?_)
  go_simp
  refine (C1.out _ (HP.out _ _ hw.out hH.1)).mono ?_
  rintro e w' ⟨rfl, hbx⟩
  try go_wp2_with fail
  refine hK.out _ _ (below_kb (below_on hH.1 hbx)) (fun hH' => ?_)
  clear hK K hH
  have hH := hH'
  clear hH'
  clear hbx
  try simp only [Act.put, List.setIfInBounds_toArray, List.set_cons_zero, List.set_cons_succ]
  iterate 1 (first | (refine along_skip (by rfl) ?_; try simp only [Act.put, List.setIfInBounds_toArray, List.set_cons_zero, List.set_cons_succ]) | (refine along_pure ?_ (by rfl) (fun w hSw => ?_) ?_; rotate_left; ((try dsimp only at hSw); go_simp; try with_reducible rfl); try simp only [Act.put, List.setIfInBounds_toArray, List.set_cons_zero, List.set_cons_succ]))
  refine along_bar (fun K hK => ?_)
  go_simp
  refine (C2.out _ (HP.out _ _ hw.out hH.1)).mono ?_
  rintro e w' ⟨rfl, hbx⟩
  try go_wp2_with fail
  refine hK.out _ _ (below_kb (below_on hH.1 hbx)) (fun hH' => ?_)
  clear hK K hH
  have hH := hH'
  clear hH'
  clear hbx
  try simp only [Act.put, List.setIfInBounds_toArray, List.set_cons_zero, List.set_cons_succ]
  iterate 2 (first | (refine along_skip (by rfl) ?_; try simp only [Act.put, List.setIfInBounds_toArray, List.set_cons_zero, List.set_cons_succ]) | (refine along_pure ?_ (by rfl) (fun w hSw => ?_) ?_; rotate_left; ((try dsimp only at hSw); go_simp; try with_reducible rfl); try simp only [Act.put, List.setIfInBounds_toArray, List.set_cons_zero, List.set_cons_succ]))
  refine along_end (NoPanic.normal ?_)
  have HB1 := Lib.hid (below_on HB0.out hH.1)
  clear hH za0 za1
  go_wp2
  go_ret
  exact ⟨by rw [← hR.out]; rfl, HB1.out⟩
set_option maxRecDepth 100000 in
set_option maxHeartbeats 4000000 in
theorem rgprint_core (a n : Int) (ha : 0 ≤ a ∧ a < 65536) (hn : 0 ≤ n ∧ n < 65536) (t1 t2 R : ByteArray) (s1 : t1.size ≤ 100) (s2 : t2.size ≤ 100) (P : World → Prop) (HP : Hid (∀ W w, P W → Below W.heap.size W w → P w))
    (C1 : Hid (∀ w, P w → Calls Tryd.prog 51 #[.int .i64 a] w fun e w' => e = .returned (.string t1) ∧ Below w.heap.size w w'))
    (C2 : Hid (∀ w, P w → Calls Tryd.prog 51 #[.int .i64 n] w fun e w' => e = .returned (.string t2) ∧ Below w.heap.size w w'))
    (hR : Hid (t1 ++ ⟨#[45]⟩ ++ t2 = R)) (w : World) (hw0 : P w) :
    Calls Tryd.prog 24 #[gv a n] w fun e w' => e = .returned (.string R) ∧ Below w.heap.size w w' := by
  unfold gv
  obtain ⟨W0, hW0⟩ : ∃ W0, w.alloc (Obj.cells #[.int .u16 a, .int .u16 n] 47) = W0 := ⟨_, rfl⟩
  have HR0 := (show Pr .u16 .u16 W0 w.heap.size a n by rw [← hW0]; exact Pr.new _ _ _ _ _ _)
  have HB0 := Lib.hid (show Below w.heap.size w W0 by rw [← hW0]; exact below_al (Below.refl _ _) _)
  have hw := Lib.hid (HP.out _ _ hw0 HB0.out)
  clear hw0
  obtain ⟨⟨za0, za1⟩, -, -⟩ := HR0
  have k1 : ¬ 9223372036854775807 < t1.size + 1 := by omega
  have k2 : ¬ 9223372036854775807 < t1.size + 1 + t2.size := by omega
  have ea : IntKind.i64.wrap a = a := by rw [IntKind.wrap_i64]; omega
  have en : IntKind.i64.wrap n = n := by rw [IntKind.wrap_i64]; omega
  go_enter Tryd.func24, Tryd.ntmps24
  go_upto_region 1 with fail
  clear hW0
  refine wp_region_noPanic ?_
  refine wp_region_along (S := fun w' => Below W0.heap.size W0 w' ∧ ∀ b o, (W0.cell? ⟨b, o, none⟩).isSome = true → w'.cell? ⟨b, o, none⟩ = W0.cell? ⟨b, o, none⟩) ([(0, true), (1, true), (2, true), (5, true), (6, true), (7, true), (3, false), (4, true), (8, false), (9, true), (10, true)]) (by kernel_rfl) (by as_aux_lemma => kernel_rfl) (by kernel_rfl) (by kernel_rfl) (by as_aux_lemma => kernel_rfl) (by as_aux_lemma => kernel_rfl) (fun _ _ _ _ _ h => h) (below_kb (Below.refl _ _).drew) (fun hH => ?_)
  simp only [stepsOf, pickOp]
  iterate 6 (first | (refine along_skip (by rfl) ?_; try simp only [Act.put, List.setIfInBounds_toArray, List.set_cons_zero, List.set_cons_succ]) | (refine along_pure ?_ (by rfl) (fun w hSw => ?_) ?_; rotate_left; ((try dsimp only at hSw); go_simp; try with_reducible rfl); try simp only [Act.put, List.setIfInBounds_toArray, List.set_cons_zero, List.set_cons_succ]))
  refine along_bar (fun K hK => ?_)
  go_simp
  refine (C1.out _ (HP.out _ _ hw.out hH.1)).mono ?_
  rintro e w' ⟨rfl, hbx⟩
  try go_wp2_with fail
  refine hK.out _ _ (below_kb (below_on hH.1 hbx)) (fun hH' => ?_)
  clear hK K hH
  have hH := hH'
  clear hH'
  clear hbx
  try simp only [Act.put, List.setIfInBounds_toArray, List.set_cons_zero, List.set_cons_succ]
  iterate 1 (first | (refine along_skip (by rfl) ?_; try simp only [Act.put, List.setIfInBounds_toArray, List.set_cons_zero, List.set_cons_succ]) | (refine along_pure ?_ (by rfl) (fun w hSw => ?_) ?_; rotate_left; ((try dsimp only at hSw); go_simp; try with_reducible rfl); try simp only [Act.put, List.setIfInBounds_toArray, List.set_cons_zero, List.set_cons_succ]))
  refine along_bar (fun K hK => ?_)
  go_simp
  refine (C2.out _ (HP.out _ _ hw.out hH.1)).mono ?_
  rintro e w' ⟨rfl, hbx⟩
  try go_wp2_with fail
  refine hK.out _ _ (below_kb (below_on hH.1 hbx)) (fun hH' => ?_)
  clear hK K hH
  have hH := hH'
  clear hH'
  clear hbx
  try simp only [Act.put, List.setIfInBounds_toArray, List.set_cons_zero, List.set_cons_succ]
  iterate 2 (first | (refine along_skip (by rfl) ?_; try simp only [Act.put, List.setIfInBounds_toArray, List.set_cons_zero, List.set_cons_succ]) | (refine along_pure ?_ (by rfl) (fun w hSw => ?_) ?_; rotate_left; ((try dsimp only at hSw); go_simp; try with_reducible rfl); try simp only [Act.put, List.setIfInBounds_toArray, List.set_cons_zero, List.set_cons_succ]))
  refine along_end (NoPanic.normal ?_)
  have HB1 := Lib.hid (below_on HB0.out hH.1)
  clear hH za0 za1
  go_wp2
  go_ret
  exact ⟨by rw [← hR.out]; rfl, HB1.out⟩
end Go.Proofs.YtlmeagnegakifaaDoor
