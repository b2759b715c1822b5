/- HdrTexts' and HdrReads' calls answer true. -/
import Derived.Test.YtlmeagnegakifaaDoorH18
import Derived.Test.YtlmeagnegakifaaDoorH24
import Derived.Test.YtlmeagnegakifaaDoorH23
namespace Go.Proofs.YtlmeagnegakifaaDoor
open Go.RowKit
set_option linter.unusedVariables false

def SRet (t : ByteArray) (w : World) (e : Ending) (w' : World) : Prop := e = .returned (.string t) ∧ Below w.heap.size w w'
theorem addrT_size (a : Nat) (ha : a < 4294967296) : (addrT a).size ≤ 100 := by
  have e : (addrT a).size = (addrT a).data.toList.length := by rw [Array.length_toList]; rfl
  have d := fun n (hn : n < 65536) => dd_len10 n hn
  have d1 := d (a / 16777216) (by omega)
  have d2 := d (a / 65536 % 256) (by omega)
  have d3 := d (a / 256 % 256) (by omega)
  have d4 := d (a % 256) (by omega)
  rw [e, addrT_list]
  simp only [j4, List.length_append, List.length_cons]
  omega
theorem lineT_eq (d s p x y : Nat) : (addrT d) ++ ⟨#[32]⟩ ++ (addrT s) ++ ⟨#[32]⟩ ++ dd p ++ ⟨#[32]⟩ ++ dd x ++ ⟨#[32]⟩ ++ dd y = lineT d s p x y := by
  apply ByteArray.ext
  apply Array.ext'
  rw [lineT_list]
  simp [j5, j4, dd]
theorem lineT_join (d s p x y : Nat) : (⟨(Lib.join ([addrT d, addrT s, dd p, dd x, dd y].map (·.data.toList)) [32]).toArray⟩ : ByteArray) = lineT d s p x y := by
  rw [lineT, ← join_j5]; rfl
theorem join5 (t1 t2 t3 t4 t5 R : ByteArray) (hR : (⟨(Lib.join ([t1, t2, t3, t4, t5].map (·.data.toList)) [32]).toArray⟩ : ByteArray) = R) (hl : (Lib.join ([t1, t2, t3, t4, t5].map (·.data.toList)) [32]).length ≤ 140737488355328) (w0 : World) :
    Calls Tryd.prog 46 #[.slice (some ⟨w0.heap.size, 0, none⟩) 5 5, .string ⟨#[32]⟩] (w0.alloc (.cells #[.string t1, .string t2, .string t3, .string t4, .string t5] 9)) fun e w' => e = .returned (.string R) ∧ Below (w0.alloc (.cells #[.string t1, .string t2, .string t3, .string t4, .string t5] 9)).heap.size (w0.alloc (.cells #[.string t1, .string t2, .string t3, .string t4, .string t5] 9)) w' := by
  have h := Tryd.strings_Join w0.heap.size 0 5 [t1, t2, t3, t4, t5] ⟨#[32]⟩ (w0.alloc (.cells #[.string t1, .string t2, .string t3, .string t4, .string t5] 9)) ?_ (by simp) (by simp) (by simp) hl
  · rw [← hR]; exact h
  intro j x hj
  match j, hj with
  | 0, hj => simp at hj; subst hj; simp [go_sem]
  | 1, hj => simp at hj; subst hj; simp [go_sem]
  | 2, hj => simp at hj; subst hj; simp [go_sem]
  | 3, hj => simp at hj; subst hj; simp [go_sem]
  | 4, hj => simp at hj; subst hj; simp [go_sem]
theorem print_any (d s p x y : Nat) (hd : d < 4294967296) (hs : s < 4294967296) (hp : p < 256) (hx : x < 65536) (hy : y < 65536) (w : World) (ht : Txt w) :
    Calls Tryd.prog 11 #[hv d s p x y] w (SRet (lineT d s p x y) w) := by
  have hl : (Lib.join ([addrT d, addrT s, dd p, dd x, dd y].map (·.data.toList)) [32]).length ≤ 140737488355328 := by
    have z := fun (t : ByteArray) => (show t.data.toList.length = t.size by rw [Array.length_toList]; rfl)
    have a1 := addrT_size d hd
    have a2 := addrT_size s hs
    have a3 := dd_size p (by omega)
    have a4 := dd_size x hx
    have a5 := dd_size y hy
    simp only [List.map_cons, List.map_nil]
    rw [join_j5]
    simp only [j5, j4, List.length_append, List.length_cons, z]
    omega
  exact print_core d s p x y (addrT d) (addrT s) (dd p) (dd x) (dd y) (lineT d s p x y) Txt (fun _ _ h hb => h.on hb) (by omega) (by omega) (by omega) (by omega) (by omega) (by omega)
    (fun w h => addr_any d hd w h) (fun w h => addr_any s hs w h) (fun w h => itoa_any p (by omega) w h) (fun w h => itoa_any x (by omega) w h) (fun w h => itoa_any y (by omega) w h)
    (fun w0 => join5 _ _ _ _ _ _ (lineT_join d s p x y) hl w0) w ht
theorem rprint_any (d s p x y : Nat) (hd : d < 4294967296) (hs : s < 4294967296) (hp : p < 256) (hx : x < 65536) (hy : y < 65536) (w : World) :
    Calls Tryd.prog 16 #[hv d s p x y] w (SRet (lineT d s p x y) w) :=
  rprint_core d s p x y (addrT d) (addrT s) (dd p) (dd x) (dd y) (lineT d s p x y) (by omega) (by omega) (by omega) (by omega) (by omega) (by omega) (addrT_size d hd) (addrT_size s hs) (Nat.le_trans (dd_size p (by omega)) (by omega)) (Nat.le_trans (dd_size x hx) (by omega)) (Nat.le_trans (dd_size y hy) (by omega))
    (fun w => raddr_any d hd w) (fun w => raddr_any s hs w) (fun w => rdig_any p (by omega) w) (fun w => rdig_any x hx w) (fun w => rdig_any y hy w) (lineT_eq d s p x y) w
theorem Hd.new (w : World) (t : TypeId) (u1 u2 u3 u4 u5 : Int) : Hd (w.alloc (Obj.cells #[.int .u32 u1, .int .u32 u2, .int .u8 u3, .int .u16 u4, .int .u16 u5] t)) w.heap.size u1 u2 u3 u4 u5 :=
  ⟨⟨by simp [go_sem], by simp [go_sem], by simp [go_sem], by simp [go_sem], by simp [go_sem]⟩, by simp [go_sem], by simp [go_sem], by simp [go_sem], by simp [go_sem], by simp [go_sem]⟩
set_option maxRecDepth 100000 in
set_option maxHeartbeats 4000000 in
theorem texts_core (a1 a2 a3 a4 a5 : Int) (S A : ByteArray) (P : World → Prop) (HP : Hid (∀ W w, P W → Below W.heap.size W w → P w))
    (PR : Hid (∀ w, P w → Calls Tryd.prog 11 #[hv a1 a2 a3 a4 a5] w (SRet S w)))
    (RP : Hid (∀ w, Calls Tryd.prog 16 #[hv a1 a2 a3 a4 a5] w (SRet S w)))
    (PA : Hid (∀ w, P w → Calls Tryd.prog 12 #[.string S] w fun e w' => e = .returned (.tuple #[hv a1 a2 a3 a4 a5, .int .i64 0]) ∧ Below w.heap.size w w'))
    (AD : Hid (∀ w, P w → Calls Tryd.prog 14 #[.int .u32 a1] w (SRet A w)))
    (RA : Hid (∀ w, Calls Tryd.prog 17 #[.int .u32 a1] w (SRet A w)))
    (PD : Hid (∀ w, P w → Calls Tryd.prog 13 #[.string A] w fun e w' => e = .returned (.tuple #[.int .u32 a1, .int .i64 0]) ∧ Below w.heap.size w w'))
    (AW : Hid (∀ w, Calls Tryd.prog 15 #[] w fun e w' => e = .returned (.bool true) ∧ Below w.heap.size w w'))
    (w : World) (hw0 : P w) :
    Calls Tryd.prog 3 #[hv a1 a2 a3 a4 a5] w fun e w' => e = .returned (.bool true) ∧ Below w.heap.size w w' := by
  obtain ⟨W0, hW0⟩ : ∃ W0, w.alloc (Obj.cells #[.int .u32 a1, .int .u32 a2, .int .u8 a3, .int .u16 a4, .int .u16 a5] 25) = W0 := ⟨_, rfl⟩
  have HD0 := Lib.hid (show Hd W0 w.heap.size a1 a2 a3 a4 a5 by rw [← hW0]; exact Hd.new _ _ _ _ _ _ _)
  have HB0 := Lib.hid (show Below w.heap.size w W0 by rw [← hW0]; exact below_al (Below.refl _ _) _)
  have hP0 := Lib.hid (HP.out _ _ hw0 HB0.out)
  clear hw0
  go_enter Tryd.func3, Tryd.ntmps3
  go_upto_region 1 with fail
  clear hW0
  obtain ⟨⟨za0, za1, za2, za3, za4⟩, -, -, -, -, -⟩ := HD0.out
  go_wp2_with fail
  refine (PR.out _ hP0.out).mono ?_
  rintro e w1 ⟨rfl, hb1⟩
  have HB1 := Lib.hid (below_on HB0.out hb1)
  have HD1 := Lib.hid (HD0.out.on hb1)
  have hP1 := Lib.hid (HP.out _ _ hP0.out hb1)
  clear hb1 HB0 HD0 hP0 za0 za1 za2 za3 za4 PR
  go_wp2_with fail
  refine (PA.out _ hP1.out).mono ?_
  rintro e w2 ⟨rfl, hb2⟩
  have HB2 := Lib.hid (below_on HB1.out hb2)
  have HD2 := Lib.hid (HD1.out.on hb2)
  have hP2 := Lib.hid (HP.out _ _ hP1.out hb2)
  clear hb2 HB1 HD1 hP1 PA
  go_upto_region 3 with fail
  obtain ⟨W3, hW3⟩ : ∃ W3, w2.alloc (Obj.cells #[.int .u32 a1, .int .u32 a2, .int .u8 a3, .int .u16 a4, .int .u16 a5] 25) = W3 := ⟨_, rfl⟩
  rw [hW3]
  have hb3 : Below w2.heap.size w2 W3 := by rw [← hW3]; exact below_al (Below.refl _ _) _
  have HB3 := Lib.hid (below_on HB2.out hb3)
  have HD3 := Lib.hid (HD2.out.on hb3)
  have HE3 := Lib.hid (show Hd W3 w2.heap.size a1 a2 a3 a4 a5 by rw [← hW3]; exact Hd.new _ _ _ _ _ _ _)
  have hP3 := Lib.hid (HP.out _ _ hP2.out hb3)
  clear hb3 HB2 HD2 hP2 hW3
  obtain ⟨⟨za0, za1, za2, za3, za4⟩, -, -, -, -, -⟩ := HD3.out
  go_wp2_with fail
  refine (AD.out _ hP3.out).mono ?_
  rintro e w4 ⟨rfl, hb4⟩
  have HB4 := Lib.hid (below_on HB3.out hb4)
  have HD4 := Lib.hid (HD3.out.on hb4)
  have HE4 := Lib.hid (HE3.out.on hb4)
  have hP4 := Lib.hid (HP.out _ _ hP3.out hb4)
  clear hb4 HB3 HD3 HE3 hP3 za0 za1 za2 za3 za4
  go_wp2_with fail
  refine (PD.out _ hP4.out).mono ?_
  rintro e w5 ⟨rfl, hb5⟩
  have HB5 := Lib.hid (below_on HB4.out hb5)
  have HD5 := HD4.out.on hb5
  have HE5 := HE4.out.on hb5
  have hw := Lib.hid (HP.out _ _ hP4.out hb5)
  clear hb5 HB4 HD4 HE4 hP4
  go_upto_region 4 with fail
  obtain ⟨⟨za0, za1, za2, za3, za4⟩, -, -, -, -, -⟩ := HD5
  obtain ⟨⟨zb0, zb1, zb2, zb3, zb4⟩, -, -, -, -, -⟩ := HE5
  refine wp_region_noPanic ?_
  refine wp_region_along (S := fun w' => Below w5.heap.size w5 w' ∧ ∀ b o, (w5.cell? ⟨b, o, none⟩).isSome = true → w'.cell? ⟨b, o, none⟩ = w5.cell? ⟨b, o, none⟩) ([(0, false), (1, true), (2, true), (3, true), (4, false), (5, true), (6, true), (7, true), (8, true), (9, true), (10, true), (11, true), (12, true), (13, true), (14, true), (15, true)] ++ ([(16, true), (17, true), (18, true), (19, true), (20, true), (21, true), (22, true), (23, true), (24, true), (25, true), (26, true), (27, true), (28, true), (30, true), (31, true), (29, false)] ++ ([(32, false), (33, true), (34, true), (35, true)]))) (by kernel_rfl) (by as_aux_lemma => kernel_rfl) (by kernel_rfl) (by kernel_rfl) (alongPre_append _ _ _ (by as_aux_lemma => kernel_rfl) (alongPre_append _ _ _ (by as_aux_lemma => kernel_rfl) (by as_aux_lemma => kernel_rfl))) (by as_aux_lemma => kernel_rfl) (fun _ _ _ _ _ h => h) (below_kb (Below.refl _ _).drew) (fun hH => ?_)
  simp only [List.cons_append, List.nil_append, stepsOf, pickOp]
  refine along_bar (fun K hK => ?_)
  go_simp
  refine (AW.out _).mono ?_
  rintro e w' ⟨rfl, hbx⟩
  try go_wp2_with fail
  refine hK.out _ _ (below_kb (below_on hH.1 hbx)) (fun hH' => ?_)
  clear hK K hH
  have hH := hH'
  clear hH'
  clear hbx
  try simp only [Act.put, List.setIfInBounds_toArray, List.set_cons_zero, List.set_cons_succ]
  iterate 3 (first | (refine along_skip (by rfl) ?_; try simp only [Act.put, List.setIfInBounds_toArray, List.set_cons_zero, List.set_cons_succ]) | (refine along_pure ?_ (by rfl) (fun w hSw => ?_) ?_; rotate_left; ((try dsimp only at hSw); go_simp; try with_reducible rfl); try simp only [Act.put, List.setIfInBounds_toArray, List.set_cons_zero, List.set_cons_succ]))
  refine along_bar (fun K hK => ?_)
  go_simp
  refine (RP.out _).mono ?_
  rintro e w' ⟨rfl, hbx⟩
  try go_wp2_with fail
  refine hK.out _ _ (below_kb (below_on hH.1 hbx)) (fun hH' => ?_)
  clear hK K hH
  have hH := hH'
  clear hH'
  clear hbx
  try simp only [Act.put, List.setIfInBounds_toArray, List.set_cons_zero, List.set_cons_succ]
  iterate 26 (first | (refine along_skip (by rfl) ?_; try simp only [Act.put, List.setIfInBounds_toArray, List.set_cons_zero, List.set_cons_succ]) | (refine along_pure ?_ (by rfl) (fun w hSw => ?_) ?_; rotate_left; ((try dsimp only at hSw); go_simp; try with_reducible rfl); try simp only [Act.put, List.setIfInBounds_toArray, List.set_cons_zero, List.set_cons_succ]))
  refine along_bar (fun K hK => ?_)
  go_simp
  refine (AD.out _ (HP.out _ _ hw.out hH.1)).mono ?_
  rintro e w' ⟨rfl, hbx⟩
  try go_wp2_with fail
  refine hK.out _ _ (below_kb (below_on hH.1 hbx)) (fun hH' => ?_)
  clear hK K hH
  have hH := hH'
  clear hH'
  clear hbx
  try simp only [Act.put, List.setIfInBounds_toArray, List.set_cons_zero, List.set_cons_succ]
  refine along_bar (fun K hK => ?_)
  go_simp
  refine (RA.out _).mono ?_
  rintro e w' ⟨rfl, hbx⟩
  try go_wp2_with fail
  refine hK.out _ _ (below_kb (below_on hH.1 hbx)) (fun hH' => ?_)
  clear hK K hH
  have hH := hH'
  clear hH'
  clear hbx
  try simp only [Act.put, List.setIfInBounds_toArray, List.set_cons_zero, List.set_cons_succ]
  iterate 3 (first | (refine along_skip (by rfl) ?_; try simp only [Act.put, List.setIfInBounds_toArray, List.set_cons_zero, List.set_cons_succ]) | (refine along_pure ?_ (by rfl) (fun w hSw => ?_) ?_; rotate_left; ((try dsimp only at hSw); go_simp; try with_reducible rfl); try simp only [Act.put, List.setIfInBounds_toArray, List.set_cons_zero, List.set_cons_succ]))
  refine along_end (NoPanic.normal ?_)
  have HB6 := Lib.hid (below_on HB5.out hH.1)
  clear hH za0 za1 za2 za3 za4 zb0 zb1 zb2 zb3 zb4
  go_wp2
  go_ret
  exact ⟨rfl, HB6.out⟩
theorem texts_any (d s p x y : Nat) (hd : d < 4294967296) (hs : s < 4294967296) (hp : p < 256) (hx : x < 65536) (hy : y < 65536) (w : World) (ht : Txt w) :
    Calls Tryd.prog 3 #[hv d s p x y] w fun e w' => e = .returned (.bool true) ∧ Below w.heap.size w w' := by
  have hl : (lineT d s p x y).size < 4294967281 := by
    have e : (lineT d s p x y).size = (lineT d s p x y).data.toList.length := by rw [Array.length_toList]; rfl
    have z := fun (t : ByteArray) => (show t.data.toList.length = t.size by rw [Array.length_toList]; rfl)
    have a1 := addrT_size d hd
    have a2 := addrT_size s hs
    have a3 := dd_len10 p (by omega)
    have a4 := dd_len10 x hx
    have a5 := dd_len10 y hy
    rw [e, lineT_list]
    simp only [j5, j4, List.length_append, List.length_cons, z]
    omega
  refine texts_core d s p x y (lineT d s p x y) (addrT d) Txt (fun _ _ h hb => h.on hb) (fun w h => print_any d s p x y hd hs hp hx hy w h) (fun w => rprint_any d s p x y hd hs hp hx hy w) (fun w h => ?_) (fun w h => addr_any d hd w h) (fun w => raddr_any d hd w) (fun w h => ?_) (fun w => awake_any w) w ht
  · have q := hparse_any (lineT d s p x y) hl w h.max
    rw [parseH_line d s p x y hd hs hp hx hy] at q
    exact q
  · have q := paddr_any (addrT d) (Nat.lt_of_le_of_lt (addrT_size d hd) (by omega)) w h.max
    rw [parseA_addr d hd] at q
    exact q
set_option maxRecDepth 100000 in
set_option maxHeartbeats 4000000 in
theorem reads_core (s : ByteArray) (a1 a2 a3 a4 a5 e : Int) (a f n q m : Int) (hs : s.size ≤ 300) (hm0 : 0 ≤ m) (hm : m < 65536) (P : World → Prop) (HP : Hid (∀ W w, P W → Below W.heap.size W w → P w))
    (PA : Hid (∀ w, P w → Calls Tryd.prog 12 #[.string s] w fun x w' => x = .returned (.tuple #[hv a1 a2 a3 a4 a5, .int .i64 e]) ∧ Below w.heap.size w w'))
    (RA : Hid (∀ w, Calls Tryd.prog 18 #[.string s] w fun x w' => x = .returned (.tuple #[hv a1 a2 a3 a4 a5, .int .i64 e]) ∧ Below w.heap.size w w'))
    (PR : Hid (e = 0 → ∀ w, P w → Calls Tryd.prog 11 #[hv a1 a2 a3 a4 a5] w (SRet s w)))
    (PD : Hid (∀ w, P w → Calls Tryd.prog 13 #[.string s] w fun x w' => x = .returned (.tuple #[.int .u32 a, .int .i64 f]) ∧ Below w.heap.size w w'))
    (RD : Hid (∀ w, Calls Tryd.prog 19 #[.string s] w fun x w' => x = .returned (.tuple #[.int .u32 a, .int .i64 f]) ∧ Below w.heap.size w w'))
    (PN : Hid (∀ w, Calls Tryd.prog 20 #[.string s, .int .i64 m] w fun x w' => x = .returned (.tuple #[.int .i64 n, .int .i64 q]) ∧ Below w.heap.size w w'))
    (RN : Hid (∀ w, Calls Tryd.prog 21 #[.string s, .int .i64 m] w fun x w' => x = .returned (.tuple #[.int .i64 n, .int .i64 q]) ∧ w' = w))
    (AW : Hid (∀ w, Calls Tryd.prog 15 #[] w fun e w' => e = .returned (.bool true) ∧ Below w.heap.size w w'))
    (w : World) (hw0 : P w) :
    Calls Tryd.prog 4 #[.string s, .int .u16 m] w fun e w' => e = .returned (.bool true) ∧ Below w.heap.size w w' := by
  have hP0 := Lib.hid hw0
  clear hw0
  have hns : ¬ (300 : Int) < (s.size : Int) := by omega
  have em : IntKind.i64.wrap m = m := by rw [IntKind.wrap_i64]; omega
  go_enter Tryd.func4, Tryd.ntmps4
  go_wp2_with fail
  refine (PA.out _ hP0.out).mono ?_
  rintro x w1 ⟨rfl, hb1⟩
  have HB1 := Lib.hid hb1
  have hP1 := Lib.hid (HP.out _ _ hP0.out hb1)
  clear hb1 hP0 PA
  go_upto_region 4 with fail
  obtain ⟨W1, hW1⟩ : ∃ W1, w1.alloc (Obj.cells #[.int .u32 a1, .int .u32 a2, .int .u8 a3, .int .u16 a4, .int .u16 a5] 25) = W1 := ⟨_, rfl⟩
  rw [hW1]
  have hb1 : Below w1.heap.size w1 W1 := by rw [← hW1]; exact below_al (Below.refl _ _) _
  have HBa := Lib.hid (below_on HB1.out hb1)
  have HDa := Lib.hid (show Hd W1 w1.heap.size a1 a2 a3 a4 a5 by rw [← hW1]; exact Hd.new _ _ _ _ _ _ _)
  have hPa := Lib.hid (HP.out _ _ hP1.out hb1)
  clear hb1 HB1 hP1 hW1
  go_wp2_with fail
  refine (RA.out _).mono ?_
  rintro x w2 ⟨rfl, hb2⟩
  have HB2 := Lib.hid (below_on HBa.out hb2)
  have HD2 := Lib.hid (HDa.out.on hb2)
  have hP2 := Lib.hid (HP.out _ _ hPa.out hb2)
  clear hb2 HBa HDa hPa RA
  go_upto_region 5 with fail
  obtain ⟨W3, hW3⟩ : ∃ W3, w2.alloc (Obj.cells #[.int .u32 a1, .int .u32 a2, .int .u8 a3, .int .u16 a4, .int .u16 a5] 25) = W3 := ⟨_, rfl⟩
  rw [hW3]
  have hb3 : Below w2.heap.size w2 W3 := by rw [← hW3]; exact below_al (Below.refl _ _) _
  have HB3 := Lib.hid (below_on HB2.out hb3)
  have HD3 := Lib.hid (HD2.out.on hb3)
  have HE3 := Lib.hid (show Hd W3 w2.heap.size a1 a2 a3 a4 a5 by rw [← hW3]; exact Hd.new _ _ _ _ _ _ _)
  have hP3 := Lib.hid (HP.out _ _ hP2.out hb3)
  clear hb3 HB2 HD2 hP2 hW3
  obtain ⟨⟨za0, za1, za2, za3, za4⟩, -, -, -, -, -⟩ := HD3.out
  obtain ⟨⟨zb0, zb1, zb2, zb3, zb4⟩, -, -, -, -, -⟩ := HE3.out
  by_cases c : e = 0
  · subst c
    go_wp2_with fail
    refine (PR.out trivial _ hP3.out).mono ?_
    rintro x w4 ⟨rfl, hb4⟩
    have HB4 := Lib.hid (below_on HB3.out hb4)
    have hP4 := Lib.hid (HP.out _ _ hP3.out hb4)
    clear hb4 HB3 hP3 za0 za1 za2 za3 za4 zb0 zb1 zb2 zb3 zb4 HD3 HE3
    go_wp2_with fail
    refine (PD.out _ hP4.out).mono ?_
    rintro x w5 ⟨rfl, hb5⟩
    have HB5 := Lib.hid (below_on HB4.out hb5)
    have hP5 := Lib.hid (HP.out _ _ hP4.out hb5)
    clear hb5 HB4 hP4
    go_wp2_with fail
    refine (RD.out _).mono ?_
    rintro x w6 ⟨rfl, hb6⟩
    have HB6 := Lib.hid (below_on HB5.out hb6)
    clear hb6 HB5
    go_wp2_with fail
    refine (PN.out _).mono ?_
    rintro x w7 ⟨rfl, hb7⟩
    have HB7 := Lib.hid (below_on HB6.out hb7)
    clear hb7 HB6
    go_wp2_with fail
    refine (RN.out _).mono ?_
    rintro x w8 ⟨rfl, rfl⟩
    go_wp2_with fail
    refine (AW.out _).mono ?_
    rintro x w9 ⟨rfl, hb9⟩
    have HB9 := Lib.hid (below_on HB7.out hb9)
    clear hb9 HB7
    go_wp2
    go_ret
    exact ⟨rfl, HB9.out⟩
  · have c1 : (e == 0) = false := by simp; exact c
    have HB4 := HB3
    have hP4 := hP3
    clear HB3 hP3 HD3 HE3
    go_wp2_with fail
    refine (PD.out _ hP4.out).mono ?_
    rintro x w5 ⟨rfl, hb5⟩
    have HB5 := Lib.hid (below_on HB4.out hb5)
    have hP5 := Lib.hid (HP.out _ _ hP4.out hb5)
    clear hb5 HB4 hP4
    go_wp2_with fail
    refine (RD.out _).mono ?_
    rintro x w6 ⟨rfl, hb6⟩
    have HB6 := Lib.hid (below_on HB5.out hb6)
    clear hb6 HB5
    go_wp2_with fail
    refine (PN.out _).mono ?_
    rintro x w7 ⟨rfl, hb7⟩
    have HB7 := Lib.hid (below_on HB6.out hb7)
    clear hb7 HB6
    go_wp2_with fail
    refine (RN.out _).mono ?_
    rintro x w8 ⟨rfl, rfl⟩
    go_wp2_with fail
    refine (AW.out _).mono ?_
    rintro x w9 ⟨rfl, hb9⟩
    have HB9 := Lib.hid (below_on HB7.out hb9)
    clear hb9 HB7
    go_wp2
    go_ret
    exact ⟨rfl, HB9.out⟩
set_option maxHeartbeats 400000 in
theorem reads_any (s : ByteArray) (m : Nat) (hm : m < 65536) (w : World) (ht : Txt w) :
    Calls Tryd.prog 4 #[.string s, .int .u16 m] w fun e w' => e = .returned (.bool true) ∧ Below w.heap.size w w' := by
  by_cases hs : s.size ≤ 300
  · refine reads_core s (parseH s.data.toList).1.1 (parseH s.data.toList).1.2.1 (parseH s.data.toList).1.2.2.1 (parseH s.data.toList).1.2.2.2.1 (parseH s.data.toList).1.2.2.2.2 (parseH s.data.toList).2
      (parseA s.data.toList).1 (parseA s.data.toList).2 (nz m s.data.toList).1 (nz m s.data.toList).2 m hs (by omega) (by omega) Txt (fun _ _ h hb => h.on hb) (fun w h => hparse_any s (by omega) w h.max) (fun w => rhparse_any s hs w)
      (fun he w h => ?_) (fun w h => paddr_any s (by omega) w h.max) (fun w => rpaddr_any s hs w) (fun w => number_any s m (by omega) (by unfold maxLen; omega) w) (fun w => rnum_any s m hm (by unfold maxLen; omega) w) (fun w => awake_any w) w ht
    obtain ⟨h1, h2, h3, h4, h5, h6⟩ := parseH_back (parseH s.data.toList).1 s.data.toList (by rw [← he])
    have q := print_any _ _ _ _ _ h2 h3 h4 h5 h6 w h
    have e : lineT (parseH s.data.toList).1.1 (parseH s.data.toList).1.2.1 (parseH s.data.toList).1.2.2.1 (parseH s.data.toList).1.2.2.2.1 (parseH s.data.toList).1.2.2.2.2 = s := by
      apply ByteArray.ext; apply Array.ext'; exact h1.symm
    rw [e] at q
    exact q
  · have hns : (300 : Int) < (s.size : Int) := by omega
    go_enter Tryd.func4, Tryd.ntmps4
    go_wp2_with fail
    refine (awake_any _).mono ?_
    rintro x w1 ⟨rfl, hb1⟩
    go_wp2
    go_ret
    exact ⟨rfl, hb1⟩
end Go.Proofs.YtlmeagnegakifaaDoor
