/- The walk of FilterTexts. -/
import Derived.Test.YtgbphocmnpjjpaaDoorF4
import Derived.Test.YtgbphocmnpjjpaaDoorF7
import Derived.Test.YtgbphocmnpjjpaaDoorAt
namespace Go.Proofs.YtgbphocmnpjjpaaDoor
open Go.RowKit
set_option linter.unusedVariables false

set_option maxRecDepth 100000 in
set_option maxHeartbeats 8000000 in
theorem ftexts_core (a n b m p l h u v c0 c1 c2 c3 c4 c5 c6 c7 c8 e E : Int) (s t : ByteArray) (hs : s.size ≤ 300) (P : World → Prop) (HP : Hid (∀ W w, P W → Below W.heap.size W w → P w))
    (PA : Hid (∀ w, P w → Calls Tryd.prog 41 #[.string s] w fun z w' => z = .returned (.tuple #[fv c0 c1 c2 c3 c4 c5 c6 c7 c8, .int .i64 e]) ∧ Below w.heap.size w w'))
    (RA : Hid (∀ w, Calls Tryd.prog 42 #[.string s] w fun z w' => z = .returned (.tuple #[fv c0 c1 c2 c3 c4 c5 c6 c7 c8, .int .i64 e]) ∧ Below w.heap.size w w'))
    (PR : Hid (e = 0 → ∀ w, P w → Calls Tryd.prog 43 #[fv c0 c1 c2 c3 c4 c5 c6 c7 c8] w fun z w' => z = .returned (.string s) ∧ Below w.heap.size w w'))
    (RC : Hid (∀ w, Calls Tryd.prog 33 #[fv a n b m p l h u v] w fun z w' => z = .returned (.int .i64 E) ∧ Below w.heap.size w w'))
    (AW : Hid (∀ w, P w → Calls Tryd.prog 36 #[] w fun z w' => z = .returned (.bool true) ∧ Below w.heap.size w w'))
    (PF : Hid (E = 0 → ∀ w, P w → Calls Tryd.prog 43 #[fv a n b m p l h u v] w fun z w' => z = .returned (.string t) ∧ Below w.heap.size w w'))
    (PB : Hid (E = 0 → ∀ w, P w → Calls Tryd.prog 41 #[.string t] w fun z w' => z = .returned (.tuple #[fv a n b m p l h u v, .int .i64 0]) ∧ Below w.heap.size w w'))
    (RF : Hid (E = 0 → ∀ w, Calls Tryd.prog 44 #[fv a n b m p l h u v] w fun z w' => z = .returned (.string t) ∧ Below w.heap.size w w'))
    (w : World) (ht : P w) :
    Calls Tryd.prog 9 #[fv a n b m p l h u v, .string s] w fun z w' => z = .returned (.bool true) ∧ Below w.heap.size w w' := by
  have hns : ¬ (300 : Int) < (s.size : Int) := by omega
  obtain ⟨W0, hW0⟩ : ∃ W0, w.alloc (Obj.cells (fc a n b m p l h u v).toArray 62) = W0 := ⟨_, rfl⟩
  have F0 := Lib.hid (show Blk W0 w.heap.size (fc a n b m p l h u v) by rw [← hW0]; exact Blk.new _ _ _)
  have B0 := Lib.hid (show Below w.heap.size w W0 by rw [← hW0]; exact cbelow_al (Below.refl _ _) _)
  have hP0 := Lib.hid (HP.out _ _ ht B0.out)
  clear ht
  unfold fc at *
  unfold fv at *
  go_enter Tryd.func9, Tryd.ntmps9
  go_upto_region 1 with fail
  clear hW0
  go_wp2_with fail
  refine (PA.out _ hP0.out).mono ?_
  rintro e w1 ⟨rfl, hb⟩
  have F1 := Lib.hid (F0.out.on hb)
  have B1 := Lib.hid (cbelow_on B0.out hb)
  have hP1 := Lib.hid (HP.out _ _ hP0.out hb)
  clear hb F0 B0 hP0
  go_upto_region 4 with fail
  refine at_code (S := fun W => Blk W w1.heap.size [.int .u32 c0, .int .i64 c1, .int .u32 c2, .int .i64 c3, .int .i64 c4, .int .u16 c5, .int .u16 c6, .int .u16 c7, .int .u16 c8] ∧ Below w1.heap.size w1 W) ⟨Blk.new _ _ _, cbelow_al (Below.refl _ _) _⟩ (fun W2 hW => ?_)
  obtain ⟨hN, hb⟩ := hW
  have F2 := Lib.hid (F1.out.on hb)
  have B2 := Lib.hid (cbelow_on B1.out hb)
  have hP2 := Lib.hid (HP.out _ _ hP1.out hb)
  clear hb F1 B1 hP1
  have A2 := Lib.hid hN
  clear hN
  go_wp2_with fail
  refine (RA.out _).mono ?_
  rintro e w3 ⟨rfl, hb⟩
  have F3 := Lib.hid (F2.out.on hb)
  have A3 := Lib.hid (A2.out.on hb)
  have B3 := Lib.hid (cbelow_on B2.out hb)
  have hP3 := Lib.hid (HP.out _ _ hP2.out hb)
  clear hb F2 A2 B2 hP2
  go_upto_region 5 with fail
  refine at_code (S := fun W => Blk W w3.heap.size [.int .u32 c0, .int .i64 c1, .int .u32 c2, .int .i64 c3, .int .i64 c4, .int .u16 c5, .int .u16 c6, .int .u16 c7, .int .u16 c8] ∧ Below w3.heap.size w3 W) ⟨Blk.new _ _ _, cbelow_al (Below.refl _ _) _⟩ (fun W4 hW => ?_)
  obtain ⟨hN, hb⟩ := hW
  have F4 := Lib.hid (F3.out.on hb)
  have A4 := Lib.hid (A3.out.on hb)
  have B4 := Lib.hid (cbelow_on B3.out hb)
  have hP4 := Lib.hid (HP.out _ _ hP3.out hb)
  clear hb F3 A3 B3 hP3
  have C4 := Lib.hid hN
  clear hN
  obtain ⟨f_0, f_1, f_2, f_3, f_4, f_5, f_6, f_7, f_8⟩ : _ ∧ _ ∧ _ ∧ _ ∧ _ ∧ _ ∧ _ ∧ _ ∧ _ := ⟨F4.out.1 0 _ rfl, F4.out.1 1 _ rfl, F4.out.1 2 _ rfl, F4.out.1 3 _ rfl, F4.out.1 4 _ rfl, F4.out.1 5 _ rfl, F4.out.1 6 _ rfl, F4.out.1 7 _ rfl, F4.out.1 8 _ rfl⟩
  obtain ⟨a_0, a_1, a_2, a_3, a_4, a_5, a_6, a_7, a_8⟩ : _ ∧ _ ∧ _ ∧ _ ∧ _ ∧ _ ∧ _ ∧ _ ∧ _ := ⟨A4.out.1 0 _ rfl, A4.out.1 1 _ rfl, A4.out.1 2 _ rfl, A4.out.1 3 _ rfl, A4.out.1 4 _ rfl, A4.out.1 5 _ rfl, A4.out.1 6 _ rfl, A4.out.1 7 _ rfl, A4.out.1 8 _ rfl⟩
  obtain ⟨c_0, c_1, c_2, c_3, c_4, c_5, c_6, c_7, c_8⟩ : _ ∧ _ ∧ _ ∧ _ ∧ _ ∧ _ ∧ _ ∧ _ ∧ _ := ⟨C4.out.1 0 _ rfl, C4.out.1 1 _ rfl, C4.out.1 2 _ rfl, C4.out.1 3 _ rfl, C4.out.1 4 _ rfl, C4.out.1 5 _ rfl, C4.out.1 6 _ rfl, C4.out.1 7 _ rfl, C4.out.1 8 _ rfl⟩
  by_cases y1 : e = 0
  · subst y1
    go_wp2_with fail
    refine (PR.out (by trivial) _ hP4.out).mono ?_
    rintro e w5 ⟨rfl, hb⟩
    have F5 := Lib.hid (F4.out.on hb)
    have A5 := Lib.hid (A4.out.on hb)
    have C5 := Lib.hid (C4.out.on hb)
    have B5 := Lib.hid (cbelow_on B4.out hb)
    have hP5 := Lib.hid (HP.out _ _ hP4.out hb)
    clear hb f_0 f_1 f_2 f_3 f_4 f_5 f_6 f_7 f_8 a_0 a_1 a_2 a_3 a_4 a_5 a_6 a_7 a_8 c_0 c_1 c_2 c_3 c_4 c_5 c_6 c_7 c_8 F4 A4 C4 B4 hP4
    clear A5 C5
    obtain ⟨f_0, f_1, f_2, f_3, f_4, f_5, f_6, f_7, f_8⟩ : _ ∧ _ ∧ _ ∧ _ ∧ _ ∧ _ ∧ _ ∧ _ ∧ _ := ⟨F5.out.1 0 _ rfl, F5.out.1 1 _ rfl, F5.out.1 2 _ rfl, F5.out.1 3 _ rfl, F5.out.1 4 _ rfl, F5.out.1 5 _ rfl, F5.out.1 6 _ rfl, F5.out.1 7 _ rfl, F5.out.1 8 _ rfl⟩
    go_wp2_with fail
    refine (RC.out _).mono ?_
    rintro e w6 ⟨rfl, hb⟩
    have F6 := Lib.hid (F5.out.on hb)
    have B6 := Lib.hid (cbelow_on B5.out hb)
    have hP6 := Lib.hid (HP.out _ _ hP5.out hb)
    clear hb f_0 f_1 f_2 f_3 f_4 f_5 f_6 f_7 f_8 F5 B5 hP5
    obtain ⟨f_0, f_1, f_2, f_3, f_4, f_5, f_6, f_7, f_8⟩ : _ ∧ _ ∧ _ ∧ _ ∧ _ ∧ _ ∧ _ ∧ _ ∧ _ := ⟨F6.out.1 0 _ rfl, F6.out.1 1 _ rfl, F6.out.1 2 _ rfl, F6.out.1 3 _ rfl, F6.out.1 4 _ rfl, F6.out.1 5 _ rfl, F6.out.1 6 _ rfl, F6.out.1 7 _ rfl, F6.out.1 8 _ rfl⟩
    by_cases y2 : E = 0
    · subst y2
      go_wp2_with fail
      refine (PF.out (by trivial) _ hP6.out).mono ?_
      rintro e w7 ⟨rfl, hb⟩
      have F7 := Lib.hid (F6.out.on hb)
      have B7 := Lib.hid (cbelow_on B6.out hb)
      have hP7 := Lib.hid (HP.out _ _ hP6.out hb)
      clear hb f_0 f_1 f_2 f_3 f_4 f_5 f_6 f_7 f_8 F6 B6 hP6
      go_wp2_with fail
      refine (PB.out (by trivial) _ hP7.out).mono ?_
      rintro e w8 ⟨rfl, hb⟩
      have F8 := Lib.hid (F7.out.on hb)
      have B8 := Lib.hid (cbelow_on B7.out hb)
      have hP8 := Lib.hid (HP.out _ _ hP7.out hb)
      clear hb F7 B7 hP7
      go_upto_region 11 with fail
      refine at_code (S := fun W => Blk W w8.heap.size [.int .u32 a, .int .i64 n, .int .u32 b, .int .i64 m, .int .i64 p, .int .u16 l, .int .u16 h, .int .u16 u, .int .u16 v] ∧ Below w8.heap.size w8 W) ⟨Blk.new _ _ _, cbelow_al (Below.refl _ _) _⟩ (fun W9 hW => ?_)
      obtain ⟨hN, hb⟩ := hW
      have F9 := Lib.hid (F8.out.on hb)
      have B9 := Lib.hid (cbelow_on B8.out hb)
      have hP9 := Lib.hid (HP.out _ _ hP8.out hb)
      clear hb F8 B8 hP8
      have D9 := Lib.hid hN
      clear hN
      go_wp2_with fail
      refine (AW.out _ hP9.out).mono ?_
      rintro e w10 ⟨rfl, hb⟩
      have F10 := Lib.hid (F9.out.on hb)
      have D10 := Lib.hid (D9.out.on hb)
      have B10 := Lib.hid (cbelow_on B9.out hb)
      have hP10 := Lib.hid (HP.out _ _ hP9.out hb)
      clear hb F9 D9 B9 hP9
      obtain ⟨f_0, f_1, f_2, f_3, f_4, f_5, f_6, f_7, f_8⟩ : _ ∧ _ ∧ _ ∧ _ ∧ _ ∧ _ ∧ _ ∧ _ ∧ _ := ⟨F10.out.1 0 _ rfl, F10.out.1 1 _ rfl, F10.out.1 2 _ rfl, F10.out.1 3 _ rfl, F10.out.1 4 _ rfl, F10.out.1 5 _ rfl, F10.out.1 6 _ rfl, F10.out.1 7 _ rfl, F10.out.1 8 _ rfl⟩
      obtain ⟨d_0, d_1, d_2, d_3, d_4, d_5, d_6, d_7, d_8⟩ : _ ∧ _ ∧ _ ∧ _ ∧ _ ∧ _ ∧ _ ∧ _ ∧ _ := ⟨D10.out.1 0 _ rfl, D10.out.1 1 _ rfl, D10.out.1 2 _ rfl, D10.out.1 3 _ rfl, D10.out.1 4 _ rfl, D10.out.1 5 _ rfl, D10.out.1 6 _ rfl, D10.out.1 7 _ rfl, D10.out.1 8 _ rfl⟩
      go_wp2_with fail
      refine (RF.out (by trivial) _).mono ?_
      rintro e w11 ⟨rfl, hb⟩
      have F11 := Lib.hid (F10.out.on hb)
      have D11 := Lib.hid (D10.out.on hb)
      have B11 := Lib.hid (cbelow_on B10.out hb)
      have hP11 := Lib.hid (HP.out _ _ hP10.out hb)
      clear hb f_0 f_1 f_2 f_3 f_4 f_5 f_6 f_7 f_8 d_0 d_1 d_2 d_3 d_4 d_5 d_6 d_7 d_8 F10 D10 B10 hP10
      obtain ⟨f_0, f_1, f_2, f_3, f_4, f_5, f_6, f_7, f_8⟩ : _ ∧ _ ∧ _ ∧ _ ∧ _ ∧ _ ∧ _ ∧ _ ∧ _ := ⟨F11.out.1 0 _ rfl, F11.out.1 1 _ rfl, F11.out.1 2 _ rfl, F11.out.1 3 _ rfl, F11.out.1 4 _ rfl, F11.out.1 5 _ rfl, F11.out.1 6 _ rfl, F11.out.1 7 _ rfl, F11.out.1 8 _ rfl⟩
      obtain ⟨d_0, d_1, d_2, d_3, d_4, d_5, d_6, d_7, d_8⟩ : _ ∧ _ ∧ _ ∧ _ ∧ _ ∧ _ ∧ _ ∧ _ ∧ _ := ⟨D11.out.1 0 _ rfl, D11.out.1 1 _ rfl, D11.out.1 2 _ rfl, D11.out.1 3 _ rfl, D11.out.1 4 _ rfl, D11.out.1 5 _ rfl, D11.out.1 6 _ rfl, D11.out.1 7 _ rfl, D11.out.1 8 _ rfl⟩
      go_wp2
      go_ret
      exact ⟨rfl, B11.out⟩
    · have y2' : (E != 0) = true := by simp; exact y2
      go_wp2_with fail
      refine (AW.out _ hP6.out).mono ?_
      rintro e w7 ⟨rfl, hb⟩
      have F7 := Lib.hid (F6.out.on hb)
      have B7 := Lib.hid (cbelow_on B6.out hb)
      have hP7 := Lib.hid (HP.out _ _ hP6.out hb)
      clear hb f_0 f_1 f_2 f_3 f_4 f_5 f_6 f_7 f_8 F6 B6 hP6
      go_wp2
      go_ret
      exact ⟨rfl, B7.out⟩
  · have y1' : (e == 0) = false := by simp; exact y1
    go_upto_region 7 with fail
    clear f_0 f_1 f_2 f_3 f_4 f_5 f_6 f_7 f_8 a_0 a_1 a_2 a_3 a_4 a_5 a_6 a_7 a_8 c_0 c_1 c_2 c_3 c_4 c_5 c_6 c_7 c_8
    clear A4 C4
    obtain ⟨f_0, f_1, f_2, f_3, f_4, f_5, f_6, f_7, f_8⟩ : _ ∧ _ ∧ _ ∧ _ ∧ _ ∧ _ ∧ _ ∧ _ ∧ _ := ⟨F4.out.1 0 _ rfl, F4.out.1 1 _ rfl, F4.out.1 2 _ rfl, F4.out.1 3 _ rfl, F4.out.1 4 _ rfl, F4.out.1 5 _ rfl, F4.out.1 6 _ rfl, F4.out.1 7 _ rfl, F4.out.1 8 _ rfl⟩
    go_wp2_with fail
    refine (RC.out _).mono ?_
    rintro e w5 ⟨rfl, hb⟩
    have F5 := Lib.hid (F4.out.on hb)
    have B5 := Lib.hid (cbelow_on B4.out hb)
    have hP5 := Lib.hid (HP.out _ _ hP4.out hb)
    clear hb f_0 f_1 f_2 f_3 f_4 f_5 f_6 f_7 f_8 F4 B4 hP4
    obtain ⟨f_0, f_1, f_2, f_3, f_4, f_5, f_6, f_7, f_8⟩ : _ ∧ _ ∧ _ ∧ _ ∧ _ ∧ _ ∧ _ ∧ _ ∧ _ := ⟨F5.out.1 0 _ rfl, F5.out.1 1 _ rfl, F5.out.1 2 _ rfl, F5.out.1 3 _ rfl, F5.out.1 4 _ rfl, F5.out.1 5 _ rfl, F5.out.1 6 _ rfl, F5.out.1 7 _ rfl, F5.out.1 8 _ rfl⟩
    by_cases y2 : E = 0
    · subst y2
      go_wp2_with fail
      refine (PF.out (by trivial) _ hP5.out).mono ?_
      rintro e w6 ⟨rfl, hb⟩
      have F6 := Lib.hid (F5.out.on hb)
      have B6 := Lib.hid (cbelow_on B5.out hb)
      have hP6 := Lib.hid (HP.out _ _ hP5.out hb)
      clear hb f_0 f_1 f_2 f_3 f_4 f_5 f_6 f_7 f_8 F5 B5 hP5
      go_wp2_with fail
      refine (PB.out (by trivial) _ hP6.out).mono ?_
      rintro e w7 ⟨rfl, hb⟩
      have F7 := Lib.hid (F6.out.on hb)
      have B7 := Lib.hid (cbelow_on B6.out hb)
      have hP7 := Lib.hid (HP.out _ _ hP6.out hb)
      clear hb F6 B6 hP6
      go_upto_region 11 with fail
      refine at_code (S := fun W => Blk W w7.heap.size [.int .u32 a, .int .i64 n, .int .u32 b, .int .i64 m, .int .i64 p, .int .u16 l, .int .u16 h, .int .u16 u, .int .u16 v] ∧ Below w7.heap.size w7 W) ⟨Blk.new _ _ _, cbelow_al (Below.refl _ _) _⟩ (fun W8 hW => ?_)
      obtain ⟨hN, hb⟩ := hW
      have F8 := Lib.hid (F7.out.on hb)
      have B8 := Lib.hid (cbelow_on B7.out hb)
      have hP8 := Lib.hid (HP.out _ _ hP7.out hb)
      clear hb F7 B7 hP7
      have D8 := Lib.hid hN
      clear hN
      go_wp2_with fail
      refine (AW.out _ hP8.out).mono ?_
      rintro e w9 ⟨rfl, hb⟩
      have F9 := Lib.hid (F8.out.on hb)
      have D9 := Lib.hid (D8.out.on hb)
      have B9 := Lib.hid (cbelow_on B8.out hb)
      have hP9 := Lib.hid (HP.out _ _ hP8.out hb)
      clear hb F8 D8 B8 hP8
      obtain ⟨f_0, f_1, f_2, f_3, f_4, f_5, f_6, f_7, f_8⟩ : _ ∧ _ ∧ _ ∧ _ ∧ _ ∧ _ ∧ _ ∧ _ ∧ _ := ⟨F9.out.1 0 _ rfl, F9.out.1 1 _ rfl, F9.out.1 2 _ rfl, F9.out.1 3 _ rfl, F9.out.1 4 _ rfl, F9.out.1 5 _ rfl, F9.out.1 6 _ rfl, F9.out.1 7 _ rfl, F9.out.1 8 _ rfl⟩
      obtain ⟨d_0, d_1, d_2, d_3, d_4, d_5, d_6, d_7, d_8⟩ : _ ∧ _ ∧ _ ∧ _ ∧ _ ∧ _ ∧ _ ∧ _ ∧ _ := ⟨D9.out.1 0 _ rfl, D9.out.1 1 _ rfl, D9.out.1 2 _ rfl, D9.out.1 3 _ rfl, D9.out.1 4 _ rfl, D9.out.1 5 _ rfl, D9.out.1 6 _ rfl, D9.out.1 7 _ rfl, D9.out.1 8 _ rfl⟩
      go_wp2_with fail
      refine (RF.out (by trivial) _).mono ?_
      rintro e w10 ⟨rfl, hb⟩
      have F10 := Lib.hid (F9.out.on hb)
      have D10 := Lib.hid (D9.out.on hb)
      have B10 := Lib.hid (cbelow_on B9.out hb)
      have hP10 := Lib.hid (HP.out _ _ hP9.out hb)
      clear hb f_0 f_1 f_2 f_3 f_4 f_5 f_6 f_7 f_8 d_0 d_1 d_2 d_3 d_4 d_5 d_6 d_7 d_8 F9 D9 B9 hP9
      obtain ⟨f_0, f_1, f_2, f_3, f_4, f_5, f_6, f_7, f_8⟩ : _ ∧ _ ∧ _ ∧ _ ∧ _ ∧ _ ∧ _ ∧ _ ∧ _ := ⟨F10.out.1 0 _ rfl, F10.out.1 1 _ rfl, F10.out.1 2 _ rfl, F10.out.1 3 _ rfl, F10.out.1 4 _ rfl, F10.out.1 5 _ rfl, F10.out.1 6 _ rfl, F10.out.1 7 _ rfl, F10.out.1 8 _ rfl⟩
      obtain ⟨d_0, d_1, d_2, d_3, d_4, d_5, d_6, d_7, d_8⟩ : _ ∧ _ ∧ _ ∧ _ ∧ _ ∧ _ ∧ _ ∧ _ ∧ _ := ⟨D10.out.1 0 _ rfl, D10.out.1 1 _ rfl, D10.out.1 2 _ rfl, D10.out.1 3 _ rfl, D10.out.1 4 _ rfl, D10.out.1 5 _ rfl, D10.out.1 6 _ rfl, D10.out.1 7 _ rfl, D10.out.1 8 _ rfl⟩
      go_wp2
      go_ret
      exact ⟨rfl, B10.out⟩
    · have y2' : (E != 0) = true := by simp; exact y2
      go_wp2_with fail
      refine (AW.out _ hP5.out).mono ?_
      rintro e w6 ⟨rfl, hb⟩
      have F6 := Lib.hid (F5.out.on hb)
      have B6 := Lib.hid (cbelow_on B5.out hb)
      have hP6 := Lib.hid (HP.out _ _ hP5.out hb)
      clear hb f_0 f_1 f_2 f_3 f_4 f_5 f_6 f_7 f_8 F5 B5 hP5
      go_wp2
      go_ret
      exact ⟨rfl, B6.out⟩
end Go.Proofs.YtgbphocmnpjjpaaDoor
