/- The utmost header of a set: the walk (typed by gen/mks8.py). -/
import Derived.Test.YtgcbngephokegabG82324f0dfe
import Derived.Test.YtgcbngephokegabG65ce601bf9
import Derived.Test.YtgcbngephokegabGd5e3a1818d
import Derived.Test.YtgcbngephokegabGe7cc0695f7
namespace Go.Proofs.Ytgcbngephokegab
open Go.RowKit
set_option linter.unusedVariables false
set_option linter.unusedSimpArgs false

theorem cells2' {w : World} {b : Nat} {x y : Value} (h : Blk w b [x, y]) : w.cell? ⟨b, 0, none⟩ = some x ∧ w.cell? ⟨b, 1, none⟩ = some y := ⟨h.1 0 _ rfl, h.1 1 _ rfl⟩
theorem far5 {w : World} {b c : Nat} {cs : List Value} (h : Blk w b cs) (hne : c ≠ b) (x0 x1 x2 x3 x4 : Value) : Blk (((((w.setCell ⟨c, 0, none⟩ x0).setCell ⟨c, 1, none⟩ x1).setCell ⟨c, 2, none⟩ x2).setCell ⟨c, 3, none⟩ x3).setCell ⟨c, 4, none⟩ x4) b cs :=
  ((((h.far _ _ hne).far _ _ hne).far _ _ hne).far _ _ hne).far _ _ hne
theorem bel5 {W w : World} {n c : Nat} (h : Below n W w) (hn : n ≤ c) (x0 x1 x2 x3 x4 : Value) : Below n W (((((w.setCell ⟨c, 0, none⟩ x0).setCell ⟨c, 1, none⟩ x1).setCell ⟨c, 2, none⟩ x2).setCell ⟨c, 3, none⟩ x3).setCell ⟨c, 4, none⟩ x4) :=
  ((((h.setCell hn _).setCell hn _).setCell hn _).setCell hn _).setCell hn _
theorem nat_beq0 {n : Nat} (h : n ≠ 0) : ((n : Int) == 0) = false := beq_eq_false_iff_ne.2 (by omega)
set_option maxRecDepth 100000 in
set_option maxHeartbeats 8000000 in
theorem utm_core (p : Value) (on : Bool) (F A B PL PH : Nat → Nat) (W : World)
    (CH : Hid (∀ w, Below W.heap.size W w → Calls Try.prog 24 #[p, .int .i64 (F 0 : Nat)] w fun e w' => e = .returned (.bool true) ∧ w = w'))
    (CP : Hid (∀ k w, k < 104 → Below W.heap.size W w → Calls Try.prog 47 #[p, .int .i64 (F k : Nat), .int .i64 (k : Nat)] w fun e w' => e = .returned (.agg #[.int .i64 (PL k : Nat), .int .i64 (PH k : Nat)]) ∧ Below w.heap.size w w'))
    (CW : Hid (∀ k w b, k < 104 → b = (if (if on then PH k else PL k) = 0 then !on else on) → F (k + 1) = (if b then PH k else PL k) ∧ Calls Try.prog 51 #[hw (A k) (B k), .int .i64 (k : Nat), .bool b] w fun e w' => e = .returned (hw (A (k + 1)) (B (k + 1))) ∧ Below w.heap.size w w'))
    (h0 : Hid (F 0 ≠ 0)) (hA : Hid (A 0 = 0)) (hB : Hid (B 0 = 0)) :
    Calls Try.prog 28 #[p, .int .i64 (F 0 : Nat), .bool on] W fun e w' => e = .returned (.tuple #[hw (A 104) (B 104), .bool true]) ∧ Below W.heap.size W w' := by
  have hz := nat_beq0 h0.out
  have CS := Lib.hid (fun b w => sside b w)
  go_enter Try.func28, Try.ntmps28
  go_upto_region 1 with fail
  refine at_code (S := fun w1 => Blk w1 W.heap.size [.int .u32 0, .int .u32 0, .int .u8 0, .int .u16 0, .int .u16 0] ∧ Below W.heap.size W w1) ⟨Blk.new _ _ _, bel_al (Below.refl _ _) _⟩ (fun W1 hW => ?_)
  obtain ⟨hX, hb⟩ := hW
  have X1 := Lib.hid hX
  have B1 := Lib.hid hb
  clear hX hb
  go_wp2_with fail
  refine (CH.out W1 B1.out).mono ?_
  rintro e w' ⟨rfl, rfl⟩
  clear CH
  go_upto_region 4 with fail
  refine at_code (S := fun w => Blk w W1.heap.size [.int .u32 (fd (A 0) : Nat), .int .u32 (fs (A 0) : Nat), .int .u8 (fd (B 0) : Nat), .int .u16 (fx (B 0) : Nat), .int .u16 (fy (B 0) : Nat)] ∧ Below W1.heap.size W1 w) ⟨?_, bel_al (Below.refl _ _) _⟩ (fun W2 hW => ?_)
  · rw [hA.out, hB.out]
    exact Blk.new _ _ _
  obtain ⟨hY, hb⟩ := hW
  have Y2 := Lib.hid hY
  have X2 := Lib.hid (X1.out.on hb)
  have B2 := Lib.hid (bel_on' B1.out hb)
  have NE := Lib.hid (show W.heap.size < W1.heap.size from X1.out.lt)
  have LE := Lib.hid (show W1.heap.size < W2.heap.size from Y2.out.lt)
  generalize W1.heap.size = b8 at *
  clear hY hb X1 B1 hA hB hz h0
  go_wp2_with fail
  obtain ⟨f0, hf0⟩ : ∃ f0, F 0 = f0 := ⟨_, rfl⟩
  have HF0 := Lib.hid hf0
  rw [hf0]
  clear hf0
  go_loopw [1, 22] (fun fv iv' wr => ∃ (k : Nat), fv = .int .i64 (F k : Nat) ∧ iv' = .int .i64 (k : Nat) ∧ k ≤ 104 ∧ Hid (Blk wr b8 [.int .u32 (fd (A k) : Nat), .int .u32 (fs (A k) : Nat), .int .u8 (fd (B k) : Nat), .int .u16 (fx (B k) : Nat), .int .u16 (fy (B k) : Nat)]) ∧ Hid (Blk wr W.heap.size [.int .u32 0, .int .u32 0, .int .u8 0, .int .u16 0, .int .u16 0]) ∧ Hid (Below W.heap.size W wr) ∧ Hid (b8 < wr.heap.size)) (fun _ iv' _ => 104 - (intOf iv').toNat)
  case atStart => exact ⟨0, by rw [HF0.out], rfl, by omega, Y2, X2, B2, LE⟩
  case round =>
    obtain ⟨k, rfl, rfl, hk, Yk, Xk, Bk, Lk⟩ := hrel
    clear Y2 X2 B2 LE HF0
    by_cases hkn : k < 104
    · have hwk : IntKind.i64.wrap ((k : Int) + 1) = ((k + 1 : Nat) : Int) := by rw [IntKind.wrap_i64]; omega
      have hkn' : (k : Int) < 104 := by omega
      go_wp2_with fail
      refine (CP.out k wr hkn Bk.out).mono ?_
      rintro e w1 ⟨rfl, hb⟩
      have Y1 := Lib.hid (Yk.out.on hb)
      have X1 := Lib.hid (Xk.out.on hb)
      have B1 := Lib.hid (bel_on' Bk.out hb)
      have L1 := Lib.hid (Nat.lt_of_lt_of_le Lk.out hb.size)
      clear hb Yk Xk Bk Lk
      have CWk := Lib.hid (fun w b => CW.out k w b hkn)
      clear CP CW
      have HWk := Lib.hid hwk
      have HKN := Lib.hid hkn
      clear hwk hkn hkn' hk
      generalize PL k = l at *
      generalize PH k = h at *
      go_upto_region 8 with fail
      refine at_code (S := fun w => Blk w w1.heap.size [.int .i64 (l : Nat), .int .i64 (h : Nat)] ∧ Below w1.heap.size w1 w) ⟨Blk.new _ _ _, bel_al (Below.refl _ _) _⟩ (fun w2 hW => ?_)
      obtain ⟨hP, hb⟩ := hW
      have P2 := Lib.hid hP
      have Y2 := Lib.hid (Y1.out.on hb)
      have X2 := Lib.hid (X1.out.on hb)
      have B2 := Lib.hid (bel_on' B1.out hb)
      have L2 := Lib.hid (Nat.lt_of_lt_of_le L1.out hb.size)
      have QN := Lib.hid (show w1.heap.size ≠ b8 by have := L1.out; omega)
      clear hP hb Y1 X1 B1 L1
      obtain ⟨q_0, q_1⟩ : _ ∧ _ := ⟨P2.out.1 0 _ rfl, P2.out.1 1 _ rfl⟩
      cases on with
      | true =>
        go_wp2_with fail
        refine (CS.out true w2).mono ?_
        rintro e w' ⟨rfl, rfl⟩
        by_cases hz : h = 0
        · have hz' : ((h : Nat) : Int) = 0 := by omega
          skip
          obtain ⟨hF, hC⟩ := CWk.out w2.drew false (by simp [hz])
          have hFk : F (k + 1) = l := by rw [hF]; rfl
          have HFk := Lib.hid hFk
          clear hF hC hFk
          go_upto_region 10 with fail
          refine wp_region_noPanic ?_
          refine wp_region_alongT (S := fun w' => w'.cell? ⟨w1.heap.size, 0, none⟩ = some (.int .i64 (l : Nat)) ∧ w'.cell? ⟨w1.heap.size, 1, none⟩ = some (.int .i64 (h : Nat))) (.pure 0 (.pure 5 (.pure 6 (.b2 1 (.pure 2 (.pure 3 (.b1 4 (.b1 7 (.pure 8 (.b1 9 .done)))))) 4 (.b1 1 (.pure 2 (.pure 3 (.b1 7 (.pure 8 (.b1 9 .done)))))))))) (by kernel_rfl) (by as_aux_lemma => kernel_rfl) (by decide) (by as_aux_lemma => kernel_rfl) (fun _ _ _ _ _ h => h) ⟨q_0, q_1⟩ (fun _ => ?_)
          clear q_0 q_1
          obtain ⟨wd, hwd⟩ : ∃ x, x = w2.drew := ⟨_, rfl⟩
          have hb := (Below.refl w2.heap.size w2).drew
          rw [← hwd] at hb ⊢
          clear hwd
          have Pd := Lib.hid (P2.out.on hb)
          have Yd := Lib.hid (Y2.out.on hb)
          have Xd := Lib.hid (X2.out.on hb)
          have Bd := Lib.hid (bel_on' B2.out hb)
          have Ld := Lib.hid (Nat.lt_of_lt_of_le L2.out hb.size)
          clear hb P2 Y2 X2 B2 L2
          iterate 3 (refine T_pure ?_ (by rfl) (fun w hSw => ?_) ?_; rotate_left; (obtain ⟨s_0, s_1⟩ := hSw; simp only [pickOp]; go_simp; try with_reducible rfl); try simp only [pickOp, Act.put, List.setIfInBounds_toArray, List.set_cons_zero, List.set_cons_succ])
          refine T_b2 (fun K hK => ?_) (fun K hK => ?_)
          · skip
            simp only [pickOp]
            go_simp
            refine (CS.out false wd).mono ?_
            rintro e w' ⟨rfl, rfl⟩
            try go_wp2_with fail
            refine hK.out _ _ (cells2' Pd.out) (fun _ => ?_)
            clear hK K
            try simp only [pickOp, Act.put, List.setIfInBounds_toArray, List.set_cons_zero, List.set_cons_succ]
            iterate 2 (refine T_pure ?_ (by rfl) (fun w hSw => ?_) ?_; rotate_left; (obtain ⟨s_0, s_1⟩ := hSw; simp only [pickOp]; go_simp; try with_reducible rfl); try simp only [pickOp, Act.put, List.setIfInBounds_toArray, List.set_cons_zero, List.set_cons_succ])
            refine T_b1 (fun K hK => ?_)
            simp only [pickOp]
            obtain ⟨y_0, y_1, y_2, y_3, y_4⟩ : _ ∧ _ ∧ _ ∧ _ ∧ _ := ⟨Yd.out.1 0 _ rfl, Yd.out.1 1 _ rfl, Yd.out.1 2 _ rfl, Yd.out.1 3 _ rfl, Yd.out.1 4 _ rfl⟩
            go_simp
            refine hK.out _ _ (cells2' Pd.out) (fun _ => ?_)
            clear hK K y_0 y_1 y_2 y_3 y_4
            try simp only [pickOp, Act.put, List.setIfInBounds_toArray, List.set_cons_zero, List.set_cons_succ]
            refine T_b1 (fun K hK => ?_)
            simp only [pickOp]
            go_simp
            refine (CWk.out wd false (by simp [hz])).2.mono ?_
            rintro e w5 ⟨rfl, hb⟩
            try go_wp2_with fail
            have P5 := Lib.hid (Pd.out.on hb)
            have Y5 := Lib.hid (Yd.out.on hb)
            have X5 := Lib.hid (Xd.out.on hb)
            have B5 := Lib.hid (bel_on' Bd.out hb)
            have L5 := Lib.hid (Nat.lt_of_lt_of_le Ld.out hb.size)
            refine hK.out _ _ (cells2' P5.out) (fun _ => ?_)
            clear hK K hb Pd Yd Xd Bd Ld CWk
            try simp only [pickOp, Act.put, List.setIfInBounds_toArray, List.set_cons_zero, List.set_cons_succ]
            iterate 1 (refine T_pure ?_ (by rfl) (fun w hSw => ?_) ?_; rotate_left; (obtain ⟨s_0, s_1⟩ := hSw; simp only [pickOp]; go_simp; try with_reducible rfl); try simp only [pickOp, Act.put, List.setIfInBounds_toArray, List.set_cons_zero, List.set_cons_succ])
            refine T_b1 (fun K hK => ?_)
            simp only [pickOp]
            obtain ⟨y_0, y_1, y_2, y_3, y_4⟩ : _ ∧ _ ∧ _ ∧ _ ∧ _ := ⟨Y5.out.1 0 _ rfl, Y5.out.1 1 _ rfl, Y5.out.1 2 _ rfl, Y5.out.1 3 _ rfl, Y5.out.1 4 _ rfl⟩
            obtain ⟨yz_0, yz_1, yz_2, yz_3, yz_4⟩ : _ ∧ _ ∧ _ ∧ _ ∧ _ := ⟨Y5.out.2 0 _ rfl, Y5.out.2 1 _ rfl, Y5.out.2 2 _ rfl, Y5.out.2 3 _ rfl, Y5.out.2 4 _ rfl⟩
            go_simp
            have Yn := Lib.hid (Blk.five Y5.out (.int .u32 (fd (A (k + 1)) : Nat)) (.int .u32 (fs (A (k + 1)) : Nat)) (.int .u8 (fd (B (k + 1)) : Nat)) (.int .u16 (fx (B (k + 1)) : Nat)) (.int .u16 (fy (B (k + 1)) : Nat)))
            have Xn := Lib.hid (far5 X5.out (c := b8) (by have := NE.out; omega) (.int .u32 (fd (A (k + 1)) : Nat)) (.int .u32 (fs (A (k + 1)) : Nat)) (.int .u8 (fd (B (k + 1)) : Nat)) (.int .u16 (fx (B (k + 1)) : Nat)) (.int .u16 (fy (B (k + 1)) : Nat)))
            have Pn := Lib.hid (far5 P5.out (c := b8) (fun e => QN.out e.symm) (.int .u32 (fd (A (k + 1)) : Nat)) (.int .u32 (fs (A (k + 1)) : Nat)) (.int .u8 (fd (B (k + 1)) : Nat)) (.int .u16 (fx (B (k + 1)) : Nat)) (.int .u16 (fy (B (k + 1)) : Nat)))
            have Bn := Lib.hid (bel5 B5.out (c := b8) (by have := NE.out; omega) (.int .u32 (fd (A (k + 1)) : Nat)) (.int .u32 (fs (A (k + 1)) : Nat)) (.int .u8 (fd (B (k + 1)) : Nat)) (.int .u16 (fx (B (k + 1)) : Nat)) (.int .u16 (fy (B (k + 1)) : Nat)))
            refine hK.out _ _ (cells2' Pn.out) (fun _ => ?_)
            clear hK K
            try simp only [pickOp, Act.put, List.setIfInBounds_toArray, List.set_cons_zero, List.set_cons_succ]
            refine T_done (NoPanic.normal ?_)
            clear y_0 yz_0 y_1 yz_1 y_2 yz_2 y_3 yz_3 y_4 yz_4
            have hwk := HWk.out
            go_wp2_with fail
            refine ⟨⟨k + 1, ?_, ?_, by have := HKN.out; omega, Yn, Xn, Bn, ?_⟩, by have := HKN.out; simp [intOf] <;> omega⟩
            · rw [HFk.out]
            · first | rfl | rw [hwk]
            · exact Lib.hid (by have := L5.out; simp [World.size_setCell]; exact this)
          · skip
            simp only [pickOp]
            obtain ⟨y_0, y_1, y_2, y_3, y_4⟩ : _ ∧ _ ∧ _ ∧ _ ∧ _ := ⟨Yd.out.1 0 _ rfl, Yd.out.1 1 _ rfl, Yd.out.1 2 _ rfl, Yd.out.1 3 _ rfl, Yd.out.1 4 _ rfl⟩
            go_simp
            refine hK.out _ _ (cells2' Pd.out) (fun _ => ?_)
            clear hK K y_0 y_1 y_2 y_3 y_4
            try simp only [pickOp, Act.put, List.setIfInBounds_toArray, List.set_cons_zero, List.set_cons_succ]
            refine T_b1 (fun K hK => ?_)
            simp only [pickOp]
            go_simp
            refine (CS.out false wd).mono ?_
            rintro e w' ⟨rfl, rfl⟩
            try go_wp2_with fail
            refine hK.out _ _ (cells2' Pd.out) (fun _ => ?_)
            clear hK K
            try simp only [pickOp, Act.put, List.setIfInBounds_toArray, List.set_cons_zero, List.set_cons_succ]
            iterate 2 (refine T_pure ?_ (by rfl) (fun w hSw => ?_) ?_; rotate_left; (obtain ⟨s_0, s_1⟩ := hSw; simp only [pickOp]; go_simp; try with_reducible rfl); try simp only [pickOp, Act.put, List.setIfInBounds_toArray, List.set_cons_zero, List.set_cons_succ])
            refine T_b1 (fun K hK => ?_)
            simp only [pickOp]
            go_simp
            refine (CWk.out wd false (by simp [hz])).2.mono ?_
            rintro e w5 ⟨rfl, hb⟩
            try go_wp2_with fail
            have P5 := Lib.hid (Pd.out.on hb)
            have Y5 := Lib.hid (Yd.out.on hb)
            have X5 := Lib.hid (Xd.out.on hb)
            have B5 := Lib.hid (bel_on' Bd.out hb)
            have L5 := Lib.hid (Nat.lt_of_lt_of_le Ld.out hb.size)
            refine hK.out _ _ (cells2' P5.out) (fun _ => ?_)
            clear hK K hb Pd Yd Xd Bd Ld CWk
            try simp only [pickOp, Act.put, List.setIfInBounds_toArray, List.set_cons_zero, List.set_cons_succ]
            iterate 1 (refine T_pure ?_ (by rfl) (fun w hSw => ?_) ?_; rotate_left; (obtain ⟨s_0, s_1⟩ := hSw; simp only [pickOp]; go_simp; try with_reducible rfl); try simp only [pickOp, Act.put, List.setIfInBounds_toArray, List.set_cons_zero, List.set_cons_succ])
            refine T_b1 (fun K hK => ?_)
            simp only [pickOp]
            obtain ⟨y_0, y_1, y_2, y_3, y_4⟩ : _ ∧ _ ∧ _ ∧ _ ∧ _ := ⟨Y5.out.1 0 _ rfl, Y5.out.1 1 _ rfl, Y5.out.1 2 _ rfl, Y5.out.1 3 _ rfl, Y5.out.1 4 _ rfl⟩
            obtain ⟨yz_0, yz_1, yz_2, yz_3, yz_4⟩ : _ ∧ _ ∧ _ ∧ _ ∧ _ := ⟨Y5.out.2 0 _ rfl, Y5.out.2 1 _ rfl, Y5.out.2 2 _ rfl, Y5.out.2 3 _ rfl, Y5.out.2 4 _ rfl⟩
            go_simp
            have Yn := Lib.hid (Blk.five Y5.out (.int .u32 (fd (A (k + 1)) : Nat)) (.int .u32 (fs (A (k + 1)) : Nat)) (.int .u8 (fd (B (k + 1)) : Nat)) (.int .u16 (fx (B (k + 1)) : Nat)) (.int .u16 (fy (B (k + 1)) : Nat)))
            have Xn := Lib.hid (far5 X5.out (c := b8) (by have := NE.out; omega) (.int .u32 (fd (A (k + 1)) : Nat)) (.int .u32 (fs (A (k + 1)) : Nat)) (.int .u8 (fd (B (k + 1)) : Nat)) (.int .u16 (fx (B (k + 1)) : Nat)) (.int .u16 (fy (B (k + 1)) : Nat)))
            have Pn := Lib.hid (far5 P5.out (c := b8) (fun e => QN.out e.symm) (.int .u32 (fd (A (k + 1)) : Nat)) (.int .u32 (fs (A (k + 1)) : Nat)) (.int .u8 (fd (B (k + 1)) : Nat)) (.int .u16 (fx (B (k + 1)) : Nat)) (.int .u16 (fy (B (k + 1)) : Nat)))
            have Bn := Lib.hid (bel5 B5.out (c := b8) (by have := NE.out; omega) (.int .u32 (fd (A (k + 1)) : Nat)) (.int .u32 (fs (A (k + 1)) : Nat)) (.int .u8 (fd (B (k + 1)) : Nat)) (.int .u16 (fx (B (k + 1)) : Nat)) (.int .u16 (fy (B (k + 1)) : Nat)))
            refine hK.out _ _ (cells2' Pn.out) (fun _ => ?_)
            clear hK K
            try simp only [pickOp, Act.put, List.setIfInBounds_toArray, List.set_cons_zero, List.set_cons_succ]
            refine T_done (NoPanic.normal ?_)
            clear y_0 yz_0 y_1 yz_1 y_2 yz_2 y_3 yz_3 y_4 yz_4
            have hwk := HWk.out
            go_wp2_with fail
            refine ⟨⟨k + 1, ?_, ?_, by have := HKN.out; omega, Yn, Xn, Bn, ?_⟩, by have := HKN.out; simp [intOf] <;> omega⟩
            · rw [HFk.out]
            · first | rfl | rw [hwk]
            · exact Lib.hid (by have := L5.out; simp [World.size_setCell]; exact this)
        · have hz' := nat_beq0 hz
          skip
          obtain ⟨hF, hC⟩ := CWk.out w2.drew true (by simp [hz])
          have hFk : F (k + 1) = h := by rw [hF]; rfl
          have HFk := Lib.hid hFk
          clear hF hC hFk
          go_upto_region 10 with fail
          refine wp_region_noPanic ?_
          refine wp_region_alongT (S := fun w' => w'.cell? ⟨w1.heap.size, 0, none⟩ = some (.int .i64 (l : Nat)) ∧ w'.cell? ⟨w1.heap.size, 1, none⟩ = some (.int .i64 (h : Nat))) (.pure 0 (.pure 5 (.pure 6 (.b2 1 (.pure 2 (.pure 3 (.b1 4 (.b1 7 (.pure 8 (.b1 9 .done)))))) 4 (.b1 1 (.pure 2 (.pure 3 (.b1 7 (.pure 8 (.b1 9 .done)))))))))) (by kernel_rfl) (by as_aux_lemma => kernel_rfl) (by decide) (by as_aux_lemma => kernel_rfl) (fun _ _ _ _ _ h => h) ⟨q_0, q_1⟩ (fun _ => ?_)
          clear q_0 q_1
          obtain ⟨wd, hwd⟩ : ∃ x, x = w2.drew := ⟨_, rfl⟩
          have hb := (Below.refl w2.heap.size w2).drew
          rw [← hwd] at hb ⊢
          clear hwd
          have Pd := Lib.hid (P2.out.on hb)
          have Yd := Lib.hid (Y2.out.on hb)
          have Xd := Lib.hid (X2.out.on hb)
          have Bd := Lib.hid (bel_on' B2.out hb)
          have Ld := Lib.hid (Nat.lt_of_lt_of_le L2.out hb.size)
          clear hb P2 Y2 X2 B2 L2
          iterate 3 (refine T_pure ?_ (by rfl) (fun w hSw => ?_) ?_; rotate_left; (obtain ⟨s_0, s_1⟩ := hSw; simp only [pickOp]; go_simp; try with_reducible rfl); try simp only [pickOp, Act.put, List.setIfInBounds_toArray, List.set_cons_zero, List.set_cons_succ])
          refine T_b2 (fun K hK => ?_) (fun K hK => ?_)
          · skip
            simp only [pickOp]
            go_simp
            refine (CS.out true wd).mono ?_
            rintro e w' ⟨rfl, rfl⟩
            try go_wp2_with fail
            refine hK.out _ _ (cells2' Pd.out) (fun _ => ?_)
            clear hK K
            try simp only [pickOp, Act.put, List.setIfInBounds_toArray, List.set_cons_zero, List.set_cons_succ]
            iterate 2 (refine T_pure ?_ (by rfl) (fun w hSw => ?_) ?_; rotate_left; (obtain ⟨s_0, s_1⟩ := hSw; simp only [pickOp]; go_simp; try with_reducible rfl); try simp only [pickOp, Act.put, List.setIfInBounds_toArray, List.set_cons_zero, List.set_cons_succ])
            refine T_b1 (fun K hK => ?_)
            simp only [pickOp]
            obtain ⟨y_0, y_1, y_2, y_3, y_4⟩ : _ ∧ _ ∧ _ ∧ _ ∧ _ := ⟨Yd.out.1 0 _ rfl, Yd.out.1 1 _ rfl, Yd.out.1 2 _ rfl, Yd.out.1 3 _ rfl, Yd.out.1 4 _ rfl⟩
            go_simp
            refine hK.out _ _ (cells2' Pd.out) (fun _ => ?_)
            clear hK K y_0 y_1 y_2 y_3 y_4
            try simp only [pickOp, Act.put, List.setIfInBounds_toArray, List.set_cons_zero, List.set_cons_succ]
            refine T_b1 (fun K hK => ?_)
            simp only [pickOp]
            go_simp
            refine (CWk.out wd true (by simp [hz])).2.mono ?_
            rintro e w5 ⟨rfl, hb⟩
            try go_wp2_with fail
            have P5 := Lib.hid (Pd.out.on hb)
            have Y5 := Lib.hid (Yd.out.on hb)
            have X5 := Lib.hid (Xd.out.on hb)
            have B5 := Lib.hid (bel_on' Bd.out hb)
            have L5 := Lib.hid (Nat.lt_of_lt_of_le Ld.out hb.size)
            refine hK.out _ _ (cells2' P5.out) (fun _ => ?_)
            clear hK K hb Pd Yd Xd Bd Ld CWk
            try simp only [pickOp, Act.put, List.setIfInBounds_toArray, List.set_cons_zero, List.set_cons_succ]
            iterate 1 (refine T_pure ?_ (by rfl) (fun w hSw => ?_) ?_; rotate_left; (obtain ⟨s_0, s_1⟩ := hSw; simp only [pickOp]; go_simp; try with_reducible rfl); try simp only [pickOp, Act.put, List.setIfInBounds_toArray, List.set_cons_zero, List.set_cons_succ])
            refine T_b1 (fun K hK => ?_)
            simp only [pickOp]
            obtain ⟨y_0, y_1, y_2, y_3, y_4⟩ : _ ∧ _ ∧ _ ∧ _ ∧ _ := ⟨Y5.out.1 0 _ rfl, Y5.out.1 1 _ rfl, Y5.out.1 2 _ rfl, Y5.out.1 3 _ rfl, Y5.out.1 4 _ rfl⟩
            obtain ⟨yz_0, yz_1, yz_2, yz_3, yz_4⟩ : _ ∧ _ ∧ _ ∧ _ ∧ _ := ⟨Y5.out.2 0 _ rfl, Y5.out.2 1 _ rfl, Y5.out.2 2 _ rfl, Y5.out.2 3 _ rfl, Y5.out.2 4 _ rfl⟩
            go_simp
            have Yn := Lib.hid (Blk.five Y5.out (.int .u32 (fd (A (k + 1)) : Nat)) (.int .u32 (fs (A (k + 1)) : Nat)) (.int .u8 (fd (B (k + 1)) : Nat)) (.int .u16 (fx (B (k + 1)) : Nat)) (.int .u16 (fy (B (k + 1)) : Nat)))
            have Xn := Lib.hid (far5 X5.out (c := b8) (by have := NE.out; omega) (.int .u32 (fd (A (k + 1)) : Nat)) (.int .u32 (fs (A (k + 1)) : Nat)) (.int .u8 (fd (B (k + 1)) : Nat)) (.int .u16 (fx (B (k + 1)) : Nat)) (.int .u16 (fy (B (k + 1)) : Nat)))
            have Pn := Lib.hid (far5 P5.out (c := b8) (fun e => QN.out e.symm) (.int .u32 (fd (A (k + 1)) : Nat)) (.int .u32 (fs (A (k + 1)) : Nat)) (.int .u8 (fd (B (k + 1)) : Nat)) (.int .u16 (fx (B (k + 1)) : Nat)) (.int .u16 (fy (B (k + 1)) : Nat)))
            have Bn := Lib.hid (bel5 B5.out (c := b8) (by have := NE.out; omega) (.int .u32 (fd (A (k + 1)) : Nat)) (.int .u32 (fs (A (k + 1)) : Nat)) (.int .u8 (fd (B (k + 1)) : Nat)) (.int .u16 (fx (B (k + 1)) : Nat)) (.int .u16 (fy (B (k + 1)) : Nat)))
            refine hK.out _ _ (cells2' Pn.out) (fun _ => ?_)
            clear hK K
            try simp only [pickOp, Act.put, List.setIfInBounds_toArray, List.set_cons_zero, List.set_cons_succ]
            refine T_done (NoPanic.normal ?_)
            clear y_0 yz_0 y_1 yz_1 y_2 yz_2 y_3 yz_3 y_4 yz_4
            have hwk := HWk.out
            go_wp2_with fail
            refine ⟨⟨k + 1, ?_, ?_, by have := HKN.out; omega, Yn, Xn, Bn, ?_⟩, by have := HKN.out; simp [intOf] <;> omega⟩
            · rw [HFk.out]
            · first | rfl | rw [hwk]
            · exact Lib.hid (by have := L5.out; simp [World.size_setCell]; exact this)
          · skip
            simp only [pickOp]
            obtain ⟨y_0, y_1, y_2, y_3, y_4⟩ : _ ∧ _ ∧ _ ∧ _ ∧ _ := ⟨Yd.out.1 0 _ rfl, Yd.out.1 1 _ rfl, Yd.out.1 2 _ rfl, Yd.out.1 3 _ rfl, Yd.out.1 4 _ rfl⟩
            go_simp
            refine hK.out _ _ (cells2' Pd.out) (fun _ => ?_)
            clear hK K y_0 y_1 y_2 y_3 y_4
            try simp only [pickOp, Act.put, List.setIfInBounds_toArray, List.set_cons_zero, List.set_cons_succ]
            refine T_b1 (fun K hK => ?_)
            simp only [pickOp]
            go_simp
            refine (CS.out true wd).mono ?_
            rintro e w' ⟨rfl, rfl⟩
            try go_wp2_with fail
            refine hK.out _ _ (cells2' Pd.out) (fun _ => ?_)
            clear hK K
            try simp only [pickOp, Act.put, List.setIfInBounds_toArray, List.set_cons_zero, List.set_cons_succ]
            iterate 2 (refine T_pure ?_ (by rfl) (fun w hSw => ?_) ?_; rotate_left; (obtain ⟨s_0, s_1⟩ := hSw; simp only [pickOp]; go_simp; try with_reducible rfl); try simp only [pickOp, Act.put, List.setIfInBounds_toArray, List.set_cons_zero, List.set_cons_succ])
            refine T_b1 (fun K hK => ?_)
            simp only [pickOp]
            go_simp
            refine (CWk.out wd true (by simp [hz])).2.mono ?_
            rintro e w5 ⟨rfl, hb⟩
            try go_wp2_with fail
            have P5 := Lib.hid (Pd.out.on hb)
            have Y5 := Lib.hid (Yd.out.on hb)
            have X5 := Lib.hid (Xd.out.on hb)
            have B5 := Lib.hid (bel_on' Bd.out hb)
            have L5 := Lib.hid (Nat.lt_of_lt_of_le Ld.out hb.size)
            refine hK.out _ _ (cells2' P5.out) (fun _ => ?_)
            clear hK K hb Pd Yd Xd Bd Ld CWk
            try simp only [pickOp, Act.put, List.setIfInBounds_toArray, List.set_cons_zero, List.set_cons_succ]
            iterate 1 (refine T_pure ?_ (by rfl) (fun w hSw => ?_) ?_; rotate_left; (obtain ⟨s_0, s_1⟩ := hSw; simp only [pickOp]; go_simp; try with_reducible rfl); try simp only [pickOp, Act.put, List.setIfInBounds_toArray, List.set_cons_zero, List.set_cons_succ])
            refine T_b1 (fun K hK => ?_)
            simp only [pickOp]
            obtain ⟨y_0, y_1, y_2, y_3, y_4⟩ : _ ∧ _ ∧ _ ∧ _ ∧ _ := ⟨Y5.out.1 0 _ rfl, Y5.out.1 1 _ rfl, Y5.out.1 2 _ rfl, Y5.out.1 3 _ rfl, Y5.out.1 4 _ rfl⟩
            obtain ⟨yz_0, yz_1, yz_2, yz_3, yz_4⟩ : _ ∧ _ ∧ _ ∧ _ ∧ _ := ⟨Y5.out.2 0 _ rfl, Y5.out.2 1 _ rfl, Y5.out.2 2 _ rfl, Y5.out.2 3 _ rfl, Y5.out.2 4 _ rfl⟩
            go_simp
            have Yn := Lib.hid (Blk.five Y5.out (.int .u32 (fd (A (k + 1)) : Nat)) (.int .u32 (fs (A (k + 1)) : Nat)) (.int .u8 (fd (B (k + 1)) : Nat)) (.int .u16 (fx (B (k + 1)) : Nat)) (.int .u16 (fy (B (k + 1)) : Nat)))
            have Xn := Lib.hid (far5 X5.out (c := b8) (by have := NE.out; omega) (.int .u32 (fd (A (k + 1)) : Nat)) (.int .u32 (fs (A (k + 1)) : Nat)) (.int .u8 (fd (B (k + 1)) : Nat)) (.int .u16 (fx (B (k + 1)) : Nat)) (.int .u16 (fy (B (k + 1)) : Nat)))
            have Pn := Lib.hid (far5 P5.out (c := b8) (fun e => QN.out e.symm) (.int .u32 (fd (A (k + 1)) : Nat)) (.int .u32 (fs (A (k + 1)) : Nat)) (.int .u8 (fd (B (k + 1)) : Nat)) (.int .u16 (fx (B (k + 1)) : Nat)) (.int .u16 (fy (B (k + 1)) : Nat)))
            have Bn := Lib.hid (bel5 B5.out (c := b8) (by have := NE.out; omega) (.int .u32 (fd (A (k + 1)) : Nat)) (.int .u32 (fs (A (k + 1)) : Nat)) (.int .u8 (fd (B (k + 1)) : Nat)) (.int .u16 (fx (B (k + 1)) : Nat)) (.int .u16 (fy (B (k + 1)) : Nat)))
            refine hK.out _ _ (cells2' Pn.out) (fun _ => ?_)
            clear hK K
            try simp only [pickOp, Act.put, List.setIfInBounds_toArray, List.set_cons_zero, List.set_cons_succ]
            refine T_done (NoPanic.normal ?_)
            clear y_0 yz_0 y_1 yz_1 y_2 yz_2 y_3 yz_3 y_4 yz_4
            have hwk := HWk.out
            go_wp2_with fail
            refine ⟨⟨k + 1, ?_, ?_, by have := HKN.out; omega, Yn, Xn, Bn, ?_⟩, by have := HKN.out; simp [intOf] <;> omega⟩
            · rw [HFk.out]
            · first | rfl | rw [hwk]
            · exact Lib.hid (by have := L5.out; simp [World.size_setCell]; exact this)
      | false =>
        go_wp2_with fail
        refine (CS.out false w2).mono ?_
        rintro e w' ⟨rfl, rfl⟩
        by_cases hz : l = 0
        · have hz' : ((l : Nat) : Int) = 0 := by omega
          skip
          obtain ⟨hF, hC⟩ := CWk.out w2.drew true (by simp [hz])
          have hFk : F (k + 1) = h := by rw [hF]; rfl
          have HFk := Lib.hid hFk
          clear hF hC hFk
          go_upto_region 10 with fail
          refine wp_region_noPanic ?_
          refine wp_region_alongT (S := fun w' => w'.cell? ⟨w1.heap.size, 0, none⟩ = some (.int .i64 (l : Nat)) ∧ w'.cell? ⟨w1.heap.size, 1, none⟩ = some (.int .i64 (h : Nat))) (.pure 0 (.pure 5 (.pure 6 (.b2 1 (.pure 2 (.pure 3 (.b1 4 (.b1 7 (.pure 8 (.b1 9 .done)))))) 4 (.b1 1 (.pure 2 (.pure 3 (.b1 7 (.pure 8 (.b1 9 .done)))))))))) (by kernel_rfl) (by as_aux_lemma => kernel_rfl) (by decide) (by as_aux_lemma => kernel_rfl) (fun _ _ _ _ _ h => h) ⟨q_0, q_1⟩ (fun _ => ?_)
          clear q_0 q_1
          obtain ⟨wd, hwd⟩ : ∃ x, x = w2.drew := ⟨_, rfl⟩
          have hb := (Below.refl w2.heap.size w2).drew
          rw [← hwd] at hb ⊢
          clear hwd
          have Pd := Lib.hid (P2.out.on hb)
          have Yd := Lib.hid (Y2.out.on hb)
          have Xd := Lib.hid (X2.out.on hb)
          have Bd := Lib.hid (bel_on' B2.out hb)
          have Ld := Lib.hid (Nat.lt_of_lt_of_le L2.out hb.size)
          clear hb P2 Y2 X2 B2 L2
          iterate 3 (refine T_pure ?_ (by rfl) (fun w hSw => ?_) ?_; rotate_left; (obtain ⟨s_0, s_1⟩ := hSw; simp only [pickOp]; go_simp; try with_reducible rfl); try simp only [pickOp, Act.put, List.setIfInBounds_toArray, List.set_cons_zero, List.set_cons_succ])
          refine T_b2 (fun K hK => ?_) (fun K hK => ?_)
          · skip
            simp only [pickOp]
            go_simp
            refine (CS.out true wd).mono ?_
            rintro e w' ⟨rfl, rfl⟩
            try go_wp2_with fail
            refine hK.out _ _ (cells2' Pd.out) (fun _ => ?_)
            clear hK K
            try simp only [pickOp, Act.put, List.setIfInBounds_toArray, List.set_cons_zero, List.set_cons_succ]
            iterate 2 (refine T_pure ?_ (by rfl) (fun w hSw => ?_) ?_; rotate_left; (obtain ⟨s_0, s_1⟩ := hSw; simp only [pickOp]; go_simp; try with_reducible rfl); try simp only [pickOp, Act.put, List.setIfInBounds_toArray, List.set_cons_zero, List.set_cons_succ])
            refine T_b1 (fun K hK => ?_)
            simp only [pickOp]
            obtain ⟨y_0, y_1, y_2, y_3, y_4⟩ : _ ∧ _ ∧ _ ∧ _ ∧ _ := ⟨Yd.out.1 0 _ rfl, Yd.out.1 1 _ rfl, Yd.out.1 2 _ rfl, Yd.out.1 3 _ rfl, Yd.out.1 4 _ rfl⟩
            go_simp
            refine hK.out _ _ (cells2' Pd.out) (fun _ => ?_)
            clear hK K y_0 y_1 y_2 y_3 y_4
            try simp only [pickOp, Act.put, List.setIfInBounds_toArray, List.set_cons_zero, List.set_cons_succ]
            refine T_b1 (fun K hK => ?_)
            simp only [pickOp]
            go_simp
            refine (CWk.out wd true (by simp [hz])).2.mono ?_
            rintro e w5 ⟨rfl, hb⟩
            try go_wp2_with fail
            have P5 := Lib.hid (Pd.out.on hb)
            have Y5 := Lib.hid (Yd.out.on hb)
            have X5 := Lib.hid (Xd.out.on hb)
            have B5 := Lib.hid (bel_on' Bd.out hb)
            have L5 := Lib.hid (Nat.lt_of_lt_of_le Ld.out hb.size)
            refine hK.out _ _ (cells2' P5.out) (fun _ => ?_)
            clear hK K hb Pd Yd Xd Bd Ld CWk
            try simp only [pickOp, Act.put, List.setIfInBounds_toArray, List.set_cons_zero, List.set_cons_succ]
            iterate 1 (refine T_pure ?_ (by rfl) (fun w hSw => ?_) ?_; rotate_left; (obtain ⟨s_0, s_1⟩ := hSw; simp only [pickOp]; go_simp; try with_reducible rfl); try simp only [pickOp, Act.put, List.setIfInBounds_toArray, List.set_cons_zero, List.set_cons_succ])
            refine T_b1 (fun K hK => ?_)
            simp only [pickOp]
            obtain ⟨y_0, y_1, y_2, y_3, y_4⟩ : _ ∧ _ ∧ _ ∧ _ ∧ _ := ⟨Y5.out.1 0 _ rfl, Y5.out.1 1 _ rfl, Y5.out.1 2 _ rfl, Y5.out.1 3 _ rfl, Y5.out.1 4 _ rfl⟩
            obtain ⟨yz_0, yz_1, yz_2, yz_3, yz_4⟩ : _ ∧ _ ∧ _ ∧ _ ∧ _ := ⟨Y5.out.2 0 _ rfl, Y5.out.2 1 _ rfl, Y5.out.2 2 _ rfl, Y5.out.2 3 _ rfl, Y5.out.2 4 _ rfl⟩
            go_simp
            have Yn := Lib.hid (Blk.five Y5.out (.int .u32 (fd (A (k + 1)) : Nat)) (.int .u32 (fs (A (k + 1)) : Nat)) (.int .u8 (fd (B (k + 1)) : Nat)) (.int .u16 (fx (B (k + 1)) : Nat)) (.int .u16 (fy (B (k + 1)) : Nat)))
            have Xn := Lib.hid (far5 X5.out (c := b8) (by have := NE.out; omega) (.int .u32 (fd (A (k + 1)) : Nat)) (.int .u32 (fs (A (k + 1)) : Nat)) (.int .u8 (fd (B (k + 1)) : Nat)) (.int .u16 (fx (B (k + 1)) : Nat)) (.int .u16 (fy (B (k + 1)) : Nat)))
            have Pn := Lib.hid (far5 P5.out (c := b8) (fun e => QN.out e.symm) (.int .u32 (fd (A (k + 1)) : Nat)) (.int .u32 (fs (A (k + 1)) : Nat)) (.int .u8 (fd (B (k + 1)) : Nat)) (.int .u16 (fx (B (k + 1)) : Nat)) (.int .u16 (fy (B (k + 1)) : Nat)))
            have Bn := Lib.hid (bel5 B5.out (c := b8) (by have := NE.out; omega) (.int .u32 (fd (A (k + 1)) : Nat)) (.int .u32 (fs (A (k + 1)) : Nat)) (.int .u8 (fd (B (k + 1)) : Nat)) (.int .u16 (fx (B (k + 1)) : Nat)) (.int .u16 (fy (B (k + 1)) : Nat)))
            refine hK.out _ _ (cells2' Pn.out) (fun _ => ?_)
            clear hK K
            try simp only [pickOp, Act.put, List.setIfInBounds_toArray, List.set_cons_zero, List.set_cons_succ]
            refine T_done (NoPanic.normal ?_)
            clear y_0 yz_0 y_1 yz_1 y_2 yz_2 y_3 yz_3 y_4 yz_4
            have hwk := HWk.out
            go_wp2_with fail
            refine ⟨⟨k + 1, ?_, ?_, by have := HKN.out; omega, Yn, Xn, Bn, ?_⟩, by have := HKN.out; simp [intOf] <;> omega⟩
            · rw [HFk.out]
            · first | rfl | rw [hwk]
            · exact Lib.hid (by have := L5.out; simp [World.size_setCell]; exact this)
          · skip
            simp only [pickOp]
            obtain ⟨y_0, y_1, y_2, y_3, y_4⟩ : _ ∧ _ ∧ _ ∧ _ ∧ _ := ⟨Yd.out.1 0 _ rfl, Yd.out.1 1 _ rfl, Yd.out.1 2 _ rfl, Yd.out.1 3 _ rfl, Yd.out.1 4 _ rfl⟩
            go_simp
            refine hK.out _ _ (cells2' Pd.out) (fun _ => ?_)
            clear hK K y_0 y_1 y_2 y_3 y_4
            try simp only [pickOp, Act.put, List.setIfInBounds_toArray, List.set_cons_zero, List.set_cons_succ]
            refine T_b1 (fun K hK => ?_)
            simp only [pickOp]
            go_simp
            refine (CS.out true wd).mono ?_
            rintro e w' ⟨rfl, rfl⟩
            try go_wp2_with fail
            refine hK.out _ _ (cells2' Pd.out) (fun _ => ?_)
            clear hK K
            try simp only [pickOp, Act.put, List.setIfInBounds_toArray, List.set_cons_zero, List.set_cons_succ]
            iterate 2 (refine T_pure ?_ (by rfl) (fun w hSw => ?_) ?_; rotate_left; (obtain ⟨s_0, s_1⟩ := hSw; simp only [pickOp]; go_simp; try with_reducible rfl); try simp only [pickOp, Act.put, List.setIfInBounds_toArray, List.set_cons_zero, List.set_cons_succ])
            refine T_b1 (fun K hK => ?_)
            simp only [pickOp]
            go_simp
            refine (CWk.out wd true (by simp [hz])).2.mono ?_
            rintro e w5 ⟨rfl, hb⟩
            try go_wp2_with fail
            have P5 := Lib.hid (Pd.out.on hb)
            have Y5 := Lib.hid (Yd.out.on hb)
            have X5 := Lib.hid (Xd.out.on hb)
            have B5 := Lib.hid (bel_on' Bd.out hb)
            have L5 := Lib.hid (Nat.lt_of_lt_of_le Ld.out hb.size)
            refine hK.out _ _ (cells2' P5.out) (fun _ => ?_)
            clear hK K hb Pd Yd Xd Bd Ld CWk
            try simp only [pickOp, Act.put, List.setIfInBounds_toArray, List.set_cons_zero, List.set_cons_succ]
            iterate 1 (refine T_pure ?_ (by rfl) (fun w hSw => ?_) ?_; rotate_left; (obtain ⟨s_0, s_1⟩ := hSw; simp only [pickOp]; go_simp; try with_reducible rfl); try simp only [pickOp, Act.put, List.setIfInBounds_toArray, List.set_cons_zero, List.set_cons_succ])
            refine T_b1 (fun K hK => ?_)
            simp only [pickOp]
            obtain ⟨y_0, y_1, y_2, y_3, y_4⟩ : _ ∧ _ ∧ _ ∧ _ ∧ _ := ⟨Y5.out.1 0 _ rfl, Y5.out.1 1 _ rfl, Y5.out.1 2 _ rfl, Y5.out.1 3 _ rfl, Y5.out.1 4 _ rfl⟩
            obtain ⟨yz_0, yz_1, yz_2, yz_3, yz_4⟩ : _ ∧ _ ∧ _ ∧ _ ∧ _ := ⟨Y5.out.2 0 _ rfl, Y5.out.2 1 _ rfl, Y5.out.2 2 _ rfl, Y5.out.2 3 _ rfl, Y5.out.2 4 _ rfl⟩
            go_simp
            have Yn := Lib.hid (Blk.five Y5.out (.int .u32 (fd (A (k + 1)) : Nat)) (.int .u32 (fs (A (k + 1)) : Nat)) (.int .u8 (fd (B (k + 1)) : Nat)) (.int .u16 (fx (B (k + 1)) : Nat)) (.int .u16 (fy (B (k + 1)) : Nat)))
            have Xn := Lib.hid (far5 X5.out (c := b8) (by have := NE.out; omega) (.int .u32 (fd (A (k + 1)) : Nat)) (.int .u32 (fs (A (k + 1)) : Nat)) (.int .u8 (fd (B (k + 1)) : Nat)) (.int .u16 (fx (B (k + 1)) : Nat)) (.int .u16 (fy (B (k + 1)) : Nat)))
            have Pn := Lib.hid (far5 P5.out (c := b8) (fun e => QN.out e.symm) (.int .u32 (fd (A (k + 1)) : Nat)) (.int .u32 (fs (A (k + 1)) : Nat)) (.int .u8 (fd (B (k + 1)) : Nat)) (.int .u16 (fx (B (k + 1)) : Nat)) (.int .u16 (fy (B (k + 1)) : Nat)))
            have Bn := Lib.hid (bel5 B5.out (c := b8) (by have := NE.out; omega) (.int .u32 (fd (A (k + 1)) : Nat)) (.int .u32 (fs (A (k + 1)) : Nat)) (.int .u8 (fd (B (k + 1)) : Nat)) (.int .u16 (fx (B (k + 1)) : Nat)) (.int .u16 (fy (B (k + 1)) : Nat)))
            refine hK.out _ _ (cells2' Pn.out) (fun _ => ?_)
            clear hK K
            try simp only [pickOp, Act.put, List.setIfInBounds_toArray, List.set_cons_zero, List.set_cons_succ]
            refine T_done (NoPanic.normal ?_)
            clear y_0 yz_0 y_1 yz_1 y_2 yz_2 y_3 yz_3 y_4 yz_4
            have hwk := HWk.out
            go_wp2_with fail
            refine ⟨⟨k + 1, ?_, ?_, by have := HKN.out; omega, Yn, Xn, Bn, ?_⟩, by have := HKN.out; simp [intOf] <;> omega⟩
            · rw [HFk.out]
            · first | rfl | rw [hwk]
            · exact Lib.hid (by have := L5.out; simp [World.size_setCell]; exact this)
        · have hz' := nat_beq0 hz
          skip
          obtain ⟨hF, hC⟩ := CWk.out w2.drew false (by simp [hz])
          have hFk : F (k + 1) = l := by rw [hF]; rfl
          have HFk := Lib.hid hFk
          clear hF hC hFk
          go_upto_region 10 with fail
          refine wp_region_noPanic ?_
          refine wp_region_alongT (S := fun w' => w'.cell? ⟨w1.heap.size, 0, none⟩ = some (.int .i64 (l : Nat)) ∧ w'.cell? ⟨w1.heap.size, 1, none⟩ = some (.int .i64 (h : Nat))) (.pure 0 (.pure 5 (.pure 6 (.b2 1 (.pure 2 (.pure 3 (.b1 4 (.b1 7 (.pure 8 (.b1 9 .done)))))) 4 (.b1 1 (.pure 2 (.pure 3 (.b1 7 (.pure 8 (.b1 9 .done)))))))))) (by kernel_rfl) (by as_aux_lemma => kernel_rfl) (by decide) (by as_aux_lemma => kernel_rfl) (fun _ _ _ _ _ h => h) ⟨q_0, q_1⟩ (fun _ => ?_)
          clear q_0 q_1
          obtain ⟨wd, hwd⟩ : ∃ x, x = w2.drew := ⟨_, rfl⟩
          have hb := (Below.refl w2.heap.size w2).drew
          rw [← hwd] at hb ⊢
          clear hwd
          have Pd := Lib.hid (P2.out.on hb)
          have Yd := Lib.hid (Y2.out.on hb)
          have Xd := Lib.hid (X2.out.on hb)
          have Bd := Lib.hid (bel_on' B2.out hb)
          have Ld := Lib.hid (Nat.lt_of_lt_of_le L2.out hb.size)
          clear hb P2 Y2 X2 B2 L2
          iterate 3 (refine T_pure ?_ (by rfl) (fun w hSw => ?_) ?_; rotate_left; (obtain ⟨s_0, s_1⟩ := hSw; simp only [pickOp]; go_simp; try with_reducible rfl); try simp only [pickOp, Act.put, List.setIfInBounds_toArray, List.set_cons_zero, List.set_cons_succ])
          refine T_b2 (fun K hK => ?_) (fun K hK => ?_)
          · skip
            simp only [pickOp]
            go_simp
            refine (CS.out false wd).mono ?_
            rintro e w' ⟨rfl, rfl⟩
            try go_wp2_with fail
            refine hK.out _ _ (cells2' Pd.out) (fun _ => ?_)
            clear hK K
            try simp only [pickOp, Act.put, List.setIfInBounds_toArray, List.set_cons_zero, List.set_cons_succ]
            iterate 2 (refine T_pure ?_ (by rfl) (fun w hSw => ?_) ?_; rotate_left; (obtain ⟨s_0, s_1⟩ := hSw; simp only [pickOp]; go_simp; try with_reducible rfl); try simp only [pickOp, Act.put, List.setIfInBounds_toArray, List.set_cons_zero, List.set_cons_succ])
            refine T_b1 (fun K hK => ?_)
            simp only [pickOp]
            obtain ⟨y_0, y_1, y_2, y_3, y_4⟩ : _ ∧ _ ∧ _ ∧ _ ∧ _ := ⟨Yd.out.1 0 _ rfl, Yd.out.1 1 _ rfl, Yd.out.1 2 _ rfl, Yd.out.1 3 _ rfl, Yd.out.1 4 _ rfl⟩
            go_simp
            refine hK.out _ _ (cells2' Pd.out) (fun _ => ?_)
            clear hK K y_0 y_1 y_2 y_3 y_4
            try simp only [pickOp, Act.put, List.setIfInBounds_toArray, List.set_cons_zero, List.set_cons_succ]
            refine T_b1 (fun K hK => ?_)
            simp only [pickOp]
            go_simp
            refine (CWk.out wd false (by simp [hz])).2.mono ?_
            rintro e w5 ⟨rfl, hb⟩
            try go_wp2_with fail
            have P5 := Lib.hid (Pd.out.on hb)
            have Y5 := Lib.hid (Yd.out.on hb)
            have X5 := Lib.hid (Xd.out.on hb)
            have B5 := Lib.hid (bel_on' Bd.out hb)
            have L5 := Lib.hid (Nat.lt_of_lt_of_le Ld.out hb.size)
            refine hK.out _ _ (cells2' P5.out) (fun _ => ?_)
            clear hK K hb Pd Yd Xd Bd Ld CWk
            try simp only [pickOp, Act.put, List.setIfInBounds_toArray, List.set_cons_zero, List.set_cons_succ]
            iterate 1 (refine T_pure ?_ (by rfl) (fun w hSw => ?_) ?_; rotate_left; (obtain ⟨s_0, s_1⟩ := hSw; simp only [pickOp]; go_simp; try with_reducible rfl); try simp only [pickOp, Act.put, List.setIfInBounds_toArray, List.set_cons_zero, List.set_cons_succ])
            refine T_b1 (fun K hK => ?_)
            simp only [pickOp]
            obtain ⟨y_0, y_1, y_2, y_3, y_4⟩ : _ ∧ _ ∧ _ ∧ _ ∧ _ := ⟨Y5.out.1 0 _ rfl, Y5.out.1 1 _ rfl, Y5.out.1 2 _ rfl, Y5.out.1 3 _ rfl, Y5.out.1 4 _ rfl⟩
            obtain ⟨yz_0, yz_1, yz_2, yz_3, yz_4⟩ : _ ∧ _ ∧ _ ∧ _ ∧ _ := ⟨Y5.out.2 0 _ rfl, Y5.out.2 1 _ rfl, Y5.out.2 2 _ rfl, Y5.out.2 3 _ rfl, Y5.out.2 4 _ rfl⟩
            go_simp
            have Yn := Lib.hid (Blk.five Y5.out (.int .u32 (fd (A (k + 1)) : Nat)) (.int .u32 (fs (A (k + 1)) : Nat)) (.int .u8 (fd (B (k + 1)) : Nat)) (.int .u16 (fx (B (k + 1)) : Nat)) (.int .u16 (fy (B (k + 1)) : Nat)))
            have Xn := Lib.hid (far5 X5.out (c := b8) (by have := NE.out; omega) (.int .u32 (fd (A (k + 1)) : Nat)) (.int .u32 (fs (A (k + 1)) : Nat)) (.int .u8 (fd (B (k + 1)) : Nat)) (.int .u16 (fx (B (k + 1)) : Nat)) (.int .u16 (fy (B (k + 1)) : Nat)))
            have Pn := Lib.hid (far5 P5.out (c := b8) (fun e => QN.out e.symm) (.int .u32 (fd (A (k + 1)) : Nat)) (.int .u32 (fs (A (k + 1)) : Nat)) (.int .u8 (fd (B (k + 1)) : Nat)) (.int .u16 (fx (B (k + 1)) : Nat)) (.int .u16 (fy (B (k + 1)) : Nat)))
            have Bn := Lib.hid (bel5 B5.out (c := b8) (by have := NE.out; omega) (.int .u32 (fd (A (k + 1)) : Nat)) (.int .u32 (fs (A (k + 1)) : Nat)) (.int .u8 (fd (B (k + 1)) : Nat)) (.int .u16 (fx (B (k + 1)) : Nat)) (.int .u16 (fy (B (k + 1)) : Nat)))
            refine hK.out _ _ (cells2' Pn.out) (fun _ => ?_)
            clear hK K
            try simp only [pickOp, Act.put, List.setIfInBounds_toArray, List.set_cons_zero, List.set_cons_succ]
            refine T_done (NoPanic.normal ?_)
            clear y_0 yz_0 y_1 yz_1 y_2 yz_2 y_3 yz_3 y_4 yz_4
            have hwk := HWk.out
            go_wp2_with fail
            refine ⟨⟨k + 1, ?_, ?_, by have := HKN.out; omega, Yn, Xn, Bn, ?_⟩, by have := HKN.out; simp [intOf] <;> omega⟩
            · rw [HFk.out]
            · first | rfl | rw [hwk]
            · exact Lib.hid (by have := L5.out; simp [World.size_setCell]; exact this)
          · skip
            simp only [pickOp]
            obtain ⟨y_0, y_1, y_2, y_3, y_4⟩ : _ ∧ _ ∧ _ ∧ _ ∧ _ := ⟨Yd.out.1 0 _ rfl, Yd.out.1 1 _ rfl, Yd.out.1 2 _ rfl, Yd.out.1 3 _ rfl, Yd.out.1 4 _ rfl⟩
            go_simp
            refine hK.out _ _ (cells2' Pd.out) (fun _ => ?_)
            clear hK K y_0 y_1 y_2 y_3 y_4
            try simp only [pickOp, Act.put, List.setIfInBounds_toArray, List.set_cons_zero, List.set_cons_succ]
            refine T_b1 (fun K hK => ?_)
            simp only [pickOp]
            go_simp
            refine (CS.out false wd).mono ?_
            rintro e w' ⟨rfl, rfl⟩
            try go_wp2_with fail
            refine hK.out _ _ (cells2' Pd.out) (fun _ => ?_)
            clear hK K
            try simp only [pickOp, Act.put, List.setIfInBounds_toArray, List.set_cons_zero, List.set_cons_succ]
            iterate 2 (refine T_pure ?_ (by rfl) (fun w hSw => ?_) ?_; rotate_left; (obtain ⟨s_0, s_1⟩ := hSw; simp only [pickOp]; go_simp; try with_reducible rfl); try simp only [pickOp, Act.put, List.setIfInBounds_toArray, List.set_cons_zero, List.set_cons_succ])
            refine T_b1 (fun K hK => ?_)
            simp only [pickOp]
            go_simp
            refine (CWk.out wd false (by simp [hz])).2.mono ?_
            rintro e w5 ⟨rfl, hb⟩
            try go_wp2_with fail
            have P5 := Lib.hid (Pd.out.on hb)
            have Y5 := Lib.hid (Yd.out.on hb)
            have X5 := Lib.hid (Xd.out.on hb)
            have B5 := Lib.hid (bel_on' Bd.out hb)
            have L5 := Lib.hid (Nat.lt_of_lt_of_le Ld.out hb.size)
            refine hK.out _ _ (cells2' P5.out) (fun _ => ?_)
            clear hK K hb Pd Yd Xd Bd Ld CWk
            try simp only [pickOp, Act.put, List.setIfInBounds_toArray, List.set_cons_zero, List.set_cons_succ]
            iterate 1 (refine T_pure ?_ (by rfl) (fun w hSw => ?_) ?_; rotate_left; (obtain ⟨s_0, s_1⟩ := hSw; simp only [pickOp]; go_simp; try with_reducible rfl); try simp only [pickOp, Act.put, List.setIfInBounds_toArray, List.set_cons_zero, List.set_cons_succ])
            refine T_b1 (fun K hK => ?_)
            simp only [pickOp]
            obtain ⟨y_0, y_1, y_2, y_3, y_4⟩ : _ ∧ _ ∧ _ ∧ _ ∧ _ := ⟨Y5.out.1 0 _ rfl, Y5.out.1 1 _ rfl, Y5.out.1 2 _ rfl, Y5.out.1 3 _ rfl, Y5.out.1 4 _ rfl⟩
            obtain ⟨yz_0, yz_1, yz_2, yz_3, yz_4⟩ : _ ∧ _ ∧ _ ∧ _ ∧ _ := ⟨Y5.out.2 0 _ rfl, Y5.out.2 1 _ rfl, Y5.out.2 2 _ rfl, Y5.out.2 3 _ rfl, Y5.out.2 4 _ rfl⟩
            go_simp
            have Yn := Lib.hid (Blk.five Y5.out (.int .u32 (fd (A (k + 1)) : Nat)) (.int .u32 (fs (A (k + 1)) : Nat)) (.int .u8 (fd (B (k + 1)) : Nat)) (.int .u16 (fx (B (k + 1)) : Nat)) (.int .u16 (fy (B (k + 1)) : Nat)))
            have Xn := Lib.hid (far5 X5.out (c := b8) (by have := NE.out; omega) (.int .u32 (fd (A (k + 1)) : Nat)) (.int .u32 (fs (A (k + 1)) : Nat)) (.int .u8 (fd (B (k + 1)) : Nat)) (.int .u16 (fx (B (k + 1)) : Nat)) (.int .u16 (fy (B (k + 1)) : Nat)))
            have Pn := Lib.hid (far5 P5.out (c := b8) (fun e => QN.out e.symm) (.int .u32 (fd (A (k + 1)) : Nat)) (.int .u32 (fs (A (k + 1)) : Nat)) (.int .u8 (fd (B (k + 1)) : Nat)) (.int .u16 (fx (B (k + 1)) : Nat)) (.int .u16 (fy (B (k + 1)) : Nat)))
            have Bn := Lib.hid (bel5 B5.out (c := b8) (by have := NE.out; omega) (.int .u32 (fd (A (k + 1)) : Nat)) (.int .u32 (fs (A (k + 1)) : Nat)) (.int .u8 (fd (B (k + 1)) : Nat)) (.int .u16 (fx (B (k + 1)) : Nat)) (.int .u16 (fy (B (k + 1)) : Nat)))
            refine hK.out _ _ (cells2' Pn.out) (fun _ => ?_)
            clear hK K
            try simp only [pickOp, Act.put, List.setIfInBounds_toArray, List.set_cons_zero, List.set_cons_succ]
            refine T_done (NoPanic.normal ?_)
            clear y_0 yz_0 y_1 yz_1 y_2 yz_2 y_3 yz_3 y_4 yz_4
            have hwk := HWk.out
            go_wp2_with fail
            refine ⟨⟨k + 1, ?_, ?_, by have := HKN.out; omega, Yn, Xn, Bn, ?_⟩, by have := HKN.out; simp [intOf] <;> omega⟩
            · rw [HFk.out]
            · first | rfl | rw [hwk]
            · exact Lib.hid (by have := L5.out; simp [World.size_setCell]; exact this)
    · have hk' : k = 104 := by omega
      subst hk'
      obtain ⟨y_0, y_1, y_2, y_3, y_4⟩ : _ ∧ _ ∧ _ ∧ _ ∧ _ := ⟨Yk.out.1 0 _ rfl, Yk.out.1 1 _ rfl, Yk.out.1 2 _ rfl, Yk.out.1 3 _ rfl, Yk.out.1 4 _ rfl⟩
      obtain ⟨x_0, x_1, x_2, x_3, x_4⟩ : _ ∧ _ ∧ _ ∧ _ ∧ _ := ⟨Xk.out.1 0 _ rfl, Xk.out.1 1 _ rfl, Xk.out.1 2 _ rfl, Xk.out.1 3 _ rfl, Xk.out.1 4 _ rfl⟩
      obtain ⟨xz_0, xz_1, xz_2, xz_3, xz_4⟩ : _ ∧ _ ∧ _ ∧ _ ∧ _ := ⟨Xk.out.2 0 _ rfl, Xk.out.2 1 _ rfl, Xk.out.2 2 _ rfl, Xk.out.2 3 _ rfl, Xk.out.2 4 _ rfl⟩
      go_wp2
      exact bodyPost_ret (v := .tuple #[hw (A 104) (B 104), .bool true]) (by simp [results, Try.results28, go_sem, x_0, x_1, x_2, x_3, x_4]) rfl ⟨rfl, bel5 Bk.out (Nat.le_refl _) (.int .u32 (fd (A 104) : Nat)) (.int .u32 (fs (A 104) : Nat)) (.int .u8 (fd (B 104) : Nat)) (.int .u16 (fx (B 104) : Nat)) (.int .u16 (fy (B 104) : Nat))⟩
end Go.Proofs.Ytgcbngephokegab
