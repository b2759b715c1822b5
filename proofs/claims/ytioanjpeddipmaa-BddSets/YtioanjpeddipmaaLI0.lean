/- The document's header with a bit so; what expressions are, one by one. -/
import Derived.Test.YtioanjpeddipmaaHR
import Derived.Test.YtioanjpeddipmaaLM0
namespace Go.Proofs.Ytioanjpeddipmaa
open Go.RowKit
set_option linter.unusedVariables false

theorem semL_append : ∀ (l1 l2 : List Ex) (s : Sem), semL s (l1 ++ l2) = semL (semL s l1) l2
  | [], l2, s => rfl
  | x :: r, l2, s => by rw [List.cons_append]; exact semL_append r l2 (s ++ [semE s x])
theorem semL_pre : ∀ (l : List Ex) (s : Sem) (i : Nat), i < s.length → (semL s l).getD i (fun _ => false) = s.getD i (fun _ => false)
  | [], s, i, h => rfl
  | x :: r, s, i, h => by
    show (semL (s ++ [semE s x]) r).getD i _ = _
    rw [semL_pre r (s ++ [semE s x]) i (by simp; omega), List.getD_eq_getElem?_getD, List.getD_eq_getElem?_getD, List.getElem?_append_left h]
theorem semL_take (l : List Ex) (k i : Nat) (hi : i < k) (hk : k ≤ l.length) : (semL [] (l.take k)).getD i (fun _ => false) = (semL [] l).getD i (fun _ => false) := by
  have e : semL [] l = semL (semL [] (l.take k)) (l.drop k) := by rw [← semL_append, List.take_append_drop]
  rw [e, semL_pre (l.drop k) (semL [] (l.take k)) i (by rw [semL_len, List.length_take]; simp; omega)]
theorem semL_snoc (l : List Ex) (x : Ex) : semL [] (l ++ [x]) = semL [] l ++ [semE (semL [] l) x] := by rw [semL_append]; rfl
/-- A header's bits, by its words. -/
def tE (a b : Nat) : Env := fun i => tb a b (i : Int)
theorem tE_hE (a b : Nat) : hE (fd a) (fs a) (fd b) (fx b) (fy b) = tE a b := by
  funext i
  unfold hE bt tE tb
  rw [pa_w, pb_w]
theorem tE_wo (a b i : Nat) (on : Bool) (hi : i < 104) : tE (wo a (ma i) on) (wo b (mb i) on) = hld (tE a b) i on := by
  funext j
  unfold tE hld
  rcases Nat.lt_or_ge j 104 with q | q
  · exact tb_wo a b i j on hi q
  · have e1 : ma ((j : Nat) : Int) = 0 := by unfold ma; rw [if_neg (by omega)]
    have e2 : mb ((j : Nat) : Int) = 0 := by unfold mb; rw [if_neg (by omega)]
    rw [if_neg (by omega)]
    unfold tb
    simp [e1, e2]
theorem Blk.five {w : World} {b : Nat} {u0 u1 u2 u3 u4 : Value} (h : Blk w b [u0, u1, u2, u3, u4]) (x0 x1 x2 x3 x4 : Value) : Blk (((((w.setCell ⟨b, 0, none⟩ x0).setCell ⟨b, 1, none⟩ x1).setCell ⟨b, 2, none⟩ x2).setCell ⟨b, 3, none⟩ x3).setCell ⟨b, 4, none⟩ x4) b [x0, x1, x2, x3, x4] :=
  ((((h.set 0 x0 (by simp)).set 1 x1 (by simp)).set 2 x2 (by simp)).set 3 x3 (by simp)).set 4 x4 (by simp)
set_option maxRecDepth 100000 in
set_option maxHeartbeats 4000000 in
theorem rwith_any (a b i : Nat) (on : Bool) (h : WB a b) (hi : i < 104) (w : World) :
    Calls Try.prog 28 #[hw a b, .int .i64 (i : Nat), .bool on] w fun e w' => e = .returned (hw (wo a (ma i) on) (wo b (mb i) on)) ∧ Below w.heap.size w w' := by
  obtain ⟨c, hc⟩ : ∃ c, wo a (ma i) on = c := ⟨_, rfl⟩
  obtain ⟨d, hd⟩ : ∃ d, wo b (mb i) on = d := ⟨_, rfl⟩
  have hwcd : WB c d := by rw [← hc, ← hd]; exact h.wo i on
  have hT : ∀ j : Nat, j < 104 → upd (fun j => tb a b (j : Int)) i on j = tb c d (j : Int) := fun j hj => by
    rw [← hc, ← hd, tb_wo a b i j on hi hj]; rfl
  rw [hc, hd]
  have CB := Lib.hid (fun W => bits_any a b h W)
  have CK := Lib.hid (fun (W : World) (g cap : Nat) (hr : Row W g (upd (fun j => tb a b (j : Int)) i on)) => back_row c d hwcd _ hT W g cap hr)
  have HW := Lib.hid hwcd.hb
  clear hT hwcd hc hd
  obtain ⟨d1, hd1⟩ : ∃ x, fd a = x := ⟨_, rfl⟩
  obtain ⟨d2, hd2⟩ : ∃ x, fs a = x := ⟨_, rfl⟩
  obtain ⟨d3, hd3⟩ : ∃ x, fd b = x := ⟨_, rfl⟩
  obtain ⟨d4, hd4⟩ : ∃ x, fx b = x := ⟨_, rfl⟩
  obtain ⟨d5, hd5⟩ : ∃ x, fy b = x := ⟨_, rfl⟩
  obtain ⟨c1, hc1⟩ : ∃ x, fd c = x := ⟨_, rfl⟩
  obtain ⟨c2, hc2⟩ : ∃ x, fs c = x := ⟨_, rfl⟩
  obtain ⟨c3, hc3⟩ : ∃ x, fd d = x := ⟨_, rfl⟩
  obtain ⟨c4, hc4⟩ : ∃ x, fx d = x := ⟨_, rfl⟩
  obtain ⟨c5, hc5⟩ : ∃ x, fy d = x := ⟨_, rfl⟩
  unfold hw at CB CK ⊢
  rw [hd1, hd2, hd3, hd4, hd5] at CB ⊢
  rw [hc1, hc2, hc3, hc4, hc5] at CK ⊢
  clear hd1 hd2 hd3 hd4 hd5 hc1 hc2 hc3 hc4 hc5 HW
  go_enter Try.func28, Try.ntmps28
  go_upto_region 1 with fail
  refine at_code (S := fun W => Blk W w.heap.size [.int .u32 (d1 : Nat), .int .u32 (d2 : Nat), .int .u8 (d3 : Nat), .int .u16 (d4 : Nat), .int .u16 (d5 : Nat)] ∧ Blk W (w.heap.size + 1) [.int .u32 0, .int .u32 0, .int .u8 0, .int .u16 0, .int .u16 0] ∧ Below w.heap.size w W) ⟨?_, ?_, bel_al (bel_al (Below.refl _ _) _) _⟩ (fun W1 hW => ?_)
  · exact (Blk.new w _ _).on (bel_al (Below.refl _ _) _)
  · have k := Blk.new (w.alloc (.cells #[.int .u32 (d1 : Nat), .int .u32 (d2 : Nat), .int .u8 (d3 : Nat), .int .u16 (d4 : Nat), .int .u16 (d5 : Nat)] 36)) 36 [.int .u32 0, .int .u32 0, .int .u8 0, .int .u16 0, .int .u16 0]
    rw [World.size_alloc] at k
    exact k
  obtain ⟨hX, hY, hb⟩ := hW
  obtain ⟨x_0, x_1, x_2, x_3, x_4⟩ : _ ∧ _ ∧ _ ∧ _ ∧ _ := ⟨hX.1 0 _ rfl, hX.1 1 _ rfl, hX.1 2 _ rfl, hX.1 3 _ rfl, hX.1 4 _ rfl⟩
  have Y1 := Lib.hid hY
  have B1 := Lib.hid hb
  clear hX hY hb
  go_wp2_with fail
  refine (CB.out W1).mono ?_
  rintro e w2 ⟨v, rfl, hb, hr⟩
  obtain ⟨g, cap, rfl, hg, hR⟩ := row_of (T := fun j => tb a b (j : Int)) (fun j hj => bitsW_get a b j h.b hj) hr
  have Y2 := Lib.hid (Y1.out.on hb)
  have B2 := Lib.hid (bel_on' B1.out hb)
  obtain ⟨c_i, f_i⟩ := hR i hi
  have R2 := Lib.hid hR
  have HG := Lib.hid (show W1.heap.size + 1 ≤ g from hg)
  have hlt := Lib.hid Y1.out.lt
  clear hb hr hg hR x_0 x_1 x_2 x_3 x_4 CB Y1
  go_upto_region 3 with fail
  refine at_code (S := fun W => Row W g (upd (fun j => tb a b (j : Int)) i on) ∧ Blk W (w.heap.size + 1) [.int .u32 0, .int .u32 0, .int .u8 0, .int .u16 0, .int .u16 0] ∧ Below w.heap.size w W) ⟨R2.out.set i hi on, Y2.out.far _ _ (by show g ≠ _; have := HG.out; have := hlt.out; omega), B2.out.setCell (by have := HG.out; have := B1.out.size; show w.heap.size ≤ g; omega) _⟩ (fun W3 hW => ?_)
  obtain ⟨hR, hY, hb⟩ := hW
  have C4 := Lib.hid (CK.out W3 g cap hR)
  have Y3 := Lib.hid hY
  have B3 := Lib.hid hb
  clear hR hY hb CK Y2 B2 R2 c_i f_i
  go_wp2_with fail
  refine C4.out.mono ?_
  rintro e w4 ⟨rfl, hb⟩
  have Y4 := Lib.hid (Y3.out.on hb)
  have B4 := Lib.hid (bel_on' B3.out hb)
  clear hb C4 Y3 B3
  obtain ⟨y_0, y_1, y_2, y_3, y_4⟩ : _ ∧ _ ∧ _ ∧ _ ∧ _ := ⟨Y4.out.1 0 _ rfl, Y4.out.1 1 _ rfl, Y4.out.1 2 _ rfl, Y4.out.1 3 _ rfl, Y4.out.1 4 _ rfl⟩
  obtain ⟨z_0, z_1, z_2, z_3, z_4⟩ : _ ∧ _ ∧ _ ∧ _ ∧ _ := ⟨Y4.out.2 0 _ rfl, Y4.out.2 1 _ rfl, Y4.out.2 2 _ rfl, Y4.out.2 3 _ rfl, Y4.out.2 4 _ rfl⟩
  have FIN := Lib.hid (fun (x0 x1 x2 x3 x4 : Value) => (show Below w.heap.size w (((((w4.setCell ⟨w.heap.size + 1, 0, none⟩ x0).setCell ⟨w.heap.size + 1, 1, none⟩ x1).setCell ⟨w.heap.size + 1, 2, none⟩ x2).setCell ⟨w.heap.size + 1, 3, none⟩ x3).setCell ⟨w.heap.size + 1, 4, none⟩ x4) from ((((B4.out.setCell (by show w.heap.size ≤ w.heap.size + 1; omega) _).setCell (by show w.heap.size ≤ w.heap.size + 1; omega) _).setCell (by show w.heap.size ≤ w.heap.size + 1; omega) _).setCell (by show w.heap.size ≤ w.heap.size + 1; omega) _).setCell (by show w.heap.size ≤ w.heap.size + 1; omega) _))
  go_wp2
  refine bodyPost_ret (v := .agg #[.int .u32 (c1 : Nat), .int .u32 (c2 : Nat), .int .u8 (c3 : Nat), .int .u16 (c4 : Nat), .int .u16 (c5 : Nat)]) (by simp [results, Try.results28, go_sem, y_0, y_1, y_2, y_3, y_4]) rfl ⟨rfl, FIN.out _ _ _ _ _⟩
end Go.Proofs.Ytioanjpeddipmaa
