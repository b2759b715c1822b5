/- Texts joined, in their order: H14, HR, LI0. -/
import Derived.Test.YtgcbngephokegabG65ce601bf9
import Derived.Laws.OwnMore
import Derived.Test.YtgcbngephokegabG2d43a54908
/- The document's Bits: a header's bits as a slice. -/
namespace Go.Proofs.Ytgcbngephokegab
open Go.RowKit
set_option linter.unusedVariables false

theorem infoBool : (Try.prog.info? 4).map (fun i => (i.zero, i.size, i.bytes)) = some (some (.bool false), 1, 1) := by kernel_rfl
/-- What add leaves: the row with the number's bits behind it. -/
def AddRet (B m : Nat) (xs : List Value) (n k : Nat) (w : World) (e : Ending) (w' : World) : Prop :=
  ∃ v, e = .returned v ∧ Below B w w' ∧ w'.ownsRow B 4 1 v (m + k) (xs ++ bitVals n k)
theorem bits_snoc (n k i : Nat) (h : i < k) (xs : List Value) (ys : List Value) (e : xs ++ bitVals n k = ys ++ bitVals n (i + 1)) : xs ++ bitVals n k = (ys ++ [.bool (n.testBit i)]) ++ bitVals n i := by
  rw [e, bitVals]; simp
set_option maxHeartbeats 4000000 in
theorem add_any (B m : Nat) (xs : List Value) (v : Value) (n k : Nat) (hn : n < 4294967296) (hk : k ≤ 32) (hm : m ≤ 104) (w : World) (hB : B ≤ w.heap.size) (hown : w.ownsRow B 4 1 v m xs) :
    Calls Try.prog 55 #[v, .int .u32 n, .int .i64 k] w (AddRet B m xs n k w) := by
  obtain ⟨Y, hY⟩ : ∃ Y, xs ++ bitVals n k = Y := ⟨_, rfl⟩
  unfold AddRet
  rw [hY]
  have HY := Lib.hid hY
  have HO := Lib.hid hown
  clear hY hown
  go_enter Try.func55, Try.ntmps55
  go_wp2_with fail
  go_loopw [0, 7] (fun u iv wr => ∃ (i : Nat) (ys : List Value), iv = .int .i64 ((i : Int) - 1) ∧ i ≤ k ∧ ys ++ bitVals n i = Y ∧ B ≤ wr.heap.size ∧ Below B w wr ∧ wr.ownsRow B 4 1 u (m + (k - i)) ys) (fun _ iv _ => (intOf iv + 1).toNat)
  case atStart => exact ⟨k, xs, rfl, Nat.le_refl _, HY.out, hB, Below.refl _ _, by rw [Nat.sub_self, Nat.add_zero]; exact HO.out⟩
  case round =>
    obtain ⟨i, ys, rfl, hi, he, hBr, hb, ho⟩ := hrel
    have HE := Lib.hid he
    have HBr := Lib.hid hb
    have HOr := Lib.hid ho
    clear he hb ho HO HY
    by_cases h0 : i = 0
    · subst h0
      have HE' : Hid (ys = Y) := by have h := HE.out; rw [bitVals, List.append_nil] at h; exact h
      go_wp2_with fail
      go_ret
      refine ⟨_, rfl, HBr.out, ?_⟩
      have h := HOr.out
      rw [HE'.out, Nat.sub_zero] at h
      exact h
    · obtain ⟨j, rfl⟩ : ∃ j, i = j + 1 := ⟨i - 1, by omega⟩
      have hj1 : ((j + 1 : Nat) : Int) - 1 = (j : Int) := by omega
      rw [hj1]
      obtain ⟨p, hp⟩ : ∃ p, 2 ^ j = p := ⟨_, rfl⟩
      have hpI : (2 : Int) ^ j = (p : Int) := by rw [← hp]; exact (Int.natCast_pow 2 j).symm
      have hppos : 0 < p := by rw [← hp]; exact Nat.pow_pos (by decide)
      obtain ⟨q, hq⟩ : ∃ q, n / p = q := ⟨_, rfl⟩
      have hqI : (n : Int) / (p : Int) = (q : Int) := by rw [← hq]; simp
      have htb : ((q : Int) % 2 == 1) = n.testBit j := by rw [bit_div, hp, hq, Bool.eq_iff_iff]; simp; omega
      obtain ⟨t, ht⟩ : ∃ t, n.testBit j = t := ⟨_, rfl⟩
      rw [ht] at htb
      have HE2 : Hid ((ys ++ [.bool t]) ++ bitVals n j = Y) := by
        have h := HE.out
        rw [bitVals, ht] at h
        show _ = _
        rw [← h]; simp
      clear ht hp hq hj1
      obtain ⟨i0, hi0, hz0, hz1, hz2⟩ := hinfo_parts infoBool
      have hown := HOr.out
      go_wp2_with (at_builtin; refine wpList_append_own _ rfl _ _ 34 rfl B 4 i0 (.bool false) 1 1 Try.underlying34 hi0 hz0 hz1 hz2 rfl (by decide) _ _ _ rfl (hown.alloc _) ⟨wr.heap.size, 0, none⟩ 1 1 [.bool t] rfl rfl ?c1 ?c2 ?c3 ?c4 ?c5 ?_)
      case c1 =>
        intro j x hj
        match j, hj with
        | 0, hj => simp at hj; subst hj; simp [Addr.add, go_sem]
      case c2 => intro x hx; simp at hx; subst hx; rfl
      case c3 => unfold maxLen; omega
      case c4 => omega
      case c5 => simp; omega
      · intro v' w2 hown' hgrow _
        have HO' := Lib.hid hown'
        have HG := Lib.hid hgrow
        clear hown' hgrow hown
        go_wp2_with fail
        have hs := HG.out.size
        simp at hs
        refine ⟨⟨j, _, rfl, by omega, HE2.out, by omega, ?_, ?_⟩, ?_⟩
        · exact (HBr.out.alloc hBr _).grown HG.out (by simp; omega) (fun g e => (World.ownsRow.lt HOr.out g e).1)
        · have h := HO'.out
          rw [show m + (k - (j + 1)) + 1 = m + (k - j) by omega] at h
          exact h
        · simp [intOf]
/-- What Bits leaves. -/
def BitsRet (w : World) (a b : Nat) (e : Ending) (w' : World) : Prop := ∃ v, e = .returned v ∧ Below w.heap.size w w' ∧ w'.ownsRow (w.heap.size + 1) 4 1 v 104 (bitsW a b)
set_option maxHeartbeats 4000000 in
theorem bits_any (a b : Nat) (h : WB a b) (w : World) : Calls Try.prog 43 #[hw a b] w (BitsRet w a b) := by
  obtain ⟨h1, h2, h3, h4, h5⟩ := h.hb
  obtain ⟨d, hd⟩ : ∃ d, fd a = d := ⟨_, rfl⟩
  obtain ⟨s, hs⟩ : ∃ s, fs a = s := ⟨_, rfl⟩
  obtain ⟨p, hp⟩ : ∃ p, fd b = p := ⟨_, rfl⟩
  obtain ⟨x, hx⟩ : ∃ x, fx b = x := ⟨_, rfl⟩
  obtain ⟨y, hy⟩ : ∃ y, fy b = y := ⟨_, rfl⟩
  have HF : Hid (bitVals d 32 ++ bitVals s 32 ++ bitVals p 8 ++ bitVals x 16 ++ bitVals y 16 = bitsW a b) := by show _ = _; unfold bitsW; rw [hd, hs, hp, hx, hy]
  rw [hd] at h1; rw [hs] at h2; rw [hp] at h3; rw [hx] at h4; rw [hy] at h5
  show Calls Try.prog 43 #[hv (fd a) (fs a) (fd b) (fx b) (fy b)] w _
  rw [hd, hs, hp, hx, hy]
  clear hd hs hp hx hy
  obtain ⟨W0, hW0⟩ : ∃ W0, w.alloc (Obj.cells #[.int .u32 d, .int .u32 s, .int .u8 p, .int .u16 x, .int .u16 y] 44) = W0 := ⟨_, rfl⟩
  have z0 : W0.cell? ⟨w.heap.size, 0, none⟩ = some (.int .u32 d) := by rw [← hW0]; simp [go_sem]
  have z1 : W0.cell? ⟨w.heap.size, 1, none⟩ = some (.int .u32 s) := by rw [← hW0]; simp [go_sem]
  have z2 : W0.cell? ⟨w.heap.size, 2, none⟩ = some (.int .u8 p) := by rw [← hW0]; simp [go_sem]
  have z3 : W0.cell? ⟨w.heap.size, 3, none⟩ = some (.int .u16 x) := by rw [← hW0]; simp [go_sem]
  have z4 : W0.cell? ⟨w.heap.size, 4, none⟩ = some (.int .u16 y) := by rw [← hW0]; simp [go_sem]
  have hz : W0.heap.size = w.heap.size + 1 := by rw [← hW0]; simp
  have HZ := Lib.hid hz
  have HB0 := Lib.hid (show Below w.heap.size w W0 by rw [← hW0]; exact below_al (Below.refl _ _) _)
  have A1 := Lib.hid (add_any (w.heap.size + 1) 0 [] (.slice none 0 0) d 32 h1 (by omega) (by omega) W0 (by omega) (World.ownsRow_nil _ _ _ _))
  go_enter Try.func43, Try.ntmps43
  go_upto_region 2 with fail
  clear hW0 hz
  go_wp2_with fail
  refine A1.out.mono ?_
  rintro e w1 ⟨v1, rfl, b1, o1⟩
  have y1 := (b1.cell (p := ⟨w.heap.size, 1, none⟩) (by show w.heap.size < w.heap.size + 1; omega)).trans z1
  have y2 := (b1.cell (p := ⟨w.heap.size, 2, none⟩) (by show w.heap.size < w.heap.size + 1; omega)).trans z2
  have y3 := (b1.cell (p := ⟨w.heap.size, 3, none⟩) (by show w.heap.size < w.heap.size + 1; omega)).trans z3
  have y4 := (b1.cell (p := ⟨w.heap.size, 4, none⟩) (by show w.heap.size < w.heap.size + 1; omega)).trans z4
  have s1 := b1.size
  have A2 := Lib.hid (add_any (w.heap.size + 1) _ _ v1 s 32 h2 (by omega) (by omega) w1 (by have := HZ.out; omega) o1)
  have B1 := Lib.hid b1
  clear b1 o1 z0 z1 z2 z3 z4 A1
  go_wp2_with fail
  refine A2.out.mono ?_
  rintro e w2 ⟨v2, rfl, b2, o2⟩
  have x2 := (b2.cell (p := ⟨w.heap.size, 2, none⟩) (by show w.heap.size < w.heap.size + 1; omega)).trans y2
  have x3 := (b2.cell (p := ⟨w.heap.size, 3, none⟩) (by show w.heap.size < w.heap.size + 1; omega)).trans y3
  have x4 := (b2.cell (p := ⟨w.heap.size, 4, none⟩) (by show w.heap.size < w.heap.size + 1; omega)).trans y4
  have s2 := b2.size
  have A3 := Lib.hid (add_any (w.heap.size + 1) _ _ v2 p 8 (by omega) (by omega) (by omega) w2 (by have := HZ.out; omega) o2)
  have B2 := Lib.hid (B1.out.trans b2)
  clear b2 o2 y1 y2 y3 y4 A2 B1
  go_wp2_with fail
  refine A3.out.mono ?_
  rintro e w3 ⟨v3, rfl, b3, o3⟩
  have q3 := (b3.cell (p := ⟨w.heap.size, 3, none⟩) (by show w.heap.size < w.heap.size + 1; omega)).trans x3
  have q4 := (b3.cell (p := ⟨w.heap.size, 4, none⟩) (by show w.heap.size < w.heap.size + 1; omega)).trans x4
  have s3 := b3.size
  have A4 := Lib.hid (add_any (w.heap.size + 1) _ _ v3 x 16 (by omega) (by omega) (by omega) w3 (by have := HZ.out; omega) o3)
  have B3 := Lib.hid (B2.out.trans b3)
  clear b3 o3 x2 x3 x4 A3 B2
  go_wp2_with fail
  refine A4.out.mono ?_
  rintro e w4 ⟨v4, rfl, b4, o4⟩
  have r4 := (b4.cell (p := ⟨w.heap.size, 4, none⟩) (by show w.heap.size < w.heap.size + 1; omega)).trans q4
  have s4 := b4.size
  have A5 := Lib.hid (add_any (w.heap.size + 1) _ _ v4 y 16 (by omega) (by omega) (by omega) w4 (by have := HZ.out; omega) o4)
  have B4 := Lib.hid (B3.out.trans b4)
  clear b4 o4 q3 q4 A4 B3
  go_wp2_with fail
  refine A5.out.mono ?_
  rintro e w5 ⟨v5, rfl, b5, o5⟩
  have B5 := Lib.hid (B4.out.trans b5)
  have O5 := Lib.hid o5
  clear b5 o5 r4 A5 B4
  go_wp2
  go_ret
  refine ⟨v5, rfl, HB0.out.trans (B5.out.mono (by omega)), ?_⟩
  have h := O5.out
  rw [List.nil_append, HF.out] at h
  exact h
end Go.Proofs.Ytgcbngephokegab
/- Rows of a header's bits; the document's Back of one. -/
namespace Go.Proofs.Ytgcbngephokegab
open Go.RowKit
set_option linter.unusedVariables false

/-- Block g holds these 104 bits. -/
def Row (w : World) (g : Nat) (T : Nat → Bool) : Prop := ∀ j, j < 104 → w.cell? ⟨g, j, none⟩ = some (.bool (T j)) ∧ w.frozen? ⟨g, j, none⟩ = false
theorem Row.lt {w : World} {g : Nat} {T : Nat → Bool} (h : Row w g T) : g < w.heap.size := cell_lt (o := 0) (by rw [(h 0 (by omega)).1]; rfl)
theorem Row.on {w w' : World} {g : Nat} {T : Nat → Bool} (h : Row w g T) (hb : Below w.heap.size w w') : Row w' g T := fun j hj =>
  ⟨(hb.cell (p := ⟨g, j, none⟩) h.lt).trans (h j hj).1, (hb.frozen (p := ⟨g, j, none⟩) h.lt).trans (h j hj).2⟩
def upd (T : Nat → Bool) (i : Nat) (t : Bool) : Nat → Bool := fun j => if j = i then t else T j
theorem Row.set {w : World} {g : Nat} {T : Nat → Bool} (h : Row w g T) (i : Nat) (hi : i < 104) (t : Bool) : Row (w.setCell ⟨g, i, none⟩ (.bool t)) g (upd T i t) := fun j hj => by
  refine ⟨?_, by simp [(h j hj).2]⟩
  unfold upd
  by_cases e : j = i
  · subst e; rw [if_pos rfl]; exact World.cell?_setCell_same _ _ _ (h j hj).1
  · rw [if_neg e, World.cell?_setCell_other _ _ _ _ (by first | (simp; done) | (simp; omega) | (intro h0; injection h0 with _ h1; omega))]; exact (h j hj).1
theorem row_of {w : World} {base : Nat} {v : Value} {X : List Value} {T : Nat → Bool} (hX : ∀ j, j < 104 → X[j]? = some (.bool (T j))) (h : w.ownsRow base 4 1 v 104 X) :
    ∃ g cap, v = .slice (some ⟨g, 0, none⟩) 104 cap ∧ base ≤ g ∧ Row w g T := by
  have hh := h
  obtain ⟨h1, ⟨h2, h3⟩ | ⟨g, cap, cur, h2, h3, h4, h5, h6, h7, h8⟩⟩ := h
  · omega
  · subst h2
    refine ⟨g, cap, rfl, h3, fun j hj => ⟨(World.ownsRow.cellAt hh j (by omega)).trans (hX j hj), by simp [World.frozen?, h4]⟩⟩
theorem back_row (a b : Nat) (h : WB a b) (T : Nat → Bool) (hT : ∀ j, j < 104 → T j = tb a b j) (w : World) (g cap : Nat) (hr : Row w g T) :
    Calls Try.prog 21 #[.slice (some ⟨g, 0, none⟩) 104 cap] w fun e w' => e = .returned (hw a b) ∧ Below w.heap.size w w' := by
  obtain ⟨n1, n2, n3, n4, n5⟩ := back_nums T a b h hT
  obtain ⟨h1, h2, h3, h4, h5⟩ := h.hb
  have num : ∀ (p k : Nat), p + k ≤ 104 → k ≤ 32 → ∀ v, Below w.heap.size w v → Calls Try.prog 42 #[.slice (some ⟨g, 0, none⟩) 104 cap, .int .i64 p, .int .i64 k] v fun e w' => e = .returned (.int .u32 (numB T p k)) ∧ w' = v :=
    fun p k h1 h2 v hb => number_bits T g cap p k h1 h2 v (fun j hj => ((hr.on hb) j hj).1)
  have q := back_core (.slice (some ⟨g, 0, none⟩) 104 cap) (numB T 0 32) (numB T 32 32) (numB T 64 8) (numB T 72 16) (numB T 88 16) (by omega) (by rw [n3]; omega) (by omega) (by rw [n4]; omega) (by omega) (by rw [n5]; omega) w
    (num 0 32 (by omega) (by omega)) (num 32 32 (by omega) (by omega)) (num 64 8 (by omega) (by omega)) (num 72 16 (by omega) (by omega)) (num 88 16 (by omega) (by omega))
  rw [n1, n2, n3, n4, n5] at q
  exact q
end Go.Proofs.Ytgcbngephokegab
/- The document's header with a bit so; what expressions are, one by one. -/
namespace Go.Proofs.Ytgcbngephokegab
open Go.RowKit
set_option linter.unusedVariables false

theorem semL_append : ∀ (l1 l2 : List Ex) (s : Sem), semL s (l1 ++ l2) = semL (semL s l1) l2
  | [], l2, s => rfl
  | x :: r, l2, s => by rw [List.cons_append]; exact semL_append r l2 (s ++ [semE s x])
theorem semL_pre : ∀ (l : List Ex) (s : Sem) (i : Nat), i < s.length → (semL s l).getD i (fun _ => false) = s.getD i (fun _ => false)
  | [], s, i, h => rfl
  | x :: r, s, i, h => by
    show (semL (s ++ [semE s x]) r).getD i _ = _
    rw [semL_pre r (s ++ [semE s x]) i (by simp; omega), List.getD_eq_getElem?_getD, List.getD_eq_getElem?_getD, List.getElem?_append_left h]
theorem semL_take (l : List Ex) (k i : Nat) (hi : i < k) (hk : k ≤ l.length) : (semL [] (l.take k)).getD i (fun _ => false) = (semL [] l).getD i (fun _ => false) := by
  have e : semL [] l = semL (semL [] (l.take k)) (l.drop k) := by rw [← semL_append, List.take_append_drop]
  rw [e, semL_pre (l.drop k) (semL [] (l.take k)) i (by rw [semL_len, List.length_take]; simp; omega)]
theorem semL_snoc (l : List Ex) (x : Ex) : semL [] (l ++ [x]) = semL [] l ++ [semE (semL [] l) x] := by rw [semL_append]; rfl
/-- A header's bits, by its words. -/
def tE (a b : Nat) : Env := fun i => tb a b (i : Int)
theorem tE_hE (a b : Nat) : hE (fd a) (fs a) (fd b) (fx b) (fy b) = tE a b := by
  funext i
  unfold hE bt tE tb
  rw [pa_w, pb_w]
theorem tE_wo (a b i : Nat) (on : Bool) (hi : i < 104) : tE (wo a (ma i) on) (wo b (mb i) on) = hld (tE a b) i on := by
  funext j
  unfold tE hld
  rcases Nat.lt_or_ge j 104 with q | q
  · exact tb_wo a b i j on hi q
  · have e1 : ma ((j : Nat) : Int) = 0 := by unfold ma; rw [if_neg (by omega)]
    have e2 : mb ((j : Nat) : Int) = 0 := by unfold mb; rw [if_neg (by omega)]
    rw [if_neg (by omega)]
    unfold tb
    simp [e1, e2]
theorem Blk.five {w : World} {b : Nat} {u0 u1 u2 u3 u4 : Value} (h : Blk w b [u0, u1, u2, u3, u4]) (x0 x1 x2 x3 x4 : Value) : Blk (((((w.setCell ⟨b, 0, none⟩ x0).setCell ⟨b, 1, none⟩ x1).setCell ⟨b, 2, none⟩ x2).setCell ⟨b, 3, none⟩ x3).setCell ⟨b, 4, none⟩ x4) b [x0, x1, x2, x3, x4] :=
  ((((h.set 0 x0 (by simp)).set 1 x1 (by simp)).set 2 x2 (by simp)).set 3 x3 (by simp)).set 4 x4 (by simp)
set_option maxRecDepth 100000 in
set_option maxHeartbeats 4000000 in
theorem rwith_any (a b i : Nat) (on : Bool) (h : WB a b) (hi : i < 104) (w : World) :
    Calls Try.prog 44 #[hw a b, .int .i64 (i : Nat), .bool on] w fun e w' => e = .returned (hw (wo a (ma i) on) (wo b (mb i) on)) ∧ Below w.heap.size w w' := by
  obtain ⟨c, hc⟩ : ∃ c, wo a (ma i) on = c := ⟨_, rfl⟩
  obtain ⟨d, hd⟩ : ∃ d, wo b (mb i) on = d := ⟨_, rfl⟩
  have hwcd : WB c d := by rw [← hc, ← hd]; exact h.wo i on
  have hT : ∀ j : Nat, j < 104 → upd (fun j => tb a b (j : Int)) i on j = tb c d (j : Int) := fun j hj => by
    rw [← hc, ← hd, tb_wo a b i j on hi hj]; rfl
  rw [hc, hd]
  have CB := Lib.hid (fun W => bits_any a b h W)
  have CK := Lib.hid (fun (W : World) (g cap : Nat) (hr : Row W g (upd (fun j => tb a b (j : Int)) i on)) => back_row c d hwcd _ hT W g cap hr)
  have HW := Lib.hid hwcd.hb
  clear hT hwcd hc hd
  obtain ⟨d1, hd1⟩ : ∃ x, fd a = x := ⟨_, rfl⟩
  obtain ⟨d2, hd2⟩ : ∃ x, fs a = x := ⟨_, rfl⟩
  obtain ⟨d3, hd3⟩ : ∃ x, fd b = x := ⟨_, rfl⟩
  obtain ⟨d4, hd4⟩ : ∃ x, fx b = x := ⟨_, rfl⟩
  obtain ⟨d5, hd5⟩ : ∃ x, fy b = x := ⟨_, rfl⟩
  obtain ⟨c1, hc1⟩ : ∃ x, fd c = x := ⟨_, rfl⟩
  obtain ⟨c2, hc2⟩ : ∃ x, fs c = x := ⟨_, rfl⟩
  obtain ⟨c3, hc3⟩ : ∃ x, fd d = x := ⟨_, rfl⟩
  obtain ⟨c4, hc4⟩ : ∃ x, fx d = x := ⟨_, rfl⟩
  obtain ⟨c5, hc5⟩ : ∃ x, fy d = x := ⟨_, rfl⟩
  unfold hw at CB CK ⊢
  rw [hd1, hd2, hd3, hd4, hd5] at CB ⊢
  rw [hc1, hc2, hc3, hc4, hc5] at CK ⊢
  clear hd1 hd2 hd3 hd4 hd5 hc1 hc2 hc3 hc4 hc5 HW
  go_enter Try.func44, Try.ntmps44
  go_upto_region 1 with fail
  refine at_code (S := fun W => Blk W w.heap.size [.int .u32 (d1 : Nat), .int .u32 (d2 : Nat), .int .u8 (d3 : Nat), .int .u16 (d4 : Nat), .int .u16 (d5 : Nat)] ∧ Blk W (w.heap.size + 1) [.int .u32 0, .int .u32 0, .int .u8 0, .int .u16 0, .int .u16 0] ∧ Below w.heap.size w W) ⟨?_, ?_, bel_al (bel_al (Below.refl _ _) _) _⟩ (fun W1 hW => ?_)
  · exact (Blk.new w _ _).on (bel_al (Below.refl _ _) _)
  · have k := Blk.new (w.alloc (.cells #[.int .u32 (d1 : Nat), .int .u32 (d2 : Nat), .int .u8 (d3 : Nat), .int .u16 (d4 : Nat), .int .u16 (d5 : Nat)] 44)) 44 [.int .u32 0, .int .u32 0, .int .u8 0, .int .u16 0, .int .u16 0]
    rw [World.size_alloc] at k
    exact k
  obtain ⟨hX, hY, hb⟩ := hW
  obtain ⟨x_0, x_1, x_2, x_3, x_4⟩ : _ ∧ _ ∧ _ ∧ _ ∧ _ := ⟨hX.1 0 _ rfl, hX.1 1 _ rfl, hX.1 2 _ rfl, hX.1 3 _ rfl, hX.1 4 _ rfl⟩
  have Y1 := Lib.hid hY
  have B1 := Lib.hid hb
  clear hX hY hb
  go_wp2_with fail
  refine (CB.out W1).mono ?_
  rintro e w2 ⟨v, rfl, hb, hr⟩
  obtain ⟨g, cap, rfl, hg, hR⟩ := row_of (T := fun j => tb a b (j : Int)) (fun j hj => bitsW_get a b j h.b hj) hr
  have Y2 := Lib.hid (Y1.out.on hb)
  have B2 := Lib.hid (bel_on' B1.out hb)
  obtain ⟨c_i, f_i⟩ := hR i hi
  have R2 := Lib.hid hR
  have HG := Lib.hid (show W1.heap.size + 1 ≤ g from hg)
  have hlt := Lib.hid Y1.out.lt
  clear hb hr hg hR x_0 x_1 x_2 x_3 x_4 CB Y1
  go_upto_region 3 with fail
  refine at_code (S := fun W => Row W g (upd (fun j => tb a b (j : Int)) i on) ∧ Blk W (w.heap.size + 1) [.int .u32 0, .int .u32 0, .int .u8 0, .int .u16 0, .int .u16 0] ∧ Below w.heap.size w W) ⟨R2.out.set i hi on, Y2.out.far _ _ (by show g ≠ _; have := HG.out; have := hlt.out; omega), B2.out.setCell (by have := HG.out; have := B1.out.size; show w.heap.size ≤ g; omega) _⟩ (fun W3 hW => ?_)
  obtain ⟨hR, hY, hb⟩ := hW
  have C4 := Lib.hid (CK.out W3 g cap hR)
  have Y3 := Lib.hid hY
  have B3 := Lib.hid hb
  clear hR hY hb CK Y2 B2 R2 c_i f_i
  go_wp2_with fail
  refine C4.out.mono ?_
  rintro e w4 ⟨rfl, hb⟩
  have Y4 := Lib.hid (Y3.out.on hb)
  have B4 := Lib.hid (bel_on' B3.out hb)
  clear hb C4 Y3 B3
  obtain ⟨y_0, y_1, y_2, y_3, y_4⟩ : _ ∧ _ ∧ _ ∧ _ ∧ _ := ⟨Y4.out.1 0 _ rfl, Y4.out.1 1 _ rfl, Y4.out.1 2 _ rfl, Y4.out.1 3 _ rfl, Y4.out.1 4 _ rfl⟩
  obtain ⟨z_0, z_1, z_2, z_3, z_4⟩ : _ ∧ _ ∧ _ ∧ _ ∧ _ := ⟨Y4.out.2 0 _ rfl, Y4.out.2 1 _ rfl, Y4.out.2 2 _ rfl, Y4.out.2 3 _ rfl, Y4.out.2 4 _ rfl⟩
  have FIN := Lib.hid (fun (x0 x1 x2 x3 x4 : Value) => (show Below w.heap.size w (((((w4.setCell ⟨w.heap.size + 1, 0, none⟩ x0).setCell ⟨w.heap.size + 1, 1, none⟩ x1).setCell ⟨w.heap.size + 1, 2, none⟩ x2).setCell ⟨w.heap.size + 1, 3, none⟩ x3).setCell ⟨w.heap.size + 1, 4, none⟩ x4) from ((((B4.out.setCell (by show w.heap.size ≤ w.heap.size + 1; omega) _).setCell (by show w.heap.size ≤ w.heap.size + 1; omega) _).setCell (by show w.heap.size ≤ w.heap.size + 1; omega) _).setCell (by show w.heap.size ≤ w.heap.size + 1; omega) _).setCell (by show w.heap.size ≤ w.heap.size + 1; omega) _))
  go_wp2
  refine bodyPost_ret (v := .agg #[.int .u32 (c1 : Nat), .int .u32 (c2 : Nat), .int .u8 (c3 : Nat), .int .u16 (c4 : Nat), .int .u16 (c5 : Nat)]) (by simp [results, Try.results44, go_sem, y_0, y_1, y_2, y_3, y_4]) rfl ⟨rfl, FIN.out _ _ _ _ _⟩
end Go.Proofs.Ytgcbngephokegab
