/- The document's Bits: a header's bits as a slice. -/
import Derived.Test.YtioanjpeddipmaaHB
import Derived.Laws.OwnMore
namespace Go.Proofs.Ytioanjpeddipmaa
open Go.RowKit
set_option linter.unusedVariables false

theorem infoBool : (Try.prog.info? 4).map (fun i => (i.zero, i.size, i.bytes)) = some (some (.bool false), 1, 1) := by kernel_rfl
/-- What add leaves: the row with the number's bits behind it. -/
def AddRet (B m : Nat) (xs : List Value) (n k : Nat) (w : World) (e : Ending) (w' : World) : Prop :=
  ∃ v, e = .returned v ∧ Below B w w' ∧ w'.ownsRow B 4 1 v (m + k) (xs ++ bitVals n k)
theorem bits_snoc (n k i : Nat) (h : i < k) (xs : List Value) (ys : List Value) (e : xs ++ bitVals n k = ys ++ bitVals n (i + 1)) : xs ++ bitVals n k = (ys ++ [.bool (n.testBit i)]) ++ bitVals n i := by
  rw [e, bitVals]; simp
set_option maxHeartbeats 4000000 in
theorem add_any (B m : Nat) (xs : List Value) (v : Value) (n k : Nat) (hn : n < 4294967296) (hk : k ≤ 32) (hm : m ≤ 104) (w : World) (hB : B ≤ w.heap.size) (hown : w.ownsRow B 4 1 v m xs) :
    Calls Try.prog 41 #[v, .int .u32 n, .int .i64 k] w (AddRet B m xs n k w) := by
  obtain ⟨Y, hY⟩ : ∃ Y, xs ++ bitVals n k = Y := ⟨_, rfl⟩
  unfold AddRet
  rw [hY]
  have HY := Lib.hid hY
  have HO := Lib.hid hown
  clear hY hown
  go_enter Try.func41, Try.ntmps41
  go_wp2_with fail
  go_loopw [0, 7] (fun u iv wr => ∃ (i : Nat) (ys : List Value), iv = .int .i64 ((i : Int) - 1) ∧ i ≤ k ∧ ys ++ bitVals n i = Y ∧ B ≤ wr.heap.size ∧ Below B w wr ∧ wr.ownsRow B 4 1 u (m + (k - i)) ys) (fun _ iv _ => (intOf iv + 1).toNat)
  case atStart => exact ⟨k, xs, rfl, Nat.le_refl _, HY.out, hB, Below.refl _ _, by rw [Nat.sub_self, Nat.add_zero]; exact HO.out⟩
  case round =>
    obtain ⟨i, ys, rfl, hi, he, hBr, hb, ho⟩ := hrel
    have HE := Lib.hid he
    have HBr := Lib.hid hb
    have HOr := Lib.hid ho
    clear he hb ho HO HY
    by_cases h0 : i = 0
    · subst h0
      have HE' : Hid (ys = Y) := by have h := HE.out; rw [bitVals, List.append_nil] at h; exact h
      go_wp2_with fail
      go_ret
      refine ⟨_, rfl, HBr.out, ?_⟩
      have h := HOr.out
      rw [HE'.out, Nat.sub_zero] at h
      exact h
    · obtain ⟨j, rfl⟩ : ∃ j, i = j + 1 := ⟨i - 1, by omega⟩
      have hj1 : ((j + 1 : Nat) : Int) - 1 = (j : Int) := by omega
      rw [hj1]
      obtain ⟨p, hp⟩ : ∃ p, 2 ^ j = p := ⟨_, rfl⟩
      have hpI : (2 : Int) ^ j = (p : Int) := by rw [← hp]; exact (Int.natCast_pow 2 j).symm
      have hppos : 0 < p := by rw [← hp]; exact Nat.pow_pos (by decide)
      obtain ⟨q, hq⟩ : ∃ q, n / p = q := ⟨_, rfl⟩
      have hqI : (n : Int) / (p : Int) = (q : Int) := by rw [← hq]; simp
      have htb : ((q : Int) % 2 == 1) = n.testBit j := by rw [bit_div, hp, hq, Bool.eq_iff_iff]; simp; omega
      obtain ⟨t, ht⟩ : ∃ t, n.testBit j = t := ⟨_, rfl⟩
      rw [ht] at htb
      have HE2 : Hid ((ys ++ [.bool t]) ++ bitVals n j = Y) := by
        have h := HE.out
        rw [bitVals, ht] at h
        show _ = _
        rw [← h]; simp
      clear ht hp hq hj1
      obtain ⟨i0, hi0, hz0, hz1, hz2⟩ := hinfo_parts infoBool
      have hown := HOr.out
      go_wp2_with (at_builtin; refine wpList_append_own _ rfl _ _ 37 rfl B 4 i0 (.bool false) 1 1 Try.underlying37 hi0 hz0 hz1 hz2 rfl (by decide) _ _ _ rfl (hown.alloc _) ⟨wr.heap.size, 0, none⟩ 1 1 [.bool t] rfl rfl ?c1 ?c2 ?c3 ?c4 ?c5 ?_)
      case c1 =>
        intro j x hj
        match j, hj with
        | 0, hj => simp at hj; subst hj; simp [Addr.add, go_sem]
      case c2 => intro x hx; simp at hx; subst hx; rfl
      case c3 => unfold maxLen; omega
      case c4 => omega
      case c5 => simp; omega
      · intro v' w2 hown' hgrow _
        have HO' := Lib.hid hown'
        have HG := Lib.hid hgrow
        clear hown' hgrow hown
        go_wp2_with fail
        have hs := HG.out.size
        simp at hs
        refine ⟨⟨j, _, rfl, by omega, HE2.out, by omega, ?_, ?_⟩, ?_⟩
        · exact (HBr.out.alloc hBr _).grown HG.out (by simp; omega) (fun g e => (World.ownsRow.lt HOr.out g e).1)
        · have h := HO'.out
          rw [show m + (k - (j + 1)) + 1 = m + (k - j) by omega] at h
          exact h
        · simp [intOf]
/-- What Bits leaves. -/
def BitsRet (w : World) (a b : Nat) (e : Ending) (w' : World) : Prop := ∃ v, e = .returned v ∧ Below w.heap.size w w' ∧ w'.ownsRow (w.heap.size + 1) 4 1 v 104 (bitsW a b)
set_option maxHeartbeats 4000000 in
theorem bits_any (a b : Nat) (h : WB a b) (w : World) : Calls Try.prog 27 #[hw a b] w (BitsRet w a b) := by
  obtain ⟨h1, h2, h3, h4, h5⟩ := h.hb
  obtain ⟨d, hd⟩ : ∃ d, fd a = d := ⟨_, rfl⟩
  obtain ⟨s, hs⟩ : ∃ s, fs a = s := ⟨_, rfl⟩
  obtain ⟨p, hp⟩ : ∃ p, fd b = p := ⟨_, rfl⟩
  obtain ⟨x, hx⟩ : ∃ x, fx b = x := ⟨_, rfl⟩
  obtain ⟨y, hy⟩ : ∃ y, fy b = y := ⟨_, rfl⟩
  have HF : Hid (bitVals d 32 ++ bitVals s 32 ++ bitVals p 8 ++ bitVals x 16 ++ bitVals y 16 = bitsW a b) := by show _ = _; unfold bitsW; rw [hd, hs, hp, hx, hy]
  rw [hd] at h1; rw [hs] at h2; rw [hp] at h3; rw [hx] at h4; rw [hy] at h5
  show Calls Try.prog 27 #[hv (fd a) (fs a) (fd b) (fx b) (fy b)] w _
  rw [hd, hs, hp, hx, hy]
  clear hd hs hp hx hy
  obtain ⟨W0, hW0⟩ : ∃ W0, w.alloc (Obj.cells #[.int .u32 d, .int .u32 s, .int .u8 p, .int .u16 x, .int .u16 y] 36) = W0 := ⟨_, rfl⟩
  have z0 : W0.cell? ⟨w.heap.size, 0, none⟩ = some (.int .u32 d) := by rw [← hW0]; simp [go_sem]
  have z1 : W0.cell? ⟨w.heap.size, 1, none⟩ = some (.int .u32 s) := by rw [← hW0]; simp [go_sem]
  have z2 : W0.cell? ⟨w.heap.size, 2, none⟩ = some (.int .u8 p) := by rw [← hW0]; simp [go_sem]
  have z3 : W0.cell? ⟨w.heap.size, 3, none⟩ = some (.int .u16 x) := by rw [← hW0]; simp [go_sem]
  have z4 : W0.cell? ⟨w.heap.size, 4, none⟩ = some (.int .u16 y) := by rw [← hW0]; simp [go_sem]
  have hz : W0.heap.size = w.heap.size + 1 := by rw [← hW0]; simp
  have HZ := Lib.hid hz
  have HB0 := Lib.hid (show Below w.heap.size w W0 by rw [← hW0]; exact below_al (Below.refl _ _) _)
  have A1 := Lib.hid (add_any (w.heap.size + 1) 0 [] (.slice none 0 0) d 32 h1 (by omega) (by omega) W0 (by omega) (World.ownsRow_nil _ _ _ _))
  go_enter Try.func27, Try.ntmps27
  go_upto_region 2 with fail
  clear hW0 hz
  go_wp2_with fail
  refine A1.out.mono ?_
  rintro e w1 ⟨v1, rfl, b1, o1⟩
  have y1 := (b1.cell (p := ⟨w.heap.size, 1, none⟩) (by show w.heap.size < w.heap.size + 1; omega)).trans z1
  have y2 := (b1.cell (p := ⟨w.heap.size, 2, none⟩) (by show w.heap.size < w.heap.size + 1; omega)).trans z2
  have y3 := (b1.cell (p := ⟨w.heap.size, 3, none⟩) (by show w.heap.size < w.heap.size + 1; omega)).trans z3
  have y4 := (b1.cell (p := ⟨w.heap.size, 4, none⟩) (by show w.heap.size < w.heap.size + 1; omega)).trans z4
  have s1 := b1.size
  have A2 := Lib.hid (add_any (w.heap.size + 1) _ _ v1 s 32 h2 (by omega) (by omega) w1 (by have := HZ.out; omega) o1)
  have B1 := Lib.hid b1
  clear b1 o1 z0 z1 z2 z3 z4 A1
  go_wp2_with fail
  refine A2.out.mono ?_
  rintro e w2 ⟨v2, rfl, b2, o2⟩
  have x2 := (b2.cell (p := ⟨w.heap.size, 2, none⟩) (by show w.heap.size < w.heap.size + 1; omega)).trans y2
  have x3 := (b2.cell (p := ⟨w.heap.size, 3, none⟩) (by show w.heap.size < w.heap.size + 1; omega)).trans y3
  have x4 := (b2.cell (p := ⟨w.heap.size, 4, none⟩) (by show w.heap.size < w.heap.size + 1; omega)).trans y4
  have s2 := b2.size
  have A3 := Lib.hid (add_any (w.heap.size + 1) _ _ v2 p 8 (by omega) (by omega) (by omega) w2 (by have := HZ.out; omega) o2)
  have B2 := Lib.hid (B1.out.trans b2)
  clear b2 o2 y1 y2 y3 y4 A2 B1
  go_wp2_with fail
  refine A3.out.mono ?_
  rintro e w3 ⟨v3, rfl, b3, o3⟩
  have q3 := (b3.cell (p := ⟨w.heap.size, 3, none⟩) (by show w.heap.size < w.heap.size + 1; omega)).trans x3
  have q4 := (b3.cell (p := ⟨w.heap.size, 4, none⟩) (by show w.heap.size < w.heap.size + 1; omega)).trans x4
  have s3 := b3.size
  have A4 := Lib.hid (add_any (w.heap.size + 1) _ _ v3 x 16 (by omega) (by omega) (by omega) w3 (by have := HZ.out; omega) o3)
  have B3 := Lib.hid (B2.out.trans b3)
  clear b3 o3 x2 x3 x4 A3 B2
  go_wp2_with fail
  refine A4.out.mono ?_
  rintro e w4 ⟨v4, rfl, b4, o4⟩
  have r4 := (b4.cell (p := ⟨w.heap.size, 4, none⟩) (by show w.heap.size < w.heap.size + 1; omega)).trans q4
  have s4 := b4.size
  have A5 := Lib.hid (add_any (w.heap.size + 1) _ _ v4 y 16 (by omega) (by omega) (by omega) w4 (by have := HZ.out; omega) o4)
  have B4 := Lib.hid (B3.out.trans b4)
  clear b4 o4 q3 q4 A4 B3
  go_wp2_with fail
  refine A5.out.mono ?_
  rintro e w5 ⟨v5, rfl, b5, o5⟩
  have B5 := Lib.hid (B4.out.trans b5)
  have O5 := Lib.hid o5
  clear b5 o5 r4 A5 B4
  go_wp2
  go_ret
  refine ⟨v5, rfl, HB0.out.trans (B5.out.mono (by omega)), ?_⟩
  have h := O5.out
  rw [List.nil_append, HF.out] at h
  exact h
end Go.Proofs.Ytioanjpeddipmaa
