/- The count of a text: what Parse answers. -/
import Derived.Test.YteinkjlnofmalaaW8
import Derived.Test.YteinkjlnofmalaaWP
import Derived.Lib.OthersKept
namespace Go.Proofs.Yteinkjlnofmalaa
open Go.RowKit
set_option linter.unusedVariables false


/-- Block k is an iterator over s that stands at pos. -/
def Iter (w : World) (k : Nat) (s : ByteArray) (pos : Nat) : Prop := w.heap[k]? = some (.stringIter s pos)
theorem Iter.lt {w : World} {k : Nat} {s : ByteArray} {pos : Nat} (h : Iter w k s pos) : k < w.heap.size := (Array.getElem?_eq_some_iff.1 h).1
theorem Iter.on {w w' : World} {k : Nat} {s : ByteArray} {pos : Nat} (h : Iter w k s pos) (hb : Below w.heap.size w w') : Iter w' k s pos := (hb.block k h.lt).trans h
theorem Iter.far {w : World} {k : Nat} {s : ByteArray} {pos : Nat} (h : Iter w k s pos) (p : Addr) (v : Value) (hne : p.block ≠ k) : Iter (w.setCell p v) k s pos := (Below.heap_setCell w p v k (by omega)).trans h
theorem Iter.al {w : World} {k : Nat} {s : ByteArray} {pos : Nat} (h : Iter w k s pos) (o : Obj) : Iter (w.alloc o) k s pos := (Below.heap_alloc w o k h.lt).trans h
theorem Two.iter {w : World} {b k : Nat} {x y : Int} (h : Two w b x y) (s : ByteArray) (pos : Nat) (hne : b ≠ k) : Two (w.iterAt k s pos) b x y := by
  have e := Lib.iterAt_other w k b s pos hne
  obtain ⟨h0, h1, f0, f1⟩ := h
  exact ⟨(World.cell?_of_block (w := w) (a := ⟨b, 0, none⟩) e).trans h0, (World.cell?_of_block (w := w) (a := ⟨b, 1, none⟩) e).trans h1, (World.frozen?_of_block (w := w) (a := ⟨b, 0, none⟩) e).trans f0, (World.frozen?_of_block (w := w) (a := ⟨b, 1, none⟩) e).trans f1⟩

/-- What Parse's loop keeps: B the first new block. -/
def PInv (w wr : World) (s : ByteArray) (T : Nat × Int) (pos c : Nat) : Prop :=
  pos ≤ s.size ∧ c < MM ∧ Below w.heap.size w wr ∧ Iter wr (w.heap.size + 1 + 1) s pos ∧ Two wr (w.heap.size + 1) (hi c) (lo c) ∧ Two wr w.heap.size 0 0 ∧ pgo (s.data.toList.drop pos) (decide (pos = 0)) c = T

set_option maxHeartbeats 1000000 in
theorem parse_empty (w : World) :
    Calls Try.prog 22 #[.string ByteArray.empty] w fun e w' => e = .returned (.tuple #[cv 0 0, .int .i64 6]) ∧ Below w.heap.size w w' := by
  go_enter Try.func22, Try.ntmps22
  go_wp2
  exact bodyPost_ret (v := .tuple #[cv 0 0, .int .i64 6]) (by simp [results, Try.results22, go_sem]) rfl ⟨rfl, ((Below.refl _ _).alloc (Nat.le_refl _) _)⟩

theorem with_okI (c : Nat) (D : Int) (h0 : 0 ≤ D) (h9 : D ≤ 9) (h : c * 10 + D.toNat < MM) (w : World) :
    Calls Try.prog 29 #[cn c, .int .u64 D] w fun e w' => e = .returned (.tuple #[cn (c * 10 + D.toNat), .bool true]) ∧ Below w.heap.size w w' := by
  obtain ⟨d, rfl⟩ := Int.eq_ofNat_of_zero_le h0
  exact with_ok c d (by omega) h w
theorem with_noI (c : Nat) (D : Int) (h0 : 0 ≤ D) (h9 : D ≤ 9) (hc : c < MM) (h : MM ≤ c * 10 + D.toNat) (w : World) :
    Calls Try.prog 29 #[cn c, .int .u64 D] w fun e w' => e = .returned (.tuple #[cv 0 0, .bool false]) ∧ Below w.heap.size w w' := by
  obtain ⟨d, rfl⟩ := Int.eq_ofNat_of_zero_le h0
  exact with_no c d hc (by omega) h w
/-- The iterator's next byte. -/
theorem next_byte {w wr : World} {s : ByteArray} {pos : Nat} {x y : Int} (h : pos < s.size) (hb : Below w.heap.size w wr) (hi : Iter wr (w.heap.size + 1 + 1) s pos) (h1 : Two wr (w.heap.size + 1) x y) (h0 : Two wr w.heap.size 0 0) :
    ∃ (W1 : World) (z : Int), (∀ ty, (Instr.next (.pointer (some ⟨w.heap.size + 1 + 1, 0, none⟩)) true ty).run Try.prog wr = .ok (.tuple #[.bool true, .int .i64 pos, .int .i32 z]) W1) ∧
      Below w.heap.size w W1 ∧ Two W1 (w.heap.size + 1) x y ∧ Two W1 w.heap.size 0 0 ∧ 0 ≤ z ∧ z ≤ 2147483647 ∧ (z < 128 → z = (s[pos].toNat : Int) ∧ Iter W1 (w.heap.size + 1 + 1) s (pos + 1)) ∧ (128 ≤ z → 128 ≤ s[pos].toNat) := by
  by_cases ha : s[pos].toNat < 128
  · refine ⟨wr.iterAt (w.heap.size + 1 + 1) s (pos + 1), (s[pos].toNat : Int), fun ty => Lib.run_next_ascii_at (P := Try.prog) wr _ s pos ty hi h ha, Lib.below_iterAt hb (by omega) s _, h1.iter s _ (by omega), h0.iter s _ (by omega), by omega, by omega, fun _ => ⟨rfl, Lib.iterAt_heap wr _ s pos _ hi⟩, fun hz => by omega⟩
  · obtain ⟨hz, -⟩ := decode_high s pos h (by omega)
    have hle := decode_le s pos
    refine ⟨wr.iterAt (w.heap.size + 1 + 1) s (pos + (Utf8.decode s pos).2), ((Utf8.decode s pos).1 : Int), fun ty => Lib.run_next_any_at (P := Try.prog) wr _ s pos ty hi h, Lib.below_iterAt hb (by omega) s _, h1.iter s _ (by omega), h0.iter s _ (by omega), by omega, by omega, fun h' => by omega, fun _ => by omega⟩
theorem ret_pair {x y x' y' : Int} {k k' : Int} (h1 : x = x') (h2 : y = y') (h3 : k = k') : Ending.returned (.tuple #[cv x y, .int .i64 k]) = .returned (.tuple #[cv x' y', .int .i64 k']) := by rw [h1, h2, h3]

set_option maxHeartbeats 2000000 in
theorem parse_some (s : ByteArray) (hs : 0 < s.size) (hm : s.size ≤ maxLen) (T : Nat × Int) (hT : Hid (pgo s.data.toList true 0 = T)) (w : World) :
    Calls Try.prog 22 #[.string s] w fun e w' => e = .returned (.tuple #[cn T.1, .int .i64 T.2]) ∧ Below w.heap.size w w' := by
  have e1 : s.toList.isEmpty = false := by
    rw [← decide_eq_emptyBytes s]
    exact decide_eq_false (by rintro rfl; exact absurd hs (by decide))
  unfold maxLen at hm
  go_enter Try.func22, Try.ntmps22
  go_wp2
  go_loopw [5] (fun _ wr => ∃ pos c, PInv w wr s T pos c) (fun _ wr => s.size - wr.iterPos (w.heap.size + 1 + 1))
  case atStart =>
    refine ⟨0, 0, Nat.zero_le _, MM_pos, ?_, ?_, ?_, ?_, ?_⟩
    · exact ((Below.refl _ _).alloc (Nat.le_refl _) _).alloc (by simp) _ |>.alloc (by simp; omega) _
    · have h := World.iter_heap ((w.alloc (Obj.cells #[Value.int IntKind.u64 0, Value.int IntKind.u64 0] 25)).alloc (Obj.cells #[Value.int IntKind.u64 0, Value.int IntKind.u64 0] 25)) s 0
      simpa [Iter] using h
    · rw [hi_zero, lo_zero]; exact two_second.al _
    · exact two_first.al _
    · exact hT.out
  case round =>
    obtain ⟨pos, c, hpos, hc, hbr, hit, ht1, ht0, hT'⟩ := hrel
    have HT := Lib.hid hT'
    have H1 := Lib.hid ht1
    have H0 := Lib.hid ht0
    have HI := Lib.hid hit
    have HP : wr.iterPos (w.heap.size + 1 + 1) = pos := by unfold World.iterPos; rw [show wr.heap[w.heap.size + 1 + 1]? = _ from hit]
    have HP := Lib.hid HP
    clear hT' hT ht1 ht0 hit
    by_cases hlt : pos < s.size
    · obtain ⟨W1, z, hn, hB1, k1, k0, z0, z1, zs, zb⟩ := next_byte hlt hbr HI.out H1.out H0.out
      have HB := Lib.hid hB1
      have K1 := Lib.hid k1
      have K0 := Lib.hid k0
      have ZS := Lib.hid zs
      have ZB := Lib.hid zb
      clear hB1 k1 k0 zs zb H1 H0 HI
      obtain ⟨r0, r1, rf0, rf1⟩ := K0.out
      obtain ⟨c0, c1, cf0, cf1⟩ := K1.out
      have hdb := drop_byte s pos hlt
      have HD := Lib.hid hdb
      clear hdb
      by_cases hbad : z < 48 ∨ 57 < z
      · have HT6 : Hid (T = (0, 6)) := by
          have h1 := HT.out
          rw [HD.out, pgo_bad _ _ _ _ (by
            by_cases h128 : z < 128
            · have := (ZS.out h128).1; omega
            · have := ZB.out (by omega); omega)] at h1
          exact h1.symm
        rcases hbad with hb | hb
        · go_wp2
          refine bodyPost_ret (v := .tuple #[cv 0 0, .int .i64 6]) (by simp [results, Try.results22, go_sem, r0, r1]) rfl ⟨?_, (HB.out.setCell (by simp) _).setCell (by simp) _⟩
          rw [HT6.out]; exact ret_pair hi_zero.symm lo_zero.symm rfl
        · have hb' : ¬ z < 48 := by omega
          go_wp2
          refine bodyPost_ret (v := .tuple #[cv 0 0, .int .i64 6]) (by simp [results, Try.results22, go_sem, r0, r1]) rfl ⟨?_, (HB.out.setCell (by simp) _).setCell (by simp) _⟩
          rw [HT6.out]; exact ret_pair hi_zero.symm lo_zero.symm rfl
      · have hz48 : 48 ≤ z := by omega
        have hz57 : z ≤ 57 := by omega
        obtain ⟨hzb, hiter⟩ := ZS.out (by omega)
        have HZ := Lib.hid hzb
        have HI1 := Lib.hid hiter
        have dz1 : decide (z < 48) = false := by simp; omega
        have dz2 : decide (57 < z) = false := by simp; omega
        clear hbad hzb hiter
        by_cases hp0 : pos = 0
        · subst hp0
          go_wp2_with fail
          by_cases hov : c * 10 + (z - 48).toNat < MM
          · have HOV := Lib.hid hov
            clear hov
            refine (with_okI c (z - 48) (by omega) (by omega) HOV.out _).mono ?_
            rintro e w2 ⟨rfl, hb2⟩
            have M0 := Lib.hid (K0.out.on hb2)
            have M1 := Lib.hid (K1.out.on hb2)
            have MI := Lib.hid (HI1.out.on hb2)
            have MB := Lib.hid (HB.out.trans (hb2.mono HB.out.size))
            clear hb2 r0 r1 rf0 rf1 c0 c1 cf0 cf1
            obtain ⟨r0, r1, rf0, rf1⟩ := M0.out
            obtain ⟨c0, c1, cf0, cf1⟩ := M1.out
            have lc := M1.out.lt
            obtain ⟨c', hc'⟩ : ∃ c', c * 10 + (z - 48).toNat = c' := ⟨_, rfl⟩
            rw [hc']
            have HCC := Lib.hid hc'
            clear hc'
            go_wp2_with fail
            refine ⟨⟨0 + 1, c', by omega, by rw [← HCC.out]; exact HOV.out, ?_, ?_, ?_, ?_, ?_⟩, ?_⟩
            · exact ((MB.out.setCell (by simp) _).setCell (by simp) _).alloc (by have := MB.out.size; simp; omega) _
            · exact ((MI.out.far _ _ (by simp)).far _ _ (by simp)).al _
            · exact (M1.out.set _ _).al _
            · exact (M0.out.set_other (by omega) _ _).al _
            · have h1 := HT.out
              rw [HD.out, pgo_next _ _ _ _ (by have := HZ.out; omega) (by have := HZ.out; omega) (Or.inl (by simp)) (by have := HZ.out; have := HOV.out; rw [show s[0].toNat - 48 = (z - 48).toNat by omega]; omega), show s[0].toNat - 48 = (z - 48).toNat by have := HZ.out; omega, HCC.out] at h1
              rw [← h1]
              simp
            · rw [HP.out]
              have hq : World.iterPos ((((w2.setCell ⟨w.heap.size + 1, 0, none⟩ (.int .u64 (hi c'))).setCell ⟨w.heap.size + 1, 1, none⟩ (.int .u64 (lo c'))).alloc (Obj.cells #[Value.int IntKind.u64 (hi c'), Value.int IntKind.u64 (lo c')] 25))) (w.heap.size + 1 + 1) = 0 + 1 := by
                have := ((MI.out.far ⟨w.heap.size + 1, 0, none⟩ (.int .u64 (hi c')) (by simp)).far ⟨w.heap.size + 1, 1, none⟩ (.int .u64 (lo c')) (by simp)).al (Obj.cells #[Value.int IntKind.u64 (hi c'), Value.int IntKind.u64 (lo c')] 25)
                unfold World.iterPos
                rw [show _ = _ from this]
              rw [hq]
              omega
          · have HOV := Lib.hid (show MM ≤ c * 10 + (z - 48).toNat by omega)
            have HT5 : Hid (T = (0, 5)) := by
              have h1 := HT.out
              rw [HD.out, pgo_big _ _ _ _ (by have := HZ.out; omega) (by have := HZ.out; omega) (Or.inl (by simp)) (by have := HZ.out; have := HOV.out; rw [show s[0].toNat - 48 = (z - 48).toNat by omega]; omega)] at h1
              exact h1.symm
            clear hov
            refine (with_noI c (z - 48) (by omega) (by omega) hc HOV.out _).mono ?_
            rintro e w2 ⟨rfl, hb2⟩
            have M0 := Lib.hid (K0.out.on hb2)
            have MB := Lib.hid (HB.out.trans (hb2.mono HB.out.size))
            clear hb2 r0 r1 rf0 rf1 c0 c1 cf0 cf1
            obtain ⟨r0, r1, rf0, rf1⟩ := M0.out
            have lr := M0.out.lt
            go_wp2
            refine bodyPost_ret (v := .tuple #[cv 0 0, .int .i64 5]) (by simp [results, Try.results22, go_sem, r0, r1, lr]) rfl ⟨?_, ?_⟩
            · rw [HT5.out]; exact ret_pair hi_zero.symm lo_zero.symm rfl
            · exact ((MB.out.setCell (by simp) _).setCell (by simp) _).alloc (by have := MB.out.size; simp; omega) _
        · have dp : decide ((0 : Int) < (pos : Int)) = true := by simp; omega
          by_cases hcz : c = 0
          · have HT6 : Hid (T = (0, 6)) := by
              have h1 := HT.out
              rw [HD.out, pgo_bad _ _ _ _ (Or.inr (Or.inr ⟨by simp [hp0], hcz⟩))] at h1
              exact h1.symm
            have HCZ := Lib.hid hcz
            clear hcz
            go_wp2_with fail
            refine (zero_any c _).mono ?_
            rw [decide_eq_true HCZ.out]
            rintro e w1 ⟨rfl, hb1⟩
            have G0 := Lib.hid (K0.out.on hb1)
            have GB := Lib.hid (HB.out.trans (hb1.mono HB.out.size))
            clear r0 r1 rf0 rf1 c0 c1 cf0 cf1 hb1
            obtain ⟨r0, r1, rf0, rf1⟩ := G0.out
            go_wp2
            refine bodyPost_ret (v := .tuple #[cv 0 0, .int .i64 6]) (by simp [results, Try.results22, go_sem, r0, r1]) rfl ⟨?_, (GB.out.setCell (by simp) _).setCell (by simp) _⟩
            rw [HT6.out]; exact ret_pair hi_zero.symm lo_zero.symm rfl
          · go_wp2_with fail
            refine (zero_any c _).mono ?_
            rw [decide_eq_false hcz]
            rintro e w1 ⟨rfl, hb1⟩
            have G0 := Lib.hid (K0.out.on hb1)
            have G1 := Lib.hid (K1.out.on hb1)
            have GI := Lib.hid (HI1.out.on hb1)
            have GB := Lib.hid (HB.out.trans (hb1.mono HB.out.size))
            clear r0 r1 rf0 rf1 c0 c1 cf0 cf1 hb1
            obtain ⟨r0, r1, rf0, rf1⟩ := G0.out
            obtain ⟨c0, c1, cf0, cf1⟩ := G1.out
            go_wp2_with fail
            by_cases hov : c * 10 + (z - 48).toNat < MM
            · have HOV := Lib.hid hov
              clear hov
              refine (with_okI c (z - 48) (by omega) (by omega) HOV.out _).mono ?_
              rintro e w2 ⟨rfl, hb2⟩
              have M0 := Lib.hid (G0.out.on hb2)
              have M1 := Lib.hid (G1.out.on hb2)
              have MI := Lib.hid (GI.out.on hb2)
              have MB := Lib.hid (GB.out.trans (hb2.mono GB.out.size))
              clear hb2 r0 r1 rf0 rf1 c0 c1 cf0 cf1
              obtain ⟨r0, r1, rf0, rf1⟩ := M0.out
              obtain ⟨c0, c1, cf0, cf1⟩ := M1.out
              have lc := M1.out.lt
              obtain ⟨c', hc'⟩ : ∃ c', c * 10 + (z - 48).toNat = c' := ⟨_, rfl⟩
              rw [hc']
              have HCC := Lib.hid hc'
              clear hc'
              go_wp2_with fail
              refine ⟨⟨pos + 1, c', by omega, by rw [← HCC.out]; exact HOV.out, ?_, ?_, ?_, ?_, ?_⟩, ?_⟩
              · exact ((MB.out.setCell (by simp) _).setCell (by simp) _).alloc (by have := MB.out.size; simp; omega) _
              · exact ((MI.out.far _ _ (by simp)).far _ _ (by simp)).al _
              · exact (M1.out.set _ _).al _
              · exact (M0.out.set_other (by omega) _ _).al _
              · have h1 := HT.out
                rw [HD.out, pgo_next _ _ _ _ (by have := HZ.out; omega) (by have := HZ.out; omega) (Or.inr hcz) (by have := HZ.out; have := HOV.out; rw [show s[pos].toNat - 48 = (z - 48).toNat by omega]; omega), show s[pos].toNat - 48 = (z - 48).toNat by have := HZ.out; omega, HCC.out] at h1
                rw [← h1]
                simp
              · rw [HP.out]
                have hq : World.iterPos ((((w2.setCell ⟨w.heap.size + 1, 0, none⟩ (.int .u64 (hi c'))).setCell ⟨w.heap.size + 1, 1, none⟩ (.int .u64 (lo c'))).alloc (Obj.cells #[Value.int IntKind.u64 (hi c'), Value.int IntKind.u64 (lo c')] 25))) (w.heap.size + 1 + 1) = pos + 1 := by
                  have := ((MI.out.far ⟨w.heap.size + 1, 0, none⟩ (.int .u64 (hi c')) (by simp)).far ⟨w.heap.size + 1, 1, none⟩ (.int .u64 (lo c')) (by simp)).al (Obj.cells #[Value.int IntKind.u64 (hi c'), Value.int IntKind.u64 (lo c')] 25)
                  unfold World.iterPos
                  rw [show _ = _ from this]
                rw [hq]
                omega
            · have HOV := Lib.hid (show MM ≤ c * 10 + (z - 48).toNat by omega)
              have HT5 : Hid (T = (0, 5)) := by
                have h1 := HT.out
                rw [HD.out, pgo_big _ _ _ _ (by have := HZ.out; omega) (by have := HZ.out; omega) (Or.inr hcz) (by have := HZ.out; have := HOV.out; rw [show s[pos].toNat - 48 = (z - 48).toNat by omega]; omega)] at h1
                exact h1.symm
              clear hov
              refine (with_noI c (z - 48) (by omega) (by omega) hc HOV.out _).mono ?_
              rintro e w2 ⟨rfl, hb2⟩
              have M0 := Lib.hid (G0.out.on hb2)
              have MB := Lib.hid (GB.out.trans (hb2.mono GB.out.size))
              clear hb2 r0 r1 rf0 rf1 c0 c1 cf0 cf1
              obtain ⟨r0, r1, rf0, rf1⟩ := M0.out
              have lr := M0.out.lt
              go_wp2
              refine bodyPost_ret (v := .tuple #[cv 0 0, .int .i64 5]) (by simp [results, Try.results22, go_sem, r0, r1, lr]) rfl ⟨?_, ?_⟩
              · rw [HT5.out]; exact ret_pair hi_zero.symm lo_zero.symm rfl
              · exact ((MB.out.setCell (by simp) _).setCell (by simp) _).alloc (by have := MB.out.size; simp; omega) _
    · have hn := fun ty => Lib.run_next_end_at (P := Try.prog) wr (w.heap.size + 1 + 1) s pos ty HI.out hlt
      obtain ⟨r0, r1, rf0, rf1⟩ := H0.out
      obtain ⟨c0, c1, cf0, cf1⟩ := H1.out
      have HTc : Hid (T = (c, 0)) := by
        have h1 := HT.out
        rw [drop_end s pos (by omega), pgo] at h1
        exact h1.symm
      go_wp2
      refine bodyPost_ret (v := .tuple #[cn c, .int .i64 0]) (by simp [results, Try.results22, go_sem, r0, r1]) rfl ⟨?_, (hbr.setCell (by simp) _).setCell (by simp) _⟩
      rw [HTc.out]
theorem parse_any (s : ByteArray) (hm : s.size ≤ maxLen) (w : World) :
    Calls Try.prog 22 #[.string s] w fun e w' => e = .returned (.tuple #[cn (pz s.data.toList).1, .int .i64 (pz s.data.toList).2]) ∧ Below w.heap.size w w' := by
  by_cases h : 0 < s.size
  · refine parse_some s h hm (pz s.data.toList) ?_ w
    show _ = _
    rw [pz, if_neg (fun h' => by have h2 := congrArg List.length h'; rw [Array.length_toList] at h2; exact absurd (show s.size = 0 from h2) (by omega))]
  · have h0 : s = ByteArray.empty := by
      apply ByteArray.ext
      apply Array.eq_empty_of_size_eq_zero
      simpa using h
    subst h0
    have := parse_empty w
    rw [show pz ByteArray.empty.data.toList = (0, 6) from rfl]
    rw [show cn (0, (6 : Int)).1 = cv 0 0 from by rw [cn_zero]]
    exact this
end Go.Proofs.Yteinkjlnofmalaa
