/- The number of a text: what Number answers. -/
import Derived.Test.YtlmeagnegakifaaDoorH1
import Derived.Test.YtlmeagnegakifaaDoorHP
import Derived.Lib.OthersKept
import Derived.Laws.RangeAny
namespace Go.Proofs.YtlmeagnegakifaaDoor
open Go.RowKit
set_option linter.unusedVariables false

/-- Block k is an iterator over s that stands at pos. -/
def Iter (w : World) (k : Nat) (s : ByteArray) (pos : Nat) : Prop := w.heap[k]? = some (.stringIter s pos)
theorem Iter.lt {w : World} {k : Nat} {s : ByteArray} {pos : Nat} (h : Iter w k s pos) : k < w.heap.size := (Array.getElem?_eq_some_iff.1 h).1
theorem Iter.pos {w : World} {k : Nat} {s : ByteArray} {pos : Nat} (h : Iter w k s pos) : w.iterPos k = pos := by unfold World.iterPos; rw [show w.heap[k]? = _ from h]
set_option maxHeartbeats 1000000 in
theorem number_empty (m : Int) (w : World) :
    Calls Tryd.prog 20 #[.string ByteArray.empty, .int .i64 m] w fun e w' => e = .returned (.tuple #[.int .i64 0, .int .i64 6]) ∧ Below w.heap.size w w' := by
  go_enter Tryd.func20, Tryd.ntmps20
  go_wp2
  exact bodyPost_ret (v := .tuple #[.int .i64 0, .int .i64 6]) (by simp [results, Tryd.results20, go_sem]) rfl ⟨rfl, ((Below.refl _ _))⟩
/-- The iterator's next byte. -/
theorem next_byte {w wr : World} {s : ByteArray} {pos : Nat} (h : pos < s.size) (hb : Below w.heap.size w wr) (hi : Iter wr w.heap.size s pos) :
    ∃ (W1 : World) (z : Int), (∀ ty, (Instr.next (.pointer (some ⟨w.heap.size, 0, none⟩)) true ty).run Tryd.prog wr = .ok (.tuple #[.bool true, .int .i64 pos, .int .i32 z]) W1) ∧
      Below w.heap.size w W1 ∧ 0 ≤ z ∧ z ≤ 2147483647 ∧ (z < 128 → z = (s[pos].toNat : Int) ∧ Iter W1 w.heap.size s (pos + 1)) ∧ (128 ≤ z → 128 ≤ s[pos].toNat) := by
  by_cases ha : s[pos].toNat < 128
  · refine ⟨wr.iterAt w.heap.size s (pos + 1), (s[pos].toNat : Int), fun ty => Lib.run_next_ascii_at (P := Tryd.prog) wr _ s pos ty hi h ha, Lib.below_iterAt hb (by omega) s _, by omega, by omega, fun _ => ⟨rfl, Lib.iterAt_heap wr _ s pos _ hi⟩, fun hz => by omega⟩
  · obtain ⟨hz, -⟩ := decode_high s pos h (by omega)
    have hle := decode_le s pos
    refine ⟨wr.iterAt w.heap.size s (pos + (Utf8.decode s pos).2), ((Utf8.decode s pos).1 : Int), fun ty => Lib.run_next_any_at (P := Tryd.prog) wr _ s pos ty hi h, Lib.below_iterAt hb (by omega) s _, by omega, by omega, fun h' => by omega, fun _ => by omega⟩
theorem ret_two {a b a' b' : Int} (h1 : a = a') (h2 : b = b') : Ending.returned (.tuple #[.int .i64 a, .int .i64 b]) = .returned (.tuple #[.int .i64 a', .int .i64 b']) := by rw [h1, h2]
set_option maxHeartbeats 2000000 in
theorem number_some (s : ByteArray) (m : Nat) (hM : m < 9223372036854775808) (hs : 0 < s.size) (hm : s.size ≤ maxLen) (T : Nat × Int) (hT : Hid (ngo m s.data.toList true 0 = T)) (w : World) :
    Calls Tryd.prog 20 #[.string s, .int .i64 m] w fun e w' => e = .returned (.tuple #[.int .i64 T.1, .int .i64 T.2]) ∧ Below w.heap.size w w' := by
  have e1 : s.toList.isEmpty = false := by
    rw [← decide_eq_emptyBytes s]
    exact decide_eq_false (by rintro rfl; exact absurd hs (by decide))
  unfold maxLen at hm
  go_enter Tryd.func20, Tryd.ntmps20
  go_wp2
  go_loopw [6] (fun nv wr => ∃ pos c : Nat, nv = .int .i64 c ∧ pos ≤ s.size ∧ c ≤ m ∧ Below w.heap.size w wr ∧ Iter wr w.heap.size s pos ∧ ngo m (s.data.toList.drop pos) (decide (pos = 0)) c = T) (fun _ wr => s.size - wr.iterPos w.heap.size)
  case atStart =>
    refine ⟨0, 0, rfl, Nat.zero_le _, Nat.zero_le _, ?_, ?_, ?_⟩
    · exact (Below.refl _ _).alloc (Nat.le_refl _) _
    · have h := World.iter_heap w s 0
      simpa [Iter] using h
    · exact hT.out
  case round =>
    obtain ⟨pos, c, rfl, hpos, hc, hbr, hit, hT'⟩ := hrel
    have HT := Lib.hid hT'
    have HI := Lib.hid hit
    have HP := Lib.hid hit.pos
    clear hT' hT hit
    by_cases hlt : pos < s.size
    · obtain ⟨W1, z, hn, hB1, z0, z1, zs, zb⟩ := next_byte hlt hbr HI.out
      have HB := Lib.hid hB1
      have ZS := Lib.hid zs
      have ZB := Lib.hid zb
      clear hB1 zs zb HI
      have hdb := drop_byte s pos hlt
      have HD := Lib.hid hdb
      clear hdb
      by_cases hbad : z < 48 ∨ 57 < z
      · have HT6 : Hid (T = (0, 6)) := by
          have h1 := HT.out
          rw [HD.out, ngo_bad _ _ _ _ _ (by
            by_cases h128 : z < 128
            · have := (ZS.out h128).1; omega
            · have := ZB.out (by omega); omega)] at h1
          exact h1.symm
        rcases hbad with hb | hb
        · go_wp2
          refine bodyPost_ret (v := .tuple #[.int .i64 0, .int .i64 6]) (by simp [results, Tryd.results20, go_sem]) rfl ⟨?_, HB.out⟩
          rw [HT6.out]; rfl
        · have hb' : ¬ z < 48 := by omega
          go_wp2
          refine bodyPost_ret (v := .tuple #[.int .i64 0, .int .i64 6]) (by simp [results, Tryd.results20, go_sem]) rfl ⟨?_, HB.out⟩
          rw [HT6.out]; rfl
      · have hz48 : 48 ≤ z := by omega
        have hz57 : z ≤ 57 := by omega
        obtain ⟨hzb, hiter⟩ := ZS.out (by omega)
        have HZ := Lib.hid hzb
        have HI1 := Lib.hid hiter
        have dz1 : decide (z < 48) = false := by simp; omega
        have dz2 : decide (57 < z) = false := by simp; omega
        clear hbad hzb hiter
        by_cases hno : 0 < pos ∧ c = 0
        · obtain ⟨hp, rfl⟩ := hno
          have HT6 : Hid (T = (0, 6)) := by
            have h1 := HT.out
            rw [HD.out, ngo_bad _ _ _ _ _ (Or.inr (Or.inr ⟨by simp; omega, rfl⟩))] at h1
            exact h1.symm
          have dp : decide ((0 : Int) < (pos : Int)) = true := by simp; omega
          go_wp2
          refine bodyPost_ret (v := .tuple #[.int .i64 0, .int .i64 6]) (by simp [results, Tryd.results20, go_sem]) rfl ⟨?_, HB.out⟩
          rw [HT6.out]; rfl
        · have HN := Lib.hid (show decide (pos = 0) = true ∨ c ≠ 0 by simp; omega)
          have dn : (decide ((0 : Int) < (pos : Int)) && ((c : Int) == 0)) = false := by
            by_cases hp : 0 < pos
            · have : ((c : Int) == 0) = false := by simp; omega
              rw [this, Bool.and_false]
            · rw [show decide ((0 : Int) < (pos : Int)) = false by simp; omega]; rfl
          have HBig : Hid ((m : Int) < z - 48 ∨ ((m : Int) - (z - 48)) / 10 < (c : Int) → T = (0, 5)) := by
            intro hbig
            have h1 := HT.out
            have hz := HZ.out
            rw [HD.out, ngo_big _ _ _ _ _ (by omega) (by omega) HN.out (by omega)] at h1
            exact h1.symm
          have HNext : Hid (z - 48 ≤ (m : Int) ∧ (c : Int) ≤ ((m : Int) - (z - 48)) / 10 → (c : Int) * 10 + (z - 48) = ((c * 10 + (z - 48).toNat : Nat) : Int) ∧ c * 10 + (z - 48).toNat ≤ m ∧ ngo m (s.data.toList.drop (pos + 1)) (decide (pos + 1 = 0)) (c * 10 + (z - 48).toNat) = T) := by
            intro hok
            have h1 := HT.out
            have hz := HZ.out
            rw [HD.out, ngo_next _ _ _ _ _ (by omega) (by omega) HN.out (by omega), show s[pos].toNat - 48 = (z - 48).toNat by omega] at h1
            exact ⟨by omega, by omega, by rw [← h1]; simp⟩
          have HQ : Hid (s.size - W1.iterPos w.heap.size < s.size - wr.iterPos w.heap.size) := by
            show _ < _
            rw [HI1.out.pos, HP.out]; omega
          clear dz1 dz2 HN
          go_wp2
          all_goals first
            | (exfalso; rename_i h; rcases h with (h | h) | h <;> first | omega | (have := eq_of_beq h; omega))
            | (obtain ⟨q1, q2, q3⟩ := HNext.out (by omega)
               exact ⟨⟨pos + 1, _, by rw [q1], by omega, q2, HB.out, HI1.out, q3⟩, HQ.out⟩)
            | (refine bodyPost_ret (v := .tuple #[.int .i64 0, .int .i64 5]) (by simp [results, Tryd.results20, go_sem]) rfl ⟨?_, HB.out⟩
               rw [HBig.out (by omega)]; rfl)
    · have hn := fun ty => Lib.run_next_end_at (P := Tryd.prog) wr w.heap.size s pos ty HI.out hlt
      have HTc : Hid (T = (c, 0)) := by
        have h1 := HT.out
        rw [drop_end s pos (by omega), ngo] at h1
        exact h1.symm
      go_wp2
      refine bodyPost_ret (v := .tuple #[.int .i64 c, .int .i64 0]) (by simp [results, Tryd.results20, go_sem]) rfl ⟨?_, hbr⟩
      rw [HTc.out]
theorem number_any (s : ByteArray) (m : Nat) (hM : m < 9223372036854775808) (hm : s.size ≤ maxLen) (w : World) :
    Calls Tryd.prog 20 #[.string s, .int .i64 m] w fun e w' => e = .returned (.tuple #[.int .i64 (nz m s.data.toList).1, .int .i64 (nz m s.data.toList).2]) ∧ Below w.heap.size w w' := by
  by_cases h : 0 < s.size
  · refine number_some s m hM h hm (nz m s.data.toList) ?_ w
    show _ = _
    rw [nz, if_neg (fun h' => by have h2 := congrArg List.length h'; rw [Array.length_toList] at h2; exact absurd (show s.size = 0 from h2) (by omega))]
  · have h0 : s = ByteArray.empty := by
      apply ByteArray.ext
      apply Array.eq_empty_of_size_eq_zero
      simpa using h
    subst h0
    exact number_empty m w
end Go.Proofs.YtlmeagnegakifaaDoor
