/- A count in digits: what Print answers; the document's example. -/
import Derived.Test.YteinkjlnofmalaaW3
import Derived.Test.YteinkjlnofmalaaWD
import Derived.Laws.IdiomStrings
namespace Go.Proofs.Yteinkjlnofmalaa
open Go.RowKit
set_option linter.unusedVariables false

/-- Block b is a text of 39 bytes whose last k are the last k digits of a; it may be written. -/
def Txt (w : World) (b k a : Nat) : Prop :=
  ∃ tx : Nat → Int, (∀ j, j < 39 → w.cell? ⟨b, j, none⟩ = some (.int .u8 (tx j))) ∧ (∀ j, j < 39 → w.frozen? ⟨b, j, none⟩ = false) ∧
    ∀ j (h : j < (digN k a).length), tx (39 - k + j) = (((digN k a)[j].toNat : Nat) : Int)
theorem Txt.later {B b k a : Nat} {w w' : World} (h : Txt w b k a) (hb : Below B w w') (hlt : b < B) : Txt w' b k a := by
  obtain ⟨tx, h1, h2, h3⟩ := h
  exact ⟨tx, fun j hj => (hb.cell (p := ⟨b, j, none⟩) hlt).trans (h1 j hj), fun j hj => (hb.frozen (p := ⟨b, j, none⟩) hlt).trans (h2 j hj), h3⟩
theorem Txt.far {b k a : Nat} {w : World} (h : Txt w b k a) (p : Addr) (v : Value) (hne : p.block ≠ b) : Txt (w.setCell p v) b k a := by
  obtain ⟨tx, h1, h2, h3⟩ := h
  exact ⟨tx, fun j hj => by rw [World.cell?_setCell_far _ _ _ _ hne]; exact h1 j hj, fun j hj => by simp [h2 j hj], h3⟩
theorem Two.far {b : Nat} {w : World} {x y : Int} (h : Two w b x y) (p : Addr) (v : Value) (hne : p.block ≠ b) : Two (w.setCell p v) b x y := by
  obtain ⟨h0, h1, f0, f1⟩ := h
  exact ⟨by rw [World.cell?_setCell_far _ _ _ _ hne]; exact h0, by rw [World.cell?_setCell_far _ _ _ _ hne]; exact h1, by simp [f0], by simp [f1]⟩
theorem Txt.set {b k a : Nat} {w : World} (h : Txt w b k a) (hk : k < 39) : Txt (w.setCell ⟨b, 38 - k, none⟩ (.int .u8 (48 + ((a / 10 ^ k : Nat) : Int) % 10))) b (k + 1) a := by
  obtain ⟨tx, h1, h2, h3⟩ := h
  refine ⟨fun j => if j = 38 - k then 48 + ((a / 10 ^ k : Nat) : Int) % 10 else tx j, fun j hj => ?_, fun j hj => by simp [h2 j hj], fun j hj => ?_⟩
  · by_cases e : j = 38 - k
    · subst e
      simp only [if_pos]
      exact World.cell?_setCell_same _ _ _ (h1 _ hj)
    · dsimp only
      rw [if_neg e, World.cell?_setCell_other _ _ _ _ (by simp)]
      exact h1 j hj
  · have hl := digN_length (k + 1) a
    have e : (digN (k + 1) a)[j] = (UInt8.ofNat (48 + a / 10 ^ k % 10) :: digN k a)[j]'(by rw [← digN_front]; exact hj) := by
      congr 1; exact digN_front k a
    rw [e]
    have hjk : j < k + 1 := by omega
    clear e
    dsimp only
    cases j with
    | zero =>
      rw [if_pos (by omega)]
      simp only [List.getElem_cons_zero]
      rw [UInt8.toNat_ofNat']
      omega
    | succ i =>
      rw [if_neg (by omega), show 39 - (k + 1) + (i + 1) = 39 - k + i by omega]
      simp only [List.getElem_cons_succ]
      exact h3 i _

theorem Two.alloc {b : Nat} {w : World} {x y : Int} (h : Two w b x y) (o : Obj) (hlt : b < w.heap.size) : Two (w.alloc o) b x y :=
  h.later ((Below.refl w.heap.size w).alloc (Nat.le_refl _) o) hlt
theorem Txt.alloc {b k a : Nat} {w : World} (h : Txt w b k a) (o : Obj) (hlt : b < w.heap.size) : Txt (w.alloc o) b k a :=
  h.later ((Below.refl w.heap.size w).alloc (Nat.le_refl _) o) hlt
theorem arr_len : Try.prog.arrayLen 50 = 39 := by kernel_rfl
theorem arr_elem : Try.prog.elem 50 = 5 := by kernel_rfl
theorem arr_under : Try.prog.underlying 50 = some (.array (Try.prog.arrayLen 50) (Try.prog.elem 50)) := by kernel_rfl
theorem byte_size (w : World) : (sizeOf 5).run Try.prog w = .ok 1 w := by kernel_rfl
/-- 'text[m:]'. -/
theorem slice39 (b m : Nat) (hm : m < 39) (w : World) :
    (Instr.sliceAt 50 (.pointer (some ⟨b, 0, none⟩)) (some (.int .i64 m)) none none).run Try.prog w = .ok (.slice (some ⟨b, m, none⟩) (39 - m) (39 - m)) w := by
  rw [run_sliceAt_array_l w 50 ⟨b, 0, none⟩ arr_under .i64 m (by omega) (by rw [arr_len]; omega), arr_elem, byte_size, arr_len]
  simp only [Result.andThen, slicedAt, Int.toNat_natCast]
  rw [if_neg (by omega)]
  simp [Addr.add]
  omega
theorem str_of_txt {w : World} {b k a : Nat} (h : Txt w b k a) (hk : k ≤ 39) :
    (convert 53 9 (.slice (some ⟨b, 39 - k, none⟩) k k)).run Try.prog w = .ok (.string ⟨(digN k a).toArray⟩) w := by
  obtain ⟨tx, h1, h2, h3⟩ := h
  have hl := digN_length k a
  have := run_convert_bytes_back (P := Try.prog) w 53 9 5 ⟨b, 39 - k, none⟩ k (digN k a) Try.underlying53 Try.underlying5 Try.underlying9 (fun j hj => by
    have : (⟨b, 39 - k, none⟩ : Addr).add j = ⟨b, 39 - k + j, none⟩ := by unfold Addr.add; split <;> simp_all
    rw [this, h1 _ (by omega), h3 j hj])
  rw [hl] at this
  exact this
/-- A round of Print: one digit more. -/
theorem print_step {w w2 : World} {x y : Int} {a m c : Nat} (hm : m ≤ 39) (hm1 : 1 ≤ m) (hB : Below w.heap.size w w2) (hs : w.heap.size + 1 < w2.heap.size) (ht : Two w2 w.heap.size x y) (hx : Txt w2 (w.heap.size + 1) (39 - m) a) (hc : a / 10 ^ (39 - m) = c) (o : Obj) :
    Below w.heap.size w ((((w2.setCell ⟨w.heap.size + 1, m - 1, none⟩ (.int .u8 (48 + (c : Int) % 10))).setCell ⟨w.heap.size, 0, none⟩ (.int .u64 (hi (c / 10)))).setCell ⟨w.heap.size, 1, none⟩ (.int .u64 (lo (c / 10)))).alloc o) ∧
    w.heap.size + 1 < ((((w2.setCell ⟨w.heap.size + 1, m - 1, none⟩ (.int .u8 (48 + (c : Int) % 10))).setCell ⟨w.heap.size, 0, none⟩ (.int .u64 (hi (c / 10)))).setCell ⟨w.heap.size, 1, none⟩ (.int .u64 (lo (c / 10)))).alloc o).heap.size ∧
    Two ((((w2.setCell ⟨w.heap.size + 1, m - 1, none⟩ (.int .u8 (48 + (c : Int) % 10))).setCell ⟨w.heap.size, 0, none⟩ (.int .u64 (hi (c / 10)))).setCell ⟨w.heap.size, 1, none⟩ (.int .u64 (lo (c / 10)))).alloc o) w.heap.size (hi (a / 10 ^ (39 - (m - 1)))) (lo (a / 10 ^ (39 - (m - 1)))) ∧
    Txt ((((w2.setCell ⟨w.heap.size + 1, m - 1, none⟩ (.int .u8 (48 + (c : Int) % 10))).setCell ⟨w.heap.size, 0, none⟩ (.int .u64 (hi (c / 10)))).setCell ⟨w.heap.size, 1, none⟩ (.int .u64 (lo (c / 10)))).alloc o) (w.heap.size + 1) (39 - (m - 1)) a := by
  have e : a / 10 ^ (39 - (m - 1)) = c / 10 := by
    rw [show 39 - (m - 1) = (39 - m) + 1 by omega, Nat.pow_succ, ← Nat.div_div_eq_div_mul, hc]
  have hx' := hx.set (show 39 - m < 39 by omega)
  rw [show 38 - (39 - m) = m - 1 by omega, hc, show 39 - m + 1 = 39 - (m - 1) by omega] at hx'
  refine ⟨(((hB.setCell (by simp) _).setCell (by simp) _).setCell (by simp) _).alloc (by simp; omega) _, by simp; omega, ?_, ?_⟩
  · rw [e]
    exact ((ht.far _ _ (by simp)).set _ _).alloc _ (by simp; omega)
  · exact ((hx'.far _ _ (by simp)).far _ _ (by simp)).alloc _ (by simp; omega)

set_option maxHeartbeats 1000000 in
theorem print_any (a : Nat) (ha : a < MM) (w : World) :
    Calls Try.prog 21 #[cn a] w fun e w' => e = .returned (.string ⟨(dig a).toArray⟩) ∧ Below w.heap.size w w' := by
  go_enter Try.func21, Try.ntmps21
  go_wp2
  go_loopw [4] (fun i wr => ∃ m : Nat, m ≤ 39 ∧ i = .int .i64 m ∧ Below w.heap.size w wr ∧ w.heap.size + 1 < wr.heap.size ∧ Two wr w.heap.size (hi (a / 10 ^ (39 - m))) (lo (a / 10 ^ (39 - m))) ∧ Txt wr (w.heap.size + 1) (39 - m) a ∧ (m < 38 → 10 ^ (38 - m) ≤ a))
    (fun i _ => (intOf i).toNat)
  case atStart =>
    refine ⟨39, Nat.le_refl _, rfl, ((Below.refl _ _).alloc (Nat.le_refl _) _).alloc (by simp) _, by simp, ?_, ?_, by omega⟩
    · rw [show 39 - 39 = 0 by omega, Nat.pow_zero, Nat.div_one]; exact ⟨by simp [go_sem], by simp [go_sem], by simp [go_sem], by simp [go_sem]⟩
    · refine ⟨fun _ => 0, fun j hj => ?_, fun j hj => by simp [go_sem], fun j hj => by simp [digN] at hj⟩
      simp [go_sem]
      show (List.replicate 39 (Value.int IntKind.u8 0))[j]? = _
      rw [List.getElem?_replicate, if_pos hj]
  case round =>
    obtain ⟨m, hm, rfl, hbr, hsz, ht, htx, hbig⟩ := hrel
    have HT := Lib.hid ht
    have HX := Lib.hid htx
    have HB := Lib.hid hbig
    clear hbig htx
    obtain ⟨t0, t1, f0, f1⟩ := ht
    by_cases hm39 : m = 39
    · subst hm39
      have hc : a / 10 ^ (39 - 39) = a := by simp
      rw [hc] at t0 t1
      go_wp2_with fail
      refine (split_any a ha _).mono ?_
      rintro e w2 ⟨rfl, hb2⟩
      have HT2 := Lib.hid (HT.out.later hb2 (by omega))
      have HX2 := Lib.hid (HX.out.later hb2 (by omega))
      clear t0 t1 f0 f1
      have ht := HT2.out
      rw [hc] at ht
      have HC := Lib.hid hc
      clear hc
      obtain ⟨t0, t1, f0, f1⟩ := ht
      have hz2 : w.heap.size + 1 < w2.heap.size := by have := hb2.size; omega
      have hz3 : w.heap.size < w2.heap.size := by omega
      obtain ⟨tx, x1, x2, x3⟩ := HX2.out
      have y1 := x1 38 (by omega)
      have y2 := x2 38 (by omega)
      clear x1 x2 x3
      go_wp2_with fail
      obtain ⟨g1, g2, g3, g4⟩ := print_step hm (by omega) (hbr.trans (hb2.mono (by omega))) hz2 HT2.out HX2.out HC.out (Obj.cells #[Value.int IntKind.u64 (hi (a / 10)), Value.int IntKind.u64 (lo (a / 10))] 25)
      refine ⟨⟨38, by omega, rfl, g1, g2, g3, g4, fun h => by omega⟩, by simp [intOf]⟩
    · by_cases hz : a / 10 ^ (39 - m) = 0
      · have hne : ((m : Int) == 39) = false := by simp; omega
        rw [hz] at t0 t1
        have HZ := Lib.hid hz
        clear hz
        go_wp2_with fail
        refine (zero_any 0 _).mono ?_
        rw [decide_eq_true rfl]
        rintro e w1 ⟨rfl, hb1⟩
        have hs1 := slice39 (w.heap.size + 1) m (by omega)
        have hs2 := str_of_txt (HX.out.later hb1 (by omega)) (by omega)
        rw [show 39 - (39 - m) = m by omega] at hs2
        have HN := Lib.hid (nd_eq (39 - m) a (by omega) ((div_of_lt a (39 - m)).1 HZ.out) (fun h => by rw [show 39 - m - 1 = 38 - m by omega]; exact HB.out (by omega)))
        go_wp2_with fail
        go_ret
        refine ⟨?_, hbr.trans (hb1.mono (by omega))⟩
        rw [dig, HN.out]
        rfl
      · have hne : ((m : Int) == 39) = false := by simp; omega
        obtain ⟨c, hc⟩ : ∃ c, a / 10 ^ (39 - m) = c := ⟨_, rfl⟩
        have hclt : c < MM := by rw [← hc]; exact Nat.lt_of_le_of_lt (Nat.div_le_self _ _) ha
        have hm1 : 1 ≤ m := by
          rcases Nat.eq_zero_or_pos m with h | h
          · subst h; exact absurd ((div_of_lt a 39).2 (Nat.lt_of_lt_of_le ha ten39)) hz
          · exact h
        rw [hc] at t0 t1 hz
        have HC := Lib.hid hc
        clear hc
        have dz : decide (c = 0) = false := by simp; exact hz
        go_wp2_with fail
        refine (zero_any c _).mono ?_
        rw [dz]
        rintro e w1 ⟨rfl, hb1⟩
        have HT1 := Lib.hid (HT.out.later hb1 (by omega))
        have HX1 := Lib.hid (HX.out.later hb1 (by omega))
        clear t0 t1 f0 f1
        have ht := HT1.out
        rw [HC.out] at ht
        obtain ⟨t0, t1, f0, f1⟩ := ht
        have hz1 : w.heap.size + 1 < w1.heap.size := by have := hb1.size; omega
        go_wp2_with fail
        refine (split_any c hclt _).mono ?_
        rintro e w2 ⟨rfl, hb2⟩
        have HT2 := Lib.hid (HT1.out.later hb2 (by omega))
        have HX2 := Lib.hid (HX1.out.later hb2 (by omega))
        clear t0 t1 f0 f1
        have ht := HT2.out
        rw [HC.out] at ht
        obtain ⟨t0, t1, f0, f1⟩ := ht
        have hz2 : w.heap.size + 1 < w2.heap.size := by have := hb2.size; omega
        have hz3 : w.heap.size < w2.heap.size := by omega
        obtain ⟨tx, x1, x2, x3⟩ := HX2.out
        have y1 := x1 (m - 1) (by omega)
        have y2 := x2 (m - 1) (by omega)
        clear x1 x2 x3
        go_wp2_with fail
        obtain ⟨g1, g2, g3, g4⟩ := print_step hm hm1 ((hbr.trans (hb1.mono (by omega))).trans (hb2.mono (by omega))) hz2 HT2.out HX2.out HC.out (Obj.cells #[Value.int IntKind.u64 (hi (c / 10)), Value.int IntKind.u64 (lo (c / 10))] 25)
        refine ⟨⟨m - 1, by omega, by go_num, g1, g2, g3, g4, fun _ => ?_⟩, by simp [intOf]; omega⟩
        have := mt (div_of_lt a (39 - m)).2 (by rw [HC.out]; exact hz)
        rw [show 38 - (m - 1) = 39 - m by omega]; omega
theorem dig_104 : (dig (upI 1 104)).toArray = #[50, 48, 50, 56, 50, 52, 48, 57, 54, 48, 51, 54, 53, 49, 54, 55, 48, 52, 50, 51, 57, 52, 55, 50, 53, 49, 50, 56, 54, 48, 49, 54] := by decide +kernel
set_option maxHeartbeats 1000000 in
theorem awake_any (w : World) :
    Calls Try.prog 10 #[] w fun e w' => e = .returned (.bool true) ∧ Below w.heap.size w w' := by
  go_enter Try.func10, Try.ntmps10
  go_wp2_with fail
  refine (pow_any _ _).mono ?_
  rintro e w1 ⟨rfl, hb1⟩
  go_wp2_with fail
  refine (print_any _ (upI_lt _ _) _).mono ?_
  rw [dig_104]
  rintro e w2 ⟨rfl, hb2⟩
  go_wp2_with fail
  go_ret
  exact ⟨rfl, hb1.trans (hb2.mono hb1.size)⟩
end Go.Proofs.Yteinkjlnofmalaa
