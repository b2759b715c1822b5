/- Powers of two (the program's, and the document's, doubled again and again); the greatest count. -/
import Derived.Test.YteinkjlnofmalaaW1
import Derived.Lib.Hide
import Derived.Deep.RegionHeld3
namespace Go.Proofs.Yteinkjlnofmalaa
open Go.RowKit
set_option linter.unusedVariables false
theorem bcell {W w1 : World} (hb : Below W.heap.size W w1) : (∀ b o, b < W.heap.size → w1.cell? ⟨b, o, none⟩ = W.cell? ⟨b, o, none⟩) ∧ (∀ b o, b < W.heap.size → w1.frozen? ⟨b, o, none⟩ = W.frozen? ⟨b, o, none⟩) :=
  ⟨fun b o h => hb.cell (p := ⟨b, o, none⟩) h, fun b o h => hb.frozen (p := ⟨b, o, none⟩) h⟩

/-- Block b is one of two numbers, x and y, and may be written. -/
def Two (w : World) (b : Nat) (x y : Int) : Prop :=
  w.cell? ⟨b, 0, none⟩ = some (.int .u64 x) ∧ w.cell? ⟨b, 1, none⟩ = some (.int .u64 y) ∧ w.frozen? ⟨b, 0, none⟩ = false ∧ w.frozen? ⟨b, 1, none⟩ = false
theorem Two.later {B b : Nat} {w w' : World} {x y : Int} (h : Two w b x y) (hb : Below B w w') (hlt : b < B) : Two w' b x y :=
  ⟨(hb.cell (p := ⟨b, 0, none⟩) hlt).trans h.1, (hb.cell (p := ⟨b, 1, none⟩) hlt).trans h.2.1, (hb.frozen (p := ⟨b, 0, none⟩) hlt).trans h.2.2.1, (hb.frozen (p := ⟨b, 1, none⟩) hlt).trans h.2.2.2⟩
theorem Two.set {b : Nat} {w : World} {x y : Int} (h : Two w b x y) (x' y' : Int) : Two ((w.setCell ⟨b, 0, none⟩ (.int .u64 x')).setCell ⟨b, 1, none⟩ (.int .u64 y')) b x' y' := by
  obtain ⟨h0, h1, f0, f1⟩ := h
  refine ⟨?_, ?_, ?_, ?_⟩
  · rw [World.cell?_setCell_other _ _ _ _ (by simp)]; exact World.cell?_setCell_same _ _ _ h0
  · exact World.cell?_setCell_same _ _ _ (by rw [World.cell?_setCell_other _ _ _ _ (by simp)]; exact h1)
  · simp [f0]
  · simp [f1]
theorem Two.set_other {b b' : Nat} {w : World} {x y : Int} (h : Two w b x y) (hne : b ≠ b') (u v : Value) : Two ((w.setCell ⟨b', 0, none⟩ u).setCell ⟨b', 1, none⟩ v) b x y := by
  obtain ⟨h0, h1, f0, f1⟩ := h
  refine ⟨?_, ?_, ?_, ?_⟩
  · rw [World.cell?_setCell_far _ _ _ _ (by simp; omega), World.cell?_setCell_far _ _ _ _ (by simp; omega)]; exact h0
  · rw [World.cell?_setCell_far _ _ _ _ (by simp; omega), World.cell?_setCell_far _ _ _ _ (by simp; omega)]; exact h1
  · simp [f0]
  · simp [f1]

set_option maxHeartbeats 400000 in
theorem pow_any (n : Int) (w : World) :
    Calls Try.prog 17 #[.int .i64 n] w fun e w' => e = .returned (cn (upI 1 n)) ∧ Below w.heap.size w w' := by
  go_enter Try.func17, Try.ntmps17
  go_wp2_with fail
  refine (of_any _ _).mono ?_
  rintro e w1 ⟨rfl, hb1⟩
  obtain ⟨hc1, hf1⟩ := bcell hb1
  have hz1 : w.heap.size < w1.heap.size := by have := hb1.size; simp at this; omega
  go_wp2_with fail
  refine (up_any 1 n (by decide) _).mono ?_
  rintro e w2 ⟨rfl, hb2⟩
  obtain ⟨hc2, hf2⟩ := bcell hb2
  go_wp2_with fail
  refine bodyPost_ret (v := cn (upI 1 n)) (by simp [results, Try.results17, go_sem, hc2, hc1, hz1]) rfl ⟨rfl, ?_⟩
  exact ((((Below.refl _ _).alloc (Nat.le_refl _) _).trans ((hb1.mono (by simp)).trans (hb2.mono (by omega)))).setCell (by simp) _).setCell (by simp) _

set_option maxHeartbeats 400000 in
theorem great_any (w : World) :
    Calls Try.prog 32 #[] w fun e w' => e = .returned (cn (MM - 1)) ∧ Below w.heap.size w w' := by
  go_enter Try.func32, Try.ntmps32
  go_wp2
  exact bodyPost_ret (v := cv 18446744073709551615 18446744073709551615) (by simp [results, Try.results32, go_sem]) rfl ⟨ret_cn (by decide) (by decide), ((Below.refl _ _).alloc (Nat.le_refl _) _)⟩

set_option maxHeartbeats 400000 in
theorem rup_in (a n : Nat) (ha : a < MM) (hn : n < 128) (w : World) :
    Calls Try.prog 16 #[cn a, .int .i64 n] w fun e w' => e = .returned (cn (upN a n)) ∧ Below w.heap.size w w' := by
  have d1 : decide ((n : Int) < 0) = false := by simp
  have d2 : decide (128 ≤ (n : Int)) = false := by simp; omega
  go_enter Try.func16, Try.ntmps16
  go_wp2
  go_loopw [5] (fun i wr => ∃ k : Nat, k ≤ n ∧ i = .int .i64 k ∧ Below w.heap.size w wr ∧ w.heap.size + 1 < wr.heap.size ∧ Two wr w.heap.size (hi (upN a k)) (lo (upN a k)) ∧ Two wr (w.heap.size + 1) 0 0)
    (fun i _ => n - (intOf i).toNat)
  case atStart =>
    refine ⟨0, Nat.zero_le _, rfl, ((Below.refl _ _).alloc (Nat.le_refl _) _).alloc (by simp) _, by simp, ?_, ?_⟩
    · rw [up_zero a ha]; exact ⟨by simp [go_sem], by simp [go_sem], by simp [go_sem], by simp [go_sem]⟩
    · exact ⟨by simp [go_sem], by simp [go_sem], by simp [go_sem], by simp [go_sem]⟩
  case round =>
    obtain ⟨k, hk, rfl, hbr, hsz, ht, ht1⟩ := hrel
    have HT := Lib.hid ht
    have HT1 := Lib.hid ht1
    obtain ⟨t0, t1, f0, f1⟩ := ht
    obtain ⟨s0, s1, g0, g1⟩ := ht1
    by_cases hlt : k < n
    · clear s0 s1 g0 g1
      go_wp2_with fail
      refine (radd_any _ _ (upN_lt a k) (upN_lt a k) _).mono ?_
      rw [← up_succ]
      rintro e w1 ⟨rfl, hb1⟩
      have hz1 : w.heap.size + 1 < w1.heap.size := by have := hb1.size; omega
      clear t0 t1 f0 f1
      obtain ⟨t0, t1, f0, f1⟩ := HT.out.later hb1 (by omega)
      go_wp2_with fail
      go_roundw
      case rel =>
        refine ⟨k + 1, by omega, by go_num, ?_, by simp; omega, ?_, ?_⟩
        · exact ((hbr.trans (hb1.mono (by omega))).setCell (by simp) _).setCell (by simp) _
        · exact (HT.out.later hb1 (by omega)).set _ _
        · exact (HT1.out.later hb1 (by omega)).set_other (by omega) _ _
      case measure => simp [intOf]; omega
    · have hkn : n = k := by omega
      subst hkn
      go_wp2
      refine bodyPost_ret (v := cn (upN a n)) (by simp [results, Try.results16, go_sem, s0, s1]) rfl ⟨rfl, ?_⟩
      exact (hbr.setCell (by simp) _).setCell (by simp) _

set_option maxHeartbeats 400000 in
theorem rup_any (a : Nat) (n : Int) (ha : a < MM) (w : World) :
    Calls Try.prog 16 #[cn a, .int .i64 n] w fun e w' => e = .returned (cn (upI a n)) ∧ Below w.heap.size w w' := by
  by_cases c1 : n < 0
  · rw [upI_out a n (Or.inl c1)]
    go_enter Try.func16, Try.ntmps16
    go_wp2
    exact bodyPost_ret (v := cv 0 0) (by simp [results, Try.results16, go_sem]) rfl ⟨ret_cn hi_zero.symm lo_zero.symm, ((Below.refl _ _).alloc (Nat.le_refl _) _).alloc (by simp) _⟩
  by_cases c2 : 128 ≤ n
  · rw [upI_out a n (Or.inr c2)]
    go_enter Try.func16, Try.ntmps16
    go_wp2
    exact bodyPost_ret (v := cv 0 0) (by simp [results, Try.results16, go_sem]) rfl ⟨ret_cn hi_zero.symm lo_zero.symm, ((Below.refl _ _).alloc (Nat.le_refl _) _).alloc (by simp) _⟩
  obtain ⟨k, rfl⟩ := Int.eq_ofNat_of_zero_le (show 0 ≤ n by omega)
  rw [upI_in a k (by omega)]
  exact rup_in a k ha (by omega) w
end Go.Proofs.Yteinkjlnofmalaa
