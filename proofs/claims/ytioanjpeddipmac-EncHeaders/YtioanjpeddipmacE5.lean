/- Headers by their bits. -/
import Derived.Test.YtioanjpeddipmacE2
import Derived.Test.YtioanjpeddipmacHB
namespace Go.Proofs.Ytioanjpeddipmac
open Go.RowKit
set_option linter.unusedVariables false

theorem bt_tb (d s p x y : Nat) (i : Int) : bt d s p x y i = tb (pa d s) (pb p x y) i := rfl
theorem same_bits {d s p x y d' s' p' x' y' : Nat} (h : HB d s p x y) (h' : HB d' s' p' x' y') (e : ∀ k : Nat, k < 104 → bt d s p x y (k : Int) = bt d' s' p' x' y' (k : Int)) : d = d' ∧ s = s' ∧ p = p' ∧ x = x' ∧ y = y' := by
  obtain ⟨h1, h2, h3, h4, h5⟩ := h
  obtain ⟨g1, g2, g3, g4, g5⟩ := h'
  have ea : pa d s = pa d' s' := by
    apply Nat.eq_of_testBit_eq
    intro i
    by_cases hi : i < 64
    · have := e (63 - i) (by omega)
      rw [bt_tb, bt_tb, tb_lo _ _ _ (by omega), tb_lo _ _ _ (by omega), show 63 - (63 - i) = i by omega] at this
      exact this
    · have a1 : pa d s < 2 ^ i := Nat.lt_of_lt_of_le (by unfold pa; omega : pa d s < 2 ^ 64) (Nat.pow_le_pow_right (by omega) (by omega))
      have a2 : pa d' s' < 2 ^ i := Nat.lt_of_lt_of_le (by unfold pa; omega : pa d' s' < 2 ^ 64) (Nat.pow_le_pow_right (by omega) (by omega))
      rw [Nat.testBit_lt_two_pow a1, Nat.testBit_lt_two_pow a2]
  have eb : pb p x y = pb p' x' y' := by
    apply Nat.eq_of_testBit_eq
    intro i
    by_cases hi : i < 40
    · have := e (103 - i) (by omega)
      rw [bt_tb, bt_tb, tb_hi _ _ _ (by omega) (by omega), tb_hi _ _ _ (by omega) (by omega), show 103 - (103 - i) = i by omega] at this
      exact this
    · have a1 : pb p x y < 2 ^ i := Nat.lt_of_lt_of_le (by unfold pb; omega : pb p x y < 2 ^ 40) (Nat.pow_le_pow_right (by omega) (by omega))
      have a2 : pb p' x' y' < 2 ^ i := Nat.lt_of_lt_of_le (by unfold pb; omega : pb p' x' y' < 2 ^ 40) (Nat.pow_le_pow_right (by omega) (by omega))
      rw [Nat.testBit_lt_two_pow a1, Nat.testBit_lt_two_pow a2]
  unfold pa at ea
  unfold pb at eb
  omega
/-- A header has all bits of another just if it is that one. -/
theorem fl_all {d s p x y d' s' p' x' y' : Nat} (h : HB d s p x y) (h' : HB d' s' p' x' y') : allB (fl d s p x y 0 104) (hE d' s' p' x' y') = decide (d = d' ∧ s = s' ∧ p = p' ∧ x = x' ∧ y = y') := by
  rw [Bool.eq_iff_iff, decide_eq_true_eq]
  constructor
  · intro q
    unfold allB at q
    rw [List.all_eq_true] at q
    exact same_bits h h' (fun k hk => by
      have := q (0 + k, bt d s p x y ((0 + k : Nat) : Int)) (by unfold fl; exact List.mem_map.2 ⟨k, List.mem_range.2 hk, rfl⟩)
      simp only [Nat.zero_add] at this
      rw [beq_iff_eq] at this
      exact this.symm)
  · rintro ⟨rfl, rfl, rfl, rfl, rfl⟩
    unfold allB fl
    rw [List.all_eq_true]
    intro q hq
    obtain ⟨i, -, rfl⟩ := List.mem_map.1 hq
    exact beq_self_eq_true _
/-- What the two calls leave. -/
structure Duo2 (d s p x y d' s' p' x' y' : Nat) (a b : Nat) (ns1 ns2 : List Nd) : Prop where
  r1 : cF 1024 [bot, top] (fl d s p x y 0 104) = (some a, ns1)
  r2 : cF 1024 ns1 (fl d' s' p' x' y' 0 104) = (some b, ns2)
  a1 : a < ns1.length
  a2 : a < ns2.length
  hh : ev ns2 (hE d s p x y) a = true
  hg : ev ns2 (hE d' s' p' x' y') a = decide (d = d' ∧ s = s' ∧ p = p' ∧ x = x' ∧ y = y')
  eq : decide (a = b) = decide (d = d' ∧ s = s' ∧ p = p' ∧ x = x' ∧ y = y')
theorem duo2 {d s p x y d' s' p' x' y' : Nat} (h : HB d s p x y) (h' : HB d' s' p' x' y') : ∃ a b ns1 ns2, Duo2 d s p x y d' s' p' x' y' a b ns1 ns2 := by
  have hr1 := fl_rise d s p x y 0 104 (by omega)
  have hr2 := fl_rise d' s' p' x' y' 0 104 (by omega)
  obtain ⟨a, ns1, e1, o1, s1⟩ := cF_big (most := 1024) (B := fun _ => true) wf_new hr1.1 hr1.2 (bits_new _) (fun _ _ => rfl) (k := 104) (by rw [fl_len]; omega) (by show 2 + 104 < 1024; omega)
  have l1 : ns1.length ≤ 106 := by have := o1.len; simpa using this
  obtain ⟨b, ns2, e2, o2, s2⟩ := cF_big (most := 1024) (B := fun _ => true) o1.wf hr2.1 hr2.2 o1.bits (fun _ _ => rfl) (k := 104) (by rw [fl_len]; omega) (by omega)
  have s1' := s1.ext o2.ext o1.wf o2.wf
  refine ⟨a, b, ns1, ns2, e1, e2, s1.1, s1'.1, ?_, ?_, ?_⟩
  · rw [s1'.2, fl_all h h]; simp
  · rw [s1'.2, fl_all h h']
  · rw [Bool.eq_iff_iff, decide_eq_true_eq, decide_eq_true_eq]
    constructor
    · intro q
      have k := St.ne s1' s2 q (hE d' s' p' x' y')
      rw [fl_all h h', fl_all h' h'] at k
      simpa using k
    · rintro ⟨rfl, rfl, rfl, rfl, rfl⟩
      exact St.one o2.wf s1' s2 (fun _ => rfl)
end Go.Proofs.Ytioanjpeddipmac
