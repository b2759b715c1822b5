/- What two sets are joined to without a bit; a set's parts; how many there are. -/
import Derived.Test.YtioanjpeddipmacAN
namespace Go.Proofs.Ytioanjpeddipmac
open Go.RowKit
set_option linter.unusedVariables false
set_option linter.unusedSimpArgs false

set_option maxHeartbeats 1000000 in
theorem pand_any (f g : Nat) (w : World) : Calls Try.prog 76 #[.int .i64 (f : Nat), .int .i64 (g : Nat)] w fun e w' => e = .returned (.tuple #[.int .i64 (rv (plainF 0 f g) : Nat), .bool (plainF 0 f g).isSome]) ∧ w = w' := by
  by_cases c0 : f = 0
  · subst c0
    have hz : plainF 0 0 g = some 0 := by simp [plainF]
    rw [hz]
    go_enter Try.func76, Try.ntmps76
    go_wp2
    go_ret2
    exact ⟨rfl, rfl⟩
  · have e0 : ((f : Int) == 0) = false := by simp; omega
    by_cases c1 : g = 0
    · subst c1
      have hz : plainF 0 f 0 = some 0 := by simp [plainF, c0]
      rw [hz]
      go_enter Try.func76, Try.ntmps76
      go_wp2
      go_ret2
      exact ⟨rfl, rfl⟩
    · have e1 : ((g : Int) == 0) = false := by simp; omega
      by_cases c2 : f = 1
      · subst c2
        have hz : plainF 0 1 g = some g := by simp [plainF, c0, c1]
        rw [hz]
        go_enter Try.func76, Try.ntmps76
        go_wp2
        go_ret2
        exact ⟨rfl, rfl⟩
      · have e2 : ((f : Int) == 1) = false := by simp; omega
        by_cases c3 : g = 1
        · subst c3
          have hz : plainF 0 f 1 = some f := by simp [plainF, c0, c1, c2]
          rw [hz]
          go_enter Try.func76, Try.ntmps76
          go_wp2
          go_ret2
          exact ⟨rfl, rfl⟩
        · have e3 : ((g : Int) == 1) = false := by simp; omega
          by_cases c4 : f = g
          · subst c4
            have hz : plainF 0 f f = some f := by simp [plainF, c0, c1, c2, c3]
            rw [hz]
            go_enter Try.func76, Try.ntmps76
            go_wp2
            go_ret2
            exact ⟨rfl, rfl⟩
          · have e4 : ((f : Int) == (g : Int)) = false := by simp; omega
            have hz : plainF 0 f g = none := by simp [plainF, c0, c1, c2, c3, c4]
            rw [hz]
            go_enter Try.func76, Try.ntmps76
            go_wp2
            go_ret2
            exact ⟨rfl, rfl⟩
set_option maxHeartbeats 1000000 in
theorem por_any (f g : Nat) (w : World) : Calls Try.prog 77 #[.int .i64 (f : Nat), .int .i64 (g : Nat)] w fun e w' => e = .returned (.tuple #[.int .i64 (rv (plainF 1 f g) : Nat), .bool (plainF 1 f g).isSome]) ∧ w = w' := by
  by_cases c0 : f = 1
  · subst c0
    have hz : plainF 1 1 g = some 1 := by simp [plainF]
    rw [hz]
    go_enter Try.func77, Try.ntmps77
    go_wp2
    go_ret2
    exact ⟨rfl, rfl⟩
  · have e0 : ((f : Int) == 1) = false := by simp; omega
    by_cases c1 : g = 1
    · subst c1
      have hz : plainF 1 f 1 = some 1 := by simp [plainF, c0]
      rw [hz]
      go_enter Try.func77, Try.ntmps77
      go_wp2
      go_ret2
      exact ⟨rfl, rfl⟩
    · have e1 : ((g : Int) == 1) = false := by simp; omega
      by_cases c2 : f = 0
      · subst c2
        have hz : plainF 1 0 g = some g := by simp [plainF, c0, c1]
        rw [hz]
        go_enter Try.func77, Try.ntmps77
        go_wp2
        go_ret2
        exact ⟨rfl, rfl⟩
      · have e2 : ((f : Int) == 0) = false := by simp; omega
        by_cases c3 : g = 0
        · subst c3
          have hz : plainF 1 f 0 = some f := by simp [plainF, c0, c1, c2]
          rw [hz]
          go_enter Try.func77, Try.ntmps77
          go_wp2
          go_ret2
          exact ⟨rfl, rfl⟩
        · have e3 : ((g : Int) == 0) = false := by simp; omega
          by_cases c4 : f = g
          · subst c4
            have hz : plainF 1 f f = some f := by simp [plainF, c0, c1, c2, c3]
            rw [hz]
            go_enter Try.func77, Try.ntmps77
            go_wp2
            go_ret2
            exact ⟨rfl, rfl⟩
          · have e4 : ((f : Int) == (g : Int)) = false := by simp; omega
            have hz : plainF 1 f g = none := by simp [plainF, c0, c1, c2, c3, c4]
            rw [hz]
            go_enter Try.func77, Try.ntmps77
            go_wp2
            go_ret2
            exact ⟨rfl, rfl⟩
set_option maxHeartbeats 1000000 in
theorem pxor_any (f g : Nat) (w : World) : Calls Try.prog 78 #[.int .i64 (f : Nat), .int .i64 (g : Nat)] w fun e w' => e = .returned (.tuple #[.int .i64 (rv (plainF 2 f g) : Nat), .bool (plainF 2 f g).isSome]) ∧ w = w' := by
  by_cases c0 : f = g
  · subst c0
    have hz : plainF 2 f f = some 0 := by simp [plainF]
    rw [hz]
    go_enter Try.func78, Try.ntmps78
    go_wp2
    go_ret2
    exact ⟨rfl, rfl⟩
  · have e0 : ((f : Int) == (g : Int)) = false := by simp; omega
    by_cases c1 : f = 0
    · subst c1
      have hz : plainF 2 0 g = some g := by simp [plainF, c0]
      rw [hz]
      go_enter Try.func78, Try.ntmps78
      go_wp2
      go_ret2
      exact ⟨rfl, rfl⟩
    · have e1 : ((f : Int) == 0) = false := by simp; omega
      by_cases c2 : g = 0
      · subst c2
        have hz : plainF 2 f 0 = some f := by simp [plainF, c0, c1]
        rw [hz]
        go_enter Try.func78, Try.ntmps78
        go_wp2
        go_ret2
        exact ⟨rfl, rfl⟩
      · have e2 : ((g : Int) == 0) = false := by simp; omega
        have hz : plainF 2 f g = none := by simp [plainF, c0, c1, c2]
        rw [hz]
        go_enter Try.func78, Try.ntmps78
        go_wp2
        go_ret2
        exact ⟨rfl, rfl⟩
set_option maxHeartbeats 1000000 in
theorem pdiff_any (f g : Nat) (w : World) : Calls Try.prog 79 #[.int .i64 (f : Nat), .int .i64 (g : Nat)] w fun e w' => e = .returned (.tuple #[.int .i64 (rv (plainF 3 f g) : Nat), .bool (plainF 3 f g).isSome]) ∧ w = w' := by
  by_cases c0 : f = 0
  · subst c0
    have hz : plainF 3 0 g = some 0 := by simp [plainF]
    rw [hz]
    go_enter Try.func79, Try.ntmps79
    go_wp2
    go_ret2
    exact ⟨rfl, rfl⟩
  · have e0 : ((f : Int) == 0) = false := by simp; omega
    by_cases c1 : g = 1
    · subst c1
      have hz : plainF 3 f 1 = some 0 := by simp [plainF, c0]
      rw [hz]
      go_enter Try.func79, Try.ntmps79
      go_wp2
      go_ret2
      exact ⟨rfl, rfl⟩
    · have e1 : ((g : Int) == 1) = false := by simp; omega
      by_cases c2 : f = g
      · subst c2
        have hz : plainF 3 f f = some 0 := by simp [plainF, c0, c1]
        rw [hz]
        go_enter Try.func79, Try.ntmps79
        go_wp2
        go_ret2
        exact ⟨rfl, rfl⟩
      · have e2 : ((f : Int) == (g : Int)) = false := by simp; omega
        by_cases c3 : g = 0
        · subst c3
          have hz : plainF 3 f 0 = some f := by simp [plainF, c0, c1, c2]
          rw [hz]
          go_enter Try.func79, Try.ntmps79
          go_wp2
          go_ret2
          exact ⟨rfl, rfl⟩
        · have e3 : ((g : Int) == 0) = false := by simp; omega
          have hz : plainF 3 f g = none := by simp [plainF, c0, c1, c2, c3]
          rw [hz]
          go_enter Try.func79, Try.ntmps79
          go_wp2
          go_ret2
          exact ⟨rfl, rfl⟩
set_option maxHeartbeats 1000000 in
theorem plain_any (k f g : Nat) (w : World) : Calls Try.prog 72 #[.int .i64 (k : Nat), .int .i64 (f : Nat), .int .i64 (g : Nat)] w fun e w' => e = .returned (.tuple #[.int .i64 (rv (plainF k f g) : Nat), .bool (plainF k f g).isSome]) ∧ w = w' := by
  by_cases c0 : k = 0
  · subst c0
    have C := Lib.hid (pand_any f g w)
    go_enter Try.func72, Try.ntmps72
    go_wp2_with fail
    refine C.out.mono ?_
    rintro e w' ⟨rfl, rfl⟩
    go_wp2
    go_ret2
    exact ⟨rfl, rfl⟩
  have e0 : ((k : Int) == 0) = false := by simp; omega
  by_cases c1 : k = 1
  · subst c1
    have C := Lib.hid (por_any f g w)
    go_enter Try.func72, Try.ntmps72
    go_wp2_with fail
    refine C.out.mono ?_
    rintro e w' ⟨rfl, rfl⟩
    go_wp2
    go_ret2
    exact ⟨rfl, rfl⟩
  have e1 : ((k : Int) == 1) = false := by simp; omega
  by_cases c2 : k = 2
  · subst c2
    have C := Lib.hid (pxor_any f g w)
    go_enter Try.func72, Try.ntmps72
    go_wp2_with fail
    refine C.out.mono ?_
    rintro e w' ⟨rfl, rfl⟩
    go_wp2
    go_ret2
    exact ⟨rfl, rfl⟩
  have e2 : ((k : Int) == 2) = false := by simp; omega
  have hk : plainF k f g = plainF 3 f g := by unfold plainF; rw [if_neg c0, if_neg c1, if_neg c2]; rfl
  rw [hk]
  have C := Lib.hid (pdiff_any f g w)
  go_enter Try.func72, Try.ntmps72
  go_wp2_with fail
  refine C.out.mono ?_
  rintro e w' ⟨rfl, rfl⟩
  go_wp2
  go_ret2
  exact ⟨rfl, rfl⟩
set_option maxRecDepth 100000 in
set_option maxHeartbeats 1000000 in
theorem parts_any (a : AL) (most : Nat) (ns : List Nd) (f lev : Nat) (w : World) (h : Ar w a most ns) (hf : f < ns.length) :
    Calls Try.prog 73 #[.pointer (some ⟨a.p, 0, none⟩), .int .i64 (f : Nat), .int .i64 (lev : Nat)] w fun e w' => e = .returned (nv (partF ns f lev)) ∧ Below w.heap.size w w' := by
  obtain ⟨R, hR⟩ : ∃ R, partF ns f lev = R := ⟨_, rfl⟩
  rw [hR]
  have HR := Lib.hid hR
  clear hR
  obtain ⟨n, hn⟩ : ∃ n, ns.getD f bot = n := ⟨_, rfl⟩
  obtain ⟨v, l, hi⟩ := n
  have HN := Lib.hid hn
  have H0 := Lib.hid h
  clear h hn
  go_enter Try.func73, Try.ntmps73
  go_upto_region 1 with fail
  refine at_code (S := fun W => Blk W w.heap.size [.int .i64 0, .int .i64 0, .int .i64 0] ∧ Below w.heap.size w W) ⟨Blk.new _ _ _, bel_al (Below.refl _ _) _⟩ (fun W1 hW => ?_)
  obtain ⟨hX, hb⟩ := hW
  have X1 := Lib.hid hX
  have B1 := Lib.hid hb
  have A1 := Lib.hid (H0.out.on hb)
  clear hX hb
  have n_0 : W1.cell? ⟨a.q, f * 3, none⟩ = some (.int .i64 (v : Nat)) := A1.out.node (j := 0) hf (by rw [HN.out]; rfl)
  have n_1 : W1.cell? ⟨a.q, f * 3 + 1, none⟩ = some (.int .i64 (l : Nat)) := A1.out.node (j := 1) hf (by rw [HN.out]; rfl)
  have n_2 : W1.cell? ⟨a.q, f * 3 + 2, none⟩ = some (.int .i64 (hi : Nat)) := A1.out.node (j := 2) hf (by rw [HN.out]; rfl)
  obtain ⟨a_0, a_1, a_2⟩ : _ ∧ _ ∧ _ := ⟨A1.out.s.1 0 _ rfl, A1.out.s.1 1 _ rfl, A1.out.s.1 2 _ rfl⟩
  go_upto_region 2 with fail
  refine at_code (S := fun W => Blk W W1.heap.size [.int .i64 (v : Nat), .int .i64 (l : Nat), .int .i64 (hi : Nat)] ∧ Below W1.heap.size W1 W) ⟨Blk.new _ _ _, bel_al (Below.refl _ _) _⟩ (fun W2 hW => ?_)
  obtain ⟨hY, hb⟩ := hW
  have Y2 := Lib.hid hY
  have B2 := Lib.hid (bel_on' B1.out hb)
  have X2 := Lib.hid (X1.out.on hb)
  clear hY hb n_0 n_1 n_2 a_0 a_1 a_2 A1 X1
  obtain ⟨y_0, y_1, y_2⟩ : _ ∧ _ ∧ _ := ⟨Y2.out.1 0 _ rfl, Y2.out.1 1 _ rfl, Y2.out.1 2 _ rfl⟩
  obtain ⟨x_0, x_1, x_2⟩ : _ ∧ _ ∧ _ := ⟨X2.out.1 0 _ rfl, X2.out.1 1 _ rfl, X2.out.1 2 _ rfl⟩
  obtain ⟨z_0, z_1, z_2⟩ : _ ∧ _ ∧ _ := ⟨X2.out.2 0 _ rfl, X2.out.2 1 _ rfl, X2.out.2 2 _ rfl⟩
  have fin : ∀ p q r : Nat, Below w.heap.size w (((W2.setCell ⟨w.heap.size, 0, none⟩ (.int .i64 p)).setCell ⟨w.heap.size, 1, none⟩ (.int .i64 q)).setCell ⟨w.heap.size, 2, none⟩ (.int .i64 r)) := fun p q r => ((B2.out.setCell (Nat.le_refl _) _).setCell (Nat.le_refl _) _).setCell (Nat.le_refl _) _
  have FIN := Lib.hid fin
  clear fin
  by_cases c : v = lev
  · subst c
    have hz : R = ⟨v, l, hi⟩ := by rw [← HR.out]; unfold partF; rw [HN.out, if_pos rfl]
    subst hz
    go_wp2
    refine bodyPost_ret (v := .agg #[.int .i64 (v : Nat), .int .i64 (l : Nat), .int .i64 (hi : Nat)]) (by simp [results, Try.results73, go_sem, x_0, x_1, x_2]) rfl ⟨rfl, FIN.out _ _ _⟩
  · have c' : ((v : Int) == (lev : Int)) = false := by simp; omega
    have hz : R = ⟨lev, f, f⟩ := by rw [← HR.out]; unfold partF; rw [HN.out, if_neg c]
    subst hz
    go_wp2
    refine bodyPost_ret (v := .agg #[.int .i64 (lev : Nat), .int .i64 (f : Nat), .int .i64 (f : Nat)]) (by simp [results, Try.results73, go_sem, x_0, x_1, x_2]) rfl ⟨rfl, FIN.out _ _ _⟩
set_option maxHeartbeats 1000000 in
theorem len_any (a : AL) (most : Nat) (ns : List Nd) (w : World) (h : Ar w a most ns) : Calls Try.prog 22 #[.pointer (some ⟨a.p, 0, none⟩)] w fun e w' => e = .returned (.int .i64 (ns.length : Nat)) ∧ w = w' := by
  obtain ⟨a_0, a_1, a_2⟩ : _ ∧ _ ∧ _ := ⟨h.s.1 0 _ rfl, h.s.1 1 _ rfl, h.s.1 2 _ rfl⟩
  go_enter Try.func22, Try.ntmps22
  go_wp2
  go_ret
  exact ⟨rfl, rfl⟩
set_option maxHeartbeats 1000000 in
theorem len_nil (w : World) : Calls Try.prog 22 #[.pointer none] w fun e w' => e = .returned (.int .i64 0) ∧ w = w' := by
  go_enter Try.func22, Try.ntmps22
  go_wp2
  go_ret
  exact ⟨rfl, rfl⟩
/-- Is a number a set's. -/
def hasB (n : Nat) (f : Int) : Bool := decide (0 ≤ f) && decide (f < n)
set_option maxHeartbeats 1000000 in
theorem has_core (p : Value) (n : Nat) (f : Int) (w : World) (C : Hid (∀ w', w = w' → Calls Try.prog 22 #[p] w' fun e w' => e = .returned (.int .i64 (n : Nat)) ∧ w = w')) : Calls Try.prog 34 #[p, .int .i64 f] w fun e w' => e = .returned (.bool (hasB n f)) ∧ w = w' := by
  by_cases c : 0 ≤ f
  · have hz : hasB n f = decide (f < (n : Int)) := by unfold hasB; rw [decide_eq_true c]; rfl
    rw [hz]
    have C1 := Lib.hid (C.out w rfl)
    clear C
    go_enter Try.func34, Try.ntmps34
    go_wp2_with fail
    refine C1.out.mono ?_
    rintro e w' ⟨rfl, rfl⟩
    go_wp2
    go_ret
    exact ⟨rfl, rfl⟩
  · have hz : hasB n f = false := by unfold hasB; rw [decide_eq_false c]; rfl
    rw [hz]
    clear C
    go_enter Try.func34, Try.ntmps34
    go_wp2
    go_ret
    exact ⟨rfl, rfl⟩
theorem has_any (a : AL) (most : Nat) (ns : List Nd) (f : Int) (w : World) (h : Ar w a most ns) : Calls Try.prog 34 #[.pointer (some ⟨a.p, 0, none⟩), .int .i64 f] w fun e w' => e = .returned (.bool (hasB ns.length f)) ∧ w = w' :=
  has_core _ _ f w (fun w' e => by subst e; exact len_any a most ns w h)
theorem has_nil (f : Int) (w : World) : Calls Try.prog 34 #[.pointer none, .int .i64 f] w fun e w' => e = .returned (.bool false) ∧ w = w' := by
  have k := has_core (.pointer none) 0 f w (fun w' e => by subst e; exact len_nil w)
  have hz : hasB 0 f = false := by
    unfold hasB
    by_cases c : 0 ≤ f
    · rw [decide_eq_false (show ¬ f < ((0 : Nat) : Int) by omega), Bool.and_false]
    · rw [decide_eq_false c, Bool.false_and]
  rw [hz] at k
  exact k
/-- Is it a bit. -/
def bitB (i : Int) : Bool := decide (0 ≤ i) && decide (i < 104)
set_option maxHeartbeats 1000000 in
theorem isbit_any (i : Int) (w : World) : Calls Try.prog 52 #[.int .i64 i] w fun e w' => e = .returned (.bool (bitB i)) ∧ w = w' := by
  by_cases c : 0 ≤ i
  · have hz : bitB i = decide (i < 104) := by unfold bitB; rw [decide_eq_true c]; rfl
    rw [hz]
    go_enter Try.func52, Try.ntmps52
    go_wp2
    go_ret
    exact ⟨rfl, rfl⟩
  · have hz : bitB i = false := by unfold bitB; rw [decide_eq_false c]; rfl
    rw [hz]
    go_enter Try.func52, Try.ntmps52
    go_wp2
    go_ret
    exact ⟨rfl, rfl⟩
end Go.Proofs.Ytioanjpeddipmac
