/- Texts joined, in their order: AP, AQ0, AC. -/
import Derived.Test.YtgcbngephokegabGAN
import Derived.LoopN
/- What two sets are joined to without a bit; a set's parts; how many there are. -/
namespace Go.Proofs.Ytgcbngephokegab
open Go.RowKit
set_option linter.unusedVariables false
set_option linter.unusedSimpArgs false

set_option maxHeartbeats 1000000 in
theorem pand_any (f g : Nat) (w : World) : Calls Try.prog 62 #[.int .i64 (f : Nat), .int .i64 (g : Nat)] w fun e w' => e = .returned (.tuple #[.int .i64 (rv (plainF 0 f g) : Nat), .bool (plainF 0 f g).isSome]) ∧ w = w' := by
  by_cases c0 : f = 0
  · subst c0
    have hz : plainF 0 0 g = some 0 := by simp [plainF]
    rw [hz]
    go_enter Try.func62, Try.ntmps62
    go_wp2
    go_ret2
    exact ⟨rfl, rfl⟩
  · have e0 : ((f : Int) == 0) = false := by simp; omega
    by_cases c1 : g = 0
    · subst c1
      have hz : plainF 0 f 0 = some 0 := by simp [plainF, c0]
      rw [hz]
      go_enter Try.func62, Try.ntmps62
      go_wp2
      go_ret2
      exact ⟨rfl, rfl⟩
    · have e1 : ((g : Int) == 0) = false := by simp; omega
      by_cases c2 : f = 1
      · subst c2
        have hz : plainF 0 1 g = some g := by simp [plainF, c0, c1]
        rw [hz]
        go_enter Try.func62, Try.ntmps62
        go_wp2
        go_ret2
        exact ⟨rfl, rfl⟩
      · have e2 : ((f : Int) == 1) = false := by simp; omega
        by_cases c3 : g = 1
        · subst c3
          have hz : plainF 0 f 1 = some f := by simp [plainF, c0, c1, c2]
          rw [hz]
          go_enter Try.func62, Try.ntmps62
          go_wp2
          go_ret2
          exact ⟨rfl, rfl⟩
        · have e3 : ((g : Int) == 1) = false := by simp; omega
          by_cases c4 : f = g
          · subst c4
            have hz : plainF 0 f f = some f := by simp [plainF, c0, c1, c2, c3]
            rw [hz]
            go_enter Try.func62, Try.ntmps62
            go_wp2
            go_ret2
            exact ⟨rfl, rfl⟩
          · have e4 : ((f : Int) == (g : Int)) = false := by simp; omega
            have hz : plainF 0 f g = none := by simp [plainF, c0, c1, c2, c3, c4]
            rw [hz]
            go_enter Try.func62, Try.ntmps62
            go_wp2
            go_ret2
            exact ⟨rfl, rfl⟩
set_option maxHeartbeats 1000000 in
theorem por_any (f g : Nat) (w : World) : Calls Try.prog 63 #[.int .i64 (f : Nat), .int .i64 (g : Nat)] w fun e w' => e = .returned (.tuple #[.int .i64 (rv (plainF 1 f g) : Nat), .bool (plainF 1 f g).isSome]) ∧ w = w' := by
  by_cases c0 : f = 1
  · subst c0
    have hz : plainF 1 1 g = some 1 := by simp [plainF]
    rw [hz]
    go_enter Try.func63, Try.ntmps63
    go_wp2
    go_ret2
    exact ⟨rfl, rfl⟩
  · have e0 : ((f : Int) == 1) = false := by simp; omega
    by_cases c1 : g = 1
    · subst c1
      have hz : plainF 1 f 1 = some 1 := by simp [plainF, c0]
      rw [hz]
      go_enter Try.func63, Try.ntmps63
      go_wp2
      go_ret2
      exact ⟨rfl, rfl⟩
    · have e1 : ((g : Int) == 1) = false := by simp; omega
      by_cases c2 : f = 0
      · subst c2
        have hz : plainF 1 0 g = some g := by simp [plainF, c0, c1]
        rw [hz]
        go_enter Try.func63, Try.ntmps63
        go_wp2
        go_ret2
        exact ⟨rfl, rfl⟩
      · have e2 : ((f : Int) == 0) = false := by simp; omega
        by_cases c3 : g = 0
        · subst c3
          have hz : plainF 1 f 0 = some f := by simp [plainF, c0, c1, c2]
          rw [hz]
          go_enter Try.func63, Try.ntmps63
          go_wp2
          go_ret2
          exact ⟨rfl, rfl⟩
        · have e3 : ((g : Int) == 0) = false := by simp; omega
          by_cases c4 : f = g
          · subst c4
            have hz : plainF 1 f f = some f := by simp [plainF, c0, c1, c2, c3]
            rw [hz]
            go_enter Try.func63, Try.ntmps63
            go_wp2
            go_ret2
            exact ⟨rfl, rfl⟩
          · have e4 : ((f : Int) == (g : Int)) = false := by simp; omega
            have hz : plainF 1 f g = none := by simp [plainF, c0, c1, c2, c3, c4]
            rw [hz]
            go_enter Try.func63, Try.ntmps63
            go_wp2
            go_ret2
            exact ⟨rfl, rfl⟩
set_option maxHeartbeats 1000000 in
theorem pxor_any (f g : Nat) (w : World) : Calls Try.prog 64 #[.int .i64 (f : Nat), .int .i64 (g : Nat)] w fun e w' => e = .returned (.tuple #[.int .i64 (rv (plainF 2 f g) : Nat), .bool (plainF 2 f g).isSome]) ∧ w = w' := by
  by_cases c0 : f = g
  · subst c0
    have hz : plainF 2 f f = some 0 := by simp [plainF]
    rw [hz]
    go_enter Try.func64, Try.ntmps64
    go_wp2
    go_ret2
    exact ⟨rfl, rfl⟩
  · have e0 : ((f : Int) == (g : Int)) = false := by simp; omega
    by_cases c1 : f = 0
    · subst c1
      have hz : plainF 2 0 g = some g := by simp [plainF, c0]
      rw [hz]
      go_enter Try.func64, Try.ntmps64
      go_wp2
      go_ret2
      exact ⟨rfl, rfl⟩
    · have e1 : ((f : Int) == 0) = false := by simp; omega
      by_cases c2 : g = 0
      · subst c2
        have hz : plainF 2 f 0 = some f := by simp [plainF, c0, c1]
        rw [hz]
        go_enter Try.func64, Try.ntmps64
        go_wp2
        go_ret2
        exact ⟨rfl, rfl⟩
      · have e2 : ((g : Int) == 0) = false := by simp; omega
        have hz : plainF 2 f g = none := by simp [plainF, c0, c1, c2]
        rw [hz]
        go_enter Try.func64, Try.ntmps64
        go_wp2
        go_ret2
        exact ⟨rfl, rfl⟩
set_option maxHeartbeats 1000000 in
theorem pdiff_any (f g : Nat) (w : World) : Calls Try.prog 65 #[.int .i64 (f : Nat), .int .i64 (g : Nat)] w fun e w' => e = .returned (.tuple #[.int .i64 (rv (plainF 3 f g) : Nat), .bool (plainF 3 f g).isSome]) ∧ w = w' := by
  by_cases c0 : f = 0
  · subst c0
    have hz : plainF 3 0 g = some 0 := by simp [plainF]
    rw [hz]
    go_enter Try.func65, Try.ntmps65
    go_wp2
    go_ret2
    exact ⟨rfl, rfl⟩
  · have e0 : ((f : Int) == 0) = false := by simp; omega
    by_cases c1 : g = 1
    · subst c1
      have hz : plainF 3 f 1 = some 0 := by simp [plainF, c0]
      rw [hz]
      go_enter Try.func65, Try.ntmps65
      go_wp2
      go_ret2
      exact ⟨rfl, rfl⟩
    · have e1 : ((g : Int) == 1) = false := by simp; omega
      by_cases c2 : f = g
      · subst c2
        have hz : plainF 3 f f = some 0 := by simp [plainF, c0, c1]
        rw [hz]
        go_enter Try.func65, Try.ntmps65
        go_wp2
        go_ret2
        exact ⟨rfl, rfl⟩
      · have e2 : ((f : Int) == (g : Int)) = false := by simp; omega
        by_cases c3 : g = 0
        · subst c3
          have hz : plainF 3 f 0 = some f := by simp [plainF, c0, c1, c2]
          rw [hz]
          go_enter Try.func65, Try.ntmps65
          go_wp2
          go_ret2
          exact ⟨rfl, rfl⟩
        · have e3 : ((g : Int) == 0) = false := by simp; omega
          have hz : plainF 3 f g = none := by simp [plainF, c0, c1, c2, c3]
          rw [hz]
          go_enter Try.func65, Try.ntmps65
          go_wp2
          go_ret2
          exact ⟨rfl, rfl⟩
set_option maxHeartbeats 1000000 in
theorem plain_any (k f g : Nat) (w : World) : Calls Try.prog 60 #[.int .i64 (k : Nat), .int .i64 (f : Nat), .int .i64 (g : Nat)] w fun e w' => e = .returned (.tuple #[.int .i64 (rv (plainF k f g) : Nat), .bool (plainF k f g).isSome]) ∧ w = w' := by
  by_cases c0 : k = 0
  · subst c0
    have C := Lib.hid (pand_any f g w)
    go_enter Try.func60, Try.ntmps60
    go_wp2_with fail
    refine C.out.mono ?_
    rintro e w' ⟨rfl, rfl⟩
    go_wp2
    go_ret2
    exact ⟨rfl, rfl⟩
  have e0 : ((k : Int) == 0) = false := by simp; omega
  by_cases c1 : k = 1
  · subst c1
    have C := Lib.hid (por_any f g w)
    go_enter Try.func60, Try.ntmps60
    go_wp2_with fail
    refine C.out.mono ?_
    rintro e w' ⟨rfl, rfl⟩
    go_wp2
    go_ret2
    exact ⟨rfl, rfl⟩
  have e1 : ((k : Int) == 1) = false := by simp; omega
  by_cases c2 : k = 2
  · subst c2
    have C := Lib.hid (pxor_any f g w)
    go_enter Try.func60, Try.ntmps60
    go_wp2_with fail
    refine C.out.mono ?_
    rintro e w' ⟨rfl, rfl⟩
    go_wp2
    go_ret2
    exact ⟨rfl, rfl⟩
  have e2 : ((k : Int) == 2) = false := by simp; omega
  have hk : plainF k f g = plainF 3 f g := by unfold plainF; rw [if_neg c0, if_neg c1, if_neg c2]; rfl
  rw [hk]
  have C := Lib.hid (pdiff_any f g w)
  go_enter Try.func60, Try.ntmps60
  go_wp2_with fail
  refine C.out.mono ?_
  rintro e w' ⟨rfl, rfl⟩
  go_wp2
  go_ret2
  exact ⟨rfl, rfl⟩
set_option maxRecDepth 100000 in
set_option maxHeartbeats 1000000 in
theorem parts_any (a : AL) (most : Nat) (ns : List Nd) (f lev : Nat) (w : World) (h : Ar w a most ns) (hf : f < ns.length) :
    Calls Try.prog 61 #[.pointer (some ⟨a.p, 0, none⟩), .int .i64 (f : Nat), .int .i64 (lev : Nat)] w fun e w' => e = .returned (nv (partF ns f lev)) ∧ Below w.heap.size w w' := by
  obtain ⟨R, hR⟩ : ∃ R, partF ns f lev = R := ⟨_, rfl⟩
  rw [hR]
  have HR := Lib.hid hR
  clear hR
  obtain ⟨n, hn⟩ : ∃ n, ns.getD f bot = n := ⟨_, rfl⟩
  obtain ⟨v, l, hi⟩ := n
  have HN := Lib.hid hn
  have H0 := Lib.hid h
  clear h hn
  go_enter Try.func61, Try.ntmps61
  go_upto_region 1 with fail
  refine at_code (S := fun W => Blk W w.heap.size [.int .i64 0, .int .i64 0, .int .i64 0] ∧ Below w.heap.size w W) ⟨Blk.new _ _ _, bel_al (Below.refl _ _) _⟩ (fun W1 hW => ?_)
  obtain ⟨hX, hb⟩ := hW
  have X1 := Lib.hid hX
  have B1 := Lib.hid hb
  have A1 := Lib.hid (H0.out.on hb)
  clear hX hb
  have n_0 : W1.cell? ⟨a.q, f * 3, none⟩ = some (.int .i64 (v : Nat)) := A1.out.node (j := 0) hf (by rw [HN.out]; rfl)
  have n_1 : W1.cell? ⟨a.q, f * 3 + 1, none⟩ = some (.int .i64 (l : Nat)) := A1.out.node (j := 1) hf (by rw [HN.out]; rfl)
  have n_2 : W1.cell? ⟨a.q, f * 3 + 2, none⟩ = some (.int .i64 (hi : Nat)) := A1.out.node (j := 2) hf (by rw [HN.out]; rfl)
  obtain ⟨a_0, a_1, a_2⟩ : _ ∧ _ ∧ _ := ⟨A1.out.s.1 0 _ rfl, A1.out.s.1 1 _ rfl, A1.out.s.1 2 _ rfl⟩
  go_upto_region 2 with fail
  refine at_code (S := fun W => Blk W W1.heap.size [.int .i64 (v : Nat), .int .i64 (l : Nat), .int .i64 (hi : Nat)] ∧ Below W1.heap.size W1 W) ⟨Blk.new _ _ _, bel_al (Below.refl _ _) _⟩ (fun W2 hW => ?_)
  obtain ⟨hY, hb⟩ := hW
  have Y2 := Lib.hid hY
  have B2 := Lib.hid (bel_on' B1.out hb)
  have X2 := Lib.hid (X1.out.on hb)
  clear hY hb n_0 n_1 n_2 a_0 a_1 a_2 A1 X1
  obtain ⟨y_0, y_1, y_2⟩ : _ ∧ _ ∧ _ := ⟨Y2.out.1 0 _ rfl, Y2.out.1 1 _ rfl, Y2.out.1 2 _ rfl⟩
  obtain ⟨x_0, x_1, x_2⟩ : _ ∧ _ ∧ _ := ⟨X2.out.1 0 _ rfl, X2.out.1 1 _ rfl, X2.out.1 2 _ rfl⟩
  obtain ⟨z_0, z_1, z_2⟩ : _ ∧ _ ∧ _ := ⟨X2.out.2 0 _ rfl, X2.out.2 1 _ rfl, X2.out.2 2 _ rfl⟩
  have fin : ∀ p q r : Nat, Below w.heap.size w (((W2.setCell ⟨w.heap.size, 0, none⟩ (.int .i64 p)).setCell ⟨w.heap.size, 1, none⟩ (.int .i64 q)).setCell ⟨w.heap.size, 2, none⟩ (.int .i64 r)) := fun p q r => ((B2.out.setCell (Nat.le_refl _) _).setCell (Nat.le_refl _) _).setCell (Nat.le_refl _) _
  have FIN := Lib.hid fin
  clear fin
  by_cases c : v = lev
  · subst c
    have hz : R = ⟨v, l, hi⟩ := by rw [← HR.out]; unfold partF; rw [HN.out, if_pos rfl]
    subst hz
    go_wp2
    refine bodyPost_ret (v := .agg #[.int .i64 (v : Nat), .int .i64 (l : Nat), .int .i64 (hi : Nat)]) (by simp [results, Try.results61, go_sem, x_0, x_1, x_2]) rfl ⟨rfl, FIN.out _ _ _⟩
  · have c' : ((v : Int) == (lev : Int)) = false := by simp; omega
    have hz : R = ⟨lev, f, f⟩ := by rw [← HR.out]; unfold partF; rw [HN.out, if_neg c]
    subst hz
    go_wp2
    refine bodyPost_ret (v := .agg #[.int .i64 (lev : Nat), .int .i64 (f : Nat), .int .i64 (f : Nat)]) (by simp [results, Try.results61, go_sem, x_0, x_1, x_2]) rfl ⟨rfl, FIN.out _ _ _⟩
set_option maxHeartbeats 1000000 in
theorem len_any (a : AL) (most : Nat) (ns : List Nd) (w : World) (h : Ar w a most ns) : Calls Try.prog 46 #[.pointer (some ⟨a.p, 0, none⟩)] w fun e w' => e = .returned (.int .i64 (ns.length : Nat)) ∧ w = w' := by
  obtain ⟨a_0, a_1, a_2⟩ : _ ∧ _ ∧ _ := ⟨h.s.1 0 _ rfl, h.s.1 1 _ rfl, h.s.1 2 _ rfl⟩
  go_enter Try.func46, Try.ntmps46
  go_wp2
  go_ret
  exact ⟨rfl, rfl⟩
set_option maxHeartbeats 1000000 in
theorem len_nil (w : World) : Calls Try.prog 46 #[.pointer none] w fun e w' => e = .returned (.int .i64 0) ∧ w = w' := by
  go_enter Try.func46, Try.ntmps46
  go_wp2
  go_ret
  exact ⟨rfl, rfl⟩
/-- Is a number a set's. -/
def hasB (n : Nat) (f : Int) : Bool := decide (0 ≤ f) && decide (f < n)
set_option maxHeartbeats 1000000 in
theorem has_core (p : Value) (n : Nat) (f : Int) (w : World) (C : Hid (∀ w', w = w' → Calls Try.prog 46 #[p] w' fun e w' => e = .returned (.int .i64 (n : Nat)) ∧ w = w')) : Calls Try.prog 24 #[p, .int .i64 f] w fun e w' => e = .returned (.bool (hasB n f)) ∧ w = w' := by
  by_cases c : 0 ≤ f
  · have hz : hasB n f = decide (f < (n : Int)) := by unfold hasB; rw [decide_eq_true c]; rfl
    rw [hz]
    have C1 := Lib.hid (C.out w rfl)
    clear C
    go_enter Try.func24, Try.ntmps24
    go_wp2_with fail
    refine C1.out.mono ?_
    rintro e w' ⟨rfl, rfl⟩
    go_wp2
    go_ret
    exact ⟨rfl, rfl⟩
  · have hz : hasB n f = false := by unfold hasB; rw [decide_eq_false c]; rfl
    rw [hz]
    clear C
    go_enter Try.func24, Try.ntmps24
    go_wp2
    go_ret
    exact ⟨rfl, rfl⟩
theorem has_any (a : AL) (most : Nat) (ns : List Nd) (f : Int) (w : World) (h : Ar w a most ns) : Calls Try.prog 24 #[.pointer (some ⟨a.p, 0, none⟩), .int .i64 f] w fun e w' => e = .returned (.bool (hasB ns.length f)) ∧ w = w' :=
  has_core _ _ f w (fun w' e => by subst e; exact len_any a most ns w h)
theorem has_nil (f : Int) (w : World) : Calls Try.prog 24 #[.pointer none, .int .i64 f] w fun e w' => e = .returned (.bool false) ∧ w = w' := by
  have k := has_core (.pointer none) 0 f w (fun w' e => by subst e; exact len_nil w)
  have hz : hasB 0 f = false := by
    unfold hasB
    by_cases c : 0 ≤ f
    · rw [decide_eq_false (show ¬ f < ((0 : Nat) : Int) by omega), Bool.and_false]
    · rw [decide_eq_false c, Bool.false_and]
  rw [hz] at k
  exact k
/-- Is it a bit. -/
def bitB (i : Int) : Bool := decide (0 ≤ i) && decide (i < 104)
set_option maxHeartbeats 1000000 in
theorem isbit_any (i : Int) (w : World) : Calls Try.prog 31 #[.int .i64 i] w fun e w' => e = .returned (.bool (bitB i)) ∧ w = w' := by
  by_cases c : 0 ≤ i
  · have hz : bitB i = decide (i < 104) := by unfold bitB; rw [decide_eq_true c]; rfl
    rw [hz]
    go_enter Try.func31, Try.ntmps31
    go_wp2
    go_ret
    exact ⟨rfl, rfl⟩
  · have hz : bitB i = false := by unfold bitB; rw [decide_eq_false c]; rfl
    rw [hz]
    go_enter Try.func31, Try.ntmps31
    go_wp2
    go_ret
    exact ⟨rfl, rfl⟩
end Go.Proofs.Ytgcbngephokegab
/- Two sets joined, bit by bit. -/
namespace Go.Proofs.Ytgcbngephokegab
open Go.RowKit Go.Maps Go.MapKept Go.ChangeMaps Go.WideElems Go.Joins
open Go.WideMaps (KeyLaw)
set_option linter.unusedVariables false

/-- A pair of sets as a value. -/
def pkv (k : Nat × Nat) : Value := .agg #[.int .i64 (k.1 : Nat), .int .i64 (k.2 : Nat)]
theorem pkv_inj (a b : Nat × Nat) (h : pkv a = pkv b) : a = b := by
  obtain ⟨a1, a2⟩ := a
  obtain ⟨b1, b2⟩ := b
  simp [pkv] at h
  simp; omega
set_option maxRecDepth 100000 in
theorem widePair : (match Try.prog.underlying 89 with | some (.array _ _) | some (.struct _) => true | _ => false) = true := by rw [Try.underlying89]
set_option maxRecDepth 100000 in
theorem lawPair : KeyLaw Try.prog 89 := deep_law_laid laidOutA (m := 2) (by omega) (of_decide_eq_true (by kernel_rfl)) (by kernel_rfl) widePair
theorem keyedPair : Keyed Try.prog 89 := Keyed.of_law lawPair
set_option maxRecDepth 100000 in
theorem key_pair (k : Nat × Nat) (h1 : k.1 ≤ 9223372036854775807) (h2 : k.2 ≤ 9223372036854775807) : ∃ l, keyOf Try.prog 89 (pkv k) = some l := by
  have ht : DataW.Trod (fun _ => ()) Try.prog default 0 (fun _ => true) true 89 (pkv k) (.agg [.lit (.int .i64 (k.1 : Nat)), .lit (.int .i64 (k.2 : Nat))]) [] :=
    ⟨2, by simp [pkv, Value.cells, DataW.trod, Try.underlying89, Try.underlying3, show Try.prog.cellsOf 89 = 2 by kernel_rfl, show Try.prog.cellsOf 3 = 1 by kernel_rfl, List.range_succ, wf64 _ h1, wf64 _ h2]⟩
  exact ⟨_, (keyOf_asKey (by kernel_rfl) widePair (by simp [pkv, Value.formed, Try.underlying89]; kernel_rfl) ht).1⟩
/-- The work of one join lies there. -/
structure Jn (w : World) (a : AL) (jb db kind : Nat) (m : Memo) : Prop where
  s : Blk w jb [.pointer (some ⟨a.p, 0, none⟩), .int .i64 (kind : Nat), .map (some db)]
  d : MapG Try.prog 89 3 pkv w db m
  j : jb ≠ a.p ∧ jb ≠ a.q ∧ jb ≠ a.m
  e : db ≠ a.p ∧ db ≠ a.q ∧ db ≠ a.m
theorem Jn.ne {w : World} {a : AL} {jb db kind : Nat} {m : Memo} (h : Jn w a jb db kind m) : jb ≠ db := by
  obtain ⟨es, clock, h2⟩ := h.d.isMap
  intro e
  have := h.s.1 0 _ rfl
  rw [e] at this
  simp [World.cell?, h2] at this
theorem Jn.on {w w' : World} {a : AL} {jb db kind : Nat} {m : Memo} (h : Jn w a jb db kind m) (hb : Below w.heap.size w w') : Jn w' a jb db kind m :=
  ⟨h.s.on hb, h.d.same (hb.block _ h.d.lt), h.j, h.e⟩
theorem Jn.off {w : World} {a : AL} {jb db kind : Nat} {m : Memo} (h : Jn w a jb db kind m) : Off (fun i => i = db) a jb := ⟨h.j.1, h.j.2.1, h.j.2.2, h.ne⟩
/-- Behind a call that turns the arena alone. -/
theorem Jn.tr {w w' : World} {a a' : AL} {jb db kind : Nat} {m : Memo} (h : Jn w a jb db kind m) (t : Tr (fun _ => False) w a w' a') : Jn w' a' jb db kind m := by
  have o1 : Off (fun _ => False) a jb := ⟨h.j.1, h.j.2.1, h.j.2.2, fun q => q⟩
  have o2 : Off (fun _ => False) a db := ⟨h.e.1, h.e.2.1, h.e.2.2, fun q => q⟩
  have p1 := o1.on t h.s.lt
  have p2 := o2.on t h.d.lt
  refine ⟨?_, h.d.same (t.k.block _ h.d.lt o2.not), ⟨p1.1, p1.2.1, p1.2.2.1⟩, ⟨p2.1, p2.2.1, p2.2.2.1⟩⟩
  rw [t.m.1]; exact h.s.tr t o1
theorem Tr.weak {X : Nat → Prop} {w w' : World} {a a' : AL} (t : Tr (fun _ => False) w a w' a') : Tr X w a w' a' := ⟨t.k.mono (fun i _ q => q.imp id (fun r => r.elim)), t.m⟩
/-- Pairs of few sets are few. -/
theorem MV.few {kind : Nat} {ns : List Nd} {m : Memo} (h : MV kind ns m) (hl : ns.length ≤ 262144) : m.length ≤ 262144 * 262144 := by
  have hn : (m.map (fun p => p.1.1 * 262144 + p.1.2)).Nodup := by
    have h1 := h.one
    unfold List.Nodup at h1 ⊢
    rw [List.pairwise_map] at h1 ⊢
    refine List.Pairwise.imp_of_mem (fun {x y} hx hy hne e => hne ?_) h1
    obtain ⟨x1, x2, -⟩ := h.ok x hx
    obtain ⟨y1, y2, -⟩ := h.ok y hy
    have e1 : x.1.1 = y.1.1 := by omega
    have e2 : x.1.2 = y.1.2 := by omega
    exact Prod.ext e1 e2
  have := nodup_sub _ (List.range (262144 * 262144)) hn (fun v hv => by
    obtain ⟨x, hx, rfl⟩ := List.mem_map.1 hv
    obtain ⟨x1, x2, -⟩ := h.ok x hx
    rw [List.mem_range]; omega)
  rw [List.length_map, List.length_range] at this
  exact this
/-- What the two parts' joins come to, and what there is for the node. -/
theorem pairF_step {kind most k : Nat} {ns : List Nd} {m : Memo} {f g : Nat} (h : WF ns) (hm : MV kind ns m) (hf : f < ns.length) (hg : g < ns.length) (hk : 105 ≤ k + 1 + min (lv ns f) (lv ns g)) (hp : plainF kind f g = none) (hl : lookM (f, g) m = none) {L : Nat} (hL : min (lv ns f) (lv ns g) = L) {x y : Nd} (hx : partF ns f L = x) (hy : partF ns g L = y) :
    x.l < ns.length ∧ y.l < ns.length ∧ 105 ≤ k + min (lv ns x.l) (lv ns y.l) ∧ L < 104 ∧
    ∀ r1 ns1 m1, pairF kind most k ns m x.l y.l = (r1, ns1, m1) → WF ns1 ∧ MV kind ns1 m1 ∧ (r1 = none → pairF kind most (k + 1) ns m f g = (none, ns1, m1)) ∧
      ∀ lo, r1 = some lo → lo < ns1.length ∧ x.h < ns1.length ∧ y.h < ns1.length ∧ 105 ≤ k + min (lv ns1 x.h) (lv ns1 y.h) ∧
        ∀ r2 ns2 m2, pairF kind most k ns1 m1 x.h y.h = (r2, ns2, m2) → WF ns2 ∧ MV kind ns2 m2 ∧ (r2 = none → pairF kind most (k + 1) ns m f g = (none, ns2, m2)) ∧
          ∀ hi, r2 = some hi → hi < ns2.length ∧ lo < ns2.length ∧ ∀ r3 ns3, numF most ns2 ⟨L, lo, hi⟩ = (r3, ns3) →
            (r3 = none → pairF kind most (k + 1) ns m f g = (none, ns3, m2)) ∧ (∀ r, r3 = some r → pairF kind most (k + 1) ns m f g = (some r, ns3, ((f, g), r) :: m2) ∧ (f, g) ∉ m2.map (·.1) ∧ r < ns3.length) := by
  have hL104 : L < 104 := by
    rcases Nat.lt_or_ge L 104 with q | q
    · exact q
    · exfalso
      have a : f ≤ 1 := by
        rcases Nat.lt_or_ge f 2 with r | r
        · omega
        · have := (h.parts r hf).2.2.2.2.2; omega
      have b : g ≤ 1 := by
        rcases Nat.lt_or_ge g 2 with r | r
        · omega
        · have := (h.parts r hg).2.2.2.2.2; omega
      exact plain_ends a b hp
  obtain ⟨xl, xh, xvl, xvh, -⟩ := part_ok h hf (L := L) (by omega) hL104
  obtain ⟨yl, yh, yvl, yvh, -⟩ := part_ok h hg (L := L) (by omega) hL104
  rw [hx] at xl xh xvl xvh
  rw [hy] at yl yh yvl yvh
  refine ⟨xl, yl, by omega, hL104, fun r1 ns1 m1 e1 => ?_⟩
  obtain ⟨M1, V1, -⟩ := pairF_made kind most k ns m x.l y.l h hm xl yl (by omega)
  rw [e1] at M1 V1
  replace M1 : Made most ns ns1 _ r1 _ := M1
  replace V1 : MV kind ns1 m1 := V1
  have hx1 := M1.ext
  have hl1 := hx1.len
  refine ⟨M1.wf, V1, fun q => ?_, fun lo q => ?_⟩
  · subst q; unfold pairF; rw [hp]; simp only; rw [hl]; simp only; rw [hL, hx, hy, e1]
  subst q
  have w1 : lv ns1 x.h = lv ns x.h := hx1.lv xh
  have w2 : lv ns1 y.h = lv ns y.h := hx1.lv yh
  refine ⟨(M1.set lo rfl).1, by omega, by omega, by rw [w1, w2]; omega, fun r2 ns2 m2 e2 => ?_⟩
  obtain ⟨M2, V2, -⟩ := pairF_made kind most k ns1 m1 x.h y.h M1.wf V1 (by omega) (by omega) (by rw [w1, w2]; omega)
  rw [e2] at M2 V2
  replace M2 : Made most ns1 ns2 _ r2 _ := M2
  replace V2 : MV kind ns2 m2 := V2
  refine ⟨M2.wf, V2, fun q => ?_, fun hi q => ?_⟩
  · subst q; unfold pairF; rw [hp]; simp only; rw [hl]; simp only; rw [hL, hx, hy, e1]; simp only; rw [e2]
  subst q
  have hl2 := M2.ext.len
  refine ⟨(M2.set hi rfl).1, by have := (M1.set lo rfl).1; omega, fun r3 ns3 e3 => ⟨fun q => ?_, fun r q => ?_⟩⟩
  · subst q; unfold pairF; rw [hp]; simp only; rw [hl]; simp only; rw [hL, hx, hy, e1]; simp only; rw [e2]; simp only; rw [e3]
  · subst q
    have e : pairF kind most (k + 1) ns m f g = (some r, ns3, ((f, g), r) :: m2) := by unfold pairF; rw [hp]; simp only; rw [hl]; simp only; rw [hL, hx, hy, e1]; simp only; rw [e2]; simp only; rw [e3]
    obtain ⟨M3, V3, -⟩ := pairF_made kind most (k + 1) ns m f g h hm hf hg (by omega)
    rw [e] at V3 M3
    have := V3.one
    simp only [List.map_cons] at this
    exact ⟨e, (List.nodup_cons.1 this).1, (M3.set r rfl).1⟩
end Go.Proofs.Ytgcbngephokegab
/- Nodes that are cut. -/
namespace Go.Proofs.Ytgcbngephokegab
open Go.RowKit
set_option linter.unusedVariables false

set_option maxRecDepth 100000 in
set_option maxHeartbeats 4000000 in
theorem cut_any (a : AL) (most : Nat) (ns : List Nd) (n : Int) (w : World) (h : Ar w a most ns) (hw : WF ns) :
    Calls Try.prog 52 #[.pointer (some ⟨a.p, 0, none⟩), .int .i64 n] w fun e w' => e = .returned (.tuple #[]) ∧ Ar w' a most (ns.take (max n.toNat 2)) ∧ Tr (fun _ => False) w a w' a := by
  obtain ⟨M, hM⟩ : ∃ M, max n.toNat 2 = M := ⟨_, rfl⟩
  rw [hM]
  have h2 := hw.len
  have C := Lib.hid (len_any a most ns w h)
  have A0 := Lib.hid h
  have HW := Lib.hid hw
  have HM := Lib.hid hM
  clear h hw hM
  have hlen := A0.out.len
  have hw0 : IntKind.i64.wrap ((ns.length : Int) - 1) = ((ns.length - 1 : Nat) : Int) := by rw [IntKind.wrap_i64]; omega
  go_enter Try.func52, Try.ntmps52
  go_wp2_with fail
  refine C.out.mono ?_
  rintro e w' ⟨rfl, rfl⟩
  go_wp2_with fail
  go_loopw [4] (fun iv wr => ∃ d : Nat, iv = .int .i64 (d : Nat) ∧ 1 ≤ d ∧ d + 1 ≤ ns.length ∧ (M ≤ d + 1 ∨ d + 1 = ns.length) ∧ Hid (Ar wr a most (ns.take (d + 1))) ∧ Hid (Tr (fun _ => False) w a wr a)) (fun iv _ => (intOf iv).toNat)
  case atStart =>
    refine ⟨ns.length - 1, rfl, by omega, by omega, Or.inr (by omega), ?_, Lib.hid (Tr.refl _ _ _)⟩
    rw [show ns.length - 1 + 1 = ns.length by omega, List.take_length]; exact A0
  case round =>
    obtain ⟨d, rfl, hd1, hd2, hd3, hA, hT⟩ := hrel
    clear C hw0
    by_cases hn : n < 2
    · have hn' : n ≤ 2 := by omega
      by_cases hge : 2 ≤ (d : Int)
      · have hMd : M ≤ d := by have := HM.out; omega
        have hdl : d < (ns.take (d + 1)).length := by rw [List.length_take]; omega
        have hln : (ns.take (d + 1)).length = d + 1 := by rw [List.length_take]; omega
        have hgd : (ns.take (d + 1)).getD d bot = ns.getD d bot := by rw [List.getD_eq_getElem?_getD, List.getD_eq_getElem?_getD, List.getElem?_take, if_pos (by omega)]
        obtain ⟨nd, hnd⟩ : ∃ x, ns.getD d bot = x := ⟨_, rfl⟩
        have hok : nd.Ok := by
          obtain ⟨q1, q2, -, -, -, q3⟩ := HW.out.parts (f := d) (by have := HM.out; omega) (by omega)
          rw [hnd] at q1 q2
          unfold lv at q3
          rw [hnd] at q3
          exact ⟨by omega, by omega, by omega⟩
        obtain ⟨KL, hKL⟩ := key_node nd hok
        have n_0 : wr.cell? ⟨a.q, d * 3, none⟩ = some (.int .i64 (nd.v : Nat)) := hA.out.node (j := 0) hdl (by rw [hgd, hnd]; rfl)
        have n_1 : wr.cell? ⟨a.q, d * 3 + 1, none⟩ = some (.int .i64 (nd.l : Nat)) := hA.out.node (j := 1) hdl (by rw [hgd, hnd]; rfl)
        have n_2 : wr.cell? ⟨a.q, d * 3 + 2, none⟩ = some (.int .i64 (nd.h : Nat)) := hA.out.node (j := 2) hdl (by rw [hgd, hnd]; rfl)
        obtain ⟨a_0, a_1, a_2⟩ : _ ∧ _ ∧ _ := ⟨hA.out.s.1 0 _ rfl, hA.out.s.1 1 _ rfl, hA.out.s.1 2 _ rfl⟩
        obtain ⟨c, hc⟩ : ∃ c, d + 1 = c := ⟨_, rfl⟩
        have hdc : d < c := by omega
        rw [hln, hc] at a_1
        have hdrop : ∀ p : Nd × Nat, p ∈ numL (ns.take d) ↔ p ∈ numL (ns.take (d + 1)) ∧ p.1 ≠ nd := fun p => by
          obtain ⟨p1, p2⟩ := p
          rw [mem_numL, mem_numL]
          have hdg : ns[d]? = some nd := by rw [← hnd]; exact get_of_lt (by omega)
          constructor
          · rintro ⟨e1, e2⟩
            have hlt := lt_of_get e2
            rw [List.length_take] at hlt
            rw [List.getElem?_take, if_pos (by omega)] at e2
            refine ⟨⟨e1, by rw [List.getElem?_take, if_pos (by omega)]; exact e2⟩, fun e => ?_⟩
            simp only at e
            rw [e] at e2
            have := HW.out.inj p2 d nd e2 hdg
            omega
          · rintro ⟨⟨e1, e2⟩, e3⟩
            have hlt := lt_of_get e2
            rw [List.length_take] at hlt
            rw [List.getElem?_take, if_pos (by omega)] at e2
            refine ⟨e1, ?_⟩
            have : p2 ≠ d := fun e => by subst e; rw [hdg] at e2; cases e2; exact e3 rfl
            rw [List.getElem?_take, if_pos (by omega)]; exact e2
        obtain ⟨W2, hdel, hM2, hO2⟩ := mapG_del (ty := 0) keyedNode Try.underlying55 nv_inj hA.out.m.drew (k := nd) hKL hdrop
        simp only [nv] at hdel
        have M2 := Lib.hid hM2
        have O2 := Lib.hid hO2
        have hnx : IntKind.i64.wrap ((d : Int) - 1) = ((d - 1 : Nat) : Int) := by rw [IntKind.wrap_i64]; omega
        clear hM2 hO2 hdrop hKL hok
        have HCe := Lib.hid hc
        clear hc
        go_upto_region 3 with fail
        refine wp_region_noPanic ?_
        refine wp_region_along (S := fun w' => w'.cell? ⟨a.p, 1, none⟩ = some (.slice (some ⟨a.q, 0, none⟩) c a.cap) ∧ w'.cell? ⟨a.p, 2, none⟩ = some (.map (some a.m)) ∧ w'.cell? ⟨a.q, d * 3, none⟩ = some (.int .i64 (nd.v : Nat)) ∧ w'.cell? ⟨a.q, d * 3 + 1, none⟩ = some (.int .i64 (nd.l : Nat)) ∧ w'.cell? ⟨a.q, d * 3 + 2, none⟩ = some (.int .i64 (nd.h : Nat))) ([(0, true), (1, true), (2, true), (3, true), (4, true), (5, true), (6, true), (7, true), (8, true), (9, true), (10, true), (11, false)]) (by kernel_rfl) (by as_aux_lemma => kernel_rfl) (by kernel_rfl) (by kernel_rfl) (by as_aux_lemma => kernel_rfl) (by as_aux_lemma => kernel_rfl) (fun _ _ _ _ _ h => h) ⟨a_1, a_2, n_0, n_1, n_2⟩ (fun hH => ?_)
        simp only [stepsOf, pickOp]
        iterate 11 (first | (refine along_skip (by rfl) ?_; try simp only [Act.put, List.setIfInBounds_toArray, List.set_cons_zero, List.set_cons_succ]) | (refine along_pure ?_ (by rfl) (fun w hSw => ?_) ?_; rotate_left; (obtain ⟨s_1, s_2, s_3, s_4, s_5⟩ := hSw; go_simp; try with_reducible rfl); try simp only [Act.put, List.setIfInBounds_toArray, List.set_cons_zero, List.set_cons_succ]))
        clear hH
        refine along_bar (fun K hK => ?_)
        go_simp
        obtain ⟨es, clk, hmb⟩ := hA.out.m.isMap
        have hc2 : ∀ i o, (wr.cell? ⟨i, o, none⟩).isSome = true → W2.cell? ⟨i, o, none⟩ = wr.cell? ⟨i, o, none⟩ := fun i o h => O2.out.cell (w := wr.drew) hmb i o h
        refine hK.out _ _ ⟨(hc2 _ _ (by rw [a_1]; rfl)).trans a_1, (hc2 _ _ (by rw [a_2]; rfl)).trans a_2, (hc2 _ _ (by rw [n_0]; rfl)).trans n_0, (hc2 _ _ (by rw [n_1]; rfl)).trans n_1, (hc2 _ _ (by rw [n_2]; rfl)).trans n_2⟩ (fun hH => ?_)
        clear hK hH K
        try simp only [Act.put, List.setIfInBounds_toArray, List.set_cons_zero, List.set_cons_succ]
        refine along_end (NoPanic.normal ?_)
        have K2 := Lib.hid (show Keep (fun i => i = a.m) wr W2 from (Keep.refl _ _).drew.only O2.out (fun _ => rfl))
        have S2 := Lib.hid (K2.out.blk hA.out.s hA.out.pm)
        clear hc2 hmb hdel n_0 n_1 n_2 a_0 a_1 a_2
        obtain ⟨cur, q1, q2, q3, q4, q5⟩ := hA.out.row
        have hq2 : W2.heap[a.q]? = some (.cells cur 53 (0, 0)) := (K2.out.block _ hA.out.ql hA.out.qm).trans q1
        have hcap : d ≤ a.cap := by omega
        obtain ⟨a_0, a_1, a_2⟩ : _ ∧ _ ∧ _ := ⟨S2.out.1 0 _ rfl, S2.out.1 1 _ rfl, S2.out.1 2 _ rfl⟩
        obtain ⟨z_0, z_1, z_2⟩ : _ ∧ _ ∧ _ := ⟨S2.out.2 0 _ rfl, S2.out.2 1 _ rfl, S2.out.2 2 _ rfl⟩
        rw [hln, HCe.out] at a_1
        have HC := Lib.hid (And.intro hq2 (And.intro q2 (And.intro q3 (And.intro q4 q5))))
        clear hq2 q1 q2 q3 q4 q5
        go_upto_region 4 with fail
        go_wp2_with fail
        refine ⟨⟨d - 1, rfl, by omega, by omega, Or.inl (by omega), ?_, ?_⟩, by simp [intOf]; omega⟩
        · show Ar _ a most _
          rw [show d - 1 + 1 = d by omega]
          have hld : (ns.take d).length = d := by rw [List.length_take]; omega
          obtain ⟨o1, o2, o3, o4, o5⟩ := HC.out
          refine ⟨?_, ⟨by rw [flat_len], Or.inr ⟨a.q, a.cap, cur, by rw [hld], Nat.zero_le _, ?_, by rw [hld]; omega, o3, o4, ?_⟩⟩, M2.out.same (Below.heap_setCell _ _ _ _ (fun e => hA.out.pm e.symm)), by rw [hld]; omega, hA.out.most, hA.out.pq⟩
          · rw [hld]; exact S2.out.set 1 _ (by simp)
          · rw [Below.heap_setCell _ _ _ _ (fun e => hA.out.pq e.symm)]; exact o1
          · rw [hld]
            have e1 : cur.toList.take (d * 3) = (cur.toList.take ((ns.take (d + 1)).length * 3)).take (d * 3) := by rw [List.take_take, hln]; congr 1; omega
            rw [e1, o5, flat_take, List.take_take]; congr 2; omega
        · exact hT.out.trans ⟨(K2.out.mono (fun i _ e => Or.inl (Or.inr (Or.inr e)))).set _ _ (fun _ => Or.inl (Or.inl rfl)), Mv.refl _ _⟩
      · have hMd : d < M := by have := HM.out; omega
        go_wp2
        refine bodyPost_end (v := .tuple #[]) (by simp [results, Try.results52, go_sem]) rfl ?_
        have e1 : ns.take (d + 1) = ns.take M := by
          rcases hd3 with q | q
          · rw [show d + 1 = M by omega]
          · rw [q, List.take_length, List.take_of_length_le (by omega)]
        exact ⟨rfl, by rw [← e1]; exact hA.out, hT.out⟩
    · have hn' : 2 ≤ n := by omega
      by_cases hge : n ≤ (d : Int)
      · have hMd : M ≤ d := by have := HM.out; omega
        have hdl : d < (ns.take (d + 1)).length := by rw [List.length_take]; omega
        have hln : (ns.take (d + 1)).length = d + 1 := by rw [List.length_take]; omega
        have hgd : (ns.take (d + 1)).getD d bot = ns.getD d bot := by rw [List.getD_eq_getElem?_getD, List.getD_eq_getElem?_getD, List.getElem?_take, if_pos (by omega)]
        obtain ⟨nd, hnd⟩ : ∃ x, ns.getD d bot = x := ⟨_, rfl⟩
        have hok : nd.Ok := by
          obtain ⟨q1, q2, -, -, -, q3⟩ := HW.out.parts (f := d) (by have := HM.out; omega) (by omega)
          rw [hnd] at q1 q2
          unfold lv at q3
          rw [hnd] at q3
          exact ⟨by omega, by omega, by omega⟩
        obtain ⟨KL, hKL⟩ := key_node nd hok
        have n_0 : wr.cell? ⟨a.q, d * 3, none⟩ = some (.int .i64 (nd.v : Nat)) := hA.out.node (j := 0) hdl (by rw [hgd, hnd]; rfl)
        have n_1 : wr.cell? ⟨a.q, d * 3 + 1, none⟩ = some (.int .i64 (nd.l : Nat)) := hA.out.node (j := 1) hdl (by rw [hgd, hnd]; rfl)
        have n_2 : wr.cell? ⟨a.q, d * 3 + 2, none⟩ = some (.int .i64 (nd.h : Nat)) := hA.out.node (j := 2) hdl (by rw [hgd, hnd]; rfl)
        obtain ⟨a_0, a_1, a_2⟩ : _ ∧ _ ∧ _ := ⟨hA.out.s.1 0 _ rfl, hA.out.s.1 1 _ rfl, hA.out.s.1 2 _ rfl⟩
        obtain ⟨c, hc⟩ : ∃ c, d + 1 = c := ⟨_, rfl⟩
        have hdc : d < c := by omega
        rw [hln, hc] at a_1
        have hdrop : ∀ p : Nd × Nat, p ∈ numL (ns.take d) ↔ p ∈ numL (ns.take (d + 1)) ∧ p.1 ≠ nd := fun p => by
          obtain ⟨p1, p2⟩ := p
          rw [mem_numL, mem_numL]
          have hdg : ns[d]? = some nd := by rw [← hnd]; exact get_of_lt (by omega)
          constructor
          · rintro ⟨e1, e2⟩
            have hlt := lt_of_get e2
            rw [List.length_take] at hlt
            rw [List.getElem?_take, if_pos (by omega)] at e2
            refine ⟨⟨e1, by rw [List.getElem?_take, if_pos (by omega)]; exact e2⟩, fun e => ?_⟩
            simp only at e
            rw [e] at e2
            have := HW.out.inj p2 d nd e2 hdg
            omega
          · rintro ⟨⟨e1, e2⟩, e3⟩
            have hlt := lt_of_get e2
            rw [List.length_take] at hlt
            rw [List.getElem?_take, if_pos (by omega)] at e2
            refine ⟨e1, ?_⟩
            have : p2 ≠ d := fun e => by subst e; rw [hdg] at e2; cases e2; exact e3 rfl
            rw [List.getElem?_take, if_pos (by omega)]; exact e2
        obtain ⟨W2, hdel, hM2, hO2⟩ := mapG_del (ty := 0) keyedNode Try.underlying55 nv_inj hA.out.m.drew (k := nd) hKL hdrop
        simp only [nv] at hdel
        have M2 := Lib.hid hM2
        have O2 := Lib.hid hO2
        have hnx : IntKind.i64.wrap ((d : Int) - 1) = ((d - 1 : Nat) : Int) := by rw [IntKind.wrap_i64]; omega
        clear hM2 hO2 hdrop hKL hok
        have HCe := Lib.hid hc
        clear hc
        go_upto_region 3 with fail
        refine wp_region_noPanic ?_
        refine wp_region_along (S := fun w' => w'.cell? ⟨a.p, 1, none⟩ = some (.slice (some ⟨a.q, 0, none⟩) c a.cap) ∧ w'.cell? ⟨a.p, 2, none⟩ = some (.map (some a.m)) ∧ w'.cell? ⟨a.q, d * 3, none⟩ = some (.int .i64 (nd.v : Nat)) ∧ w'.cell? ⟨a.q, d * 3 + 1, none⟩ = some (.int .i64 (nd.l : Nat)) ∧ w'.cell? ⟨a.q, d * 3 + 2, none⟩ = some (.int .i64 (nd.h : Nat))) ([(0, true), (1, true), (2, true), (3, true), (4, true), (5, true), (6, true), (7, true), (8, true), (9, true), (10, true), (11, false)]) (by kernel_rfl) (by as_aux_lemma => kernel_rfl) (by kernel_rfl) (by kernel_rfl) (by as_aux_lemma => kernel_rfl) (by as_aux_lemma => kernel_rfl) (fun _ _ _ _ _ h => h) ⟨a_1, a_2, n_0, n_1, n_2⟩ (fun hH => ?_)
        simp only [stepsOf, pickOp]
        iterate 11 (first | (refine along_skip (by rfl) ?_; try simp only [Act.put, List.setIfInBounds_toArray, List.set_cons_zero, List.set_cons_succ]) | (refine along_pure ?_ (by rfl) (fun w hSw => ?_) ?_; rotate_left; (obtain ⟨s_1, s_2, s_3, s_4, s_5⟩ := hSw; go_simp; try with_reducible rfl); try simp only [Act.put, List.setIfInBounds_toArray, List.set_cons_zero, List.set_cons_succ]))
        clear hH
        refine along_bar (fun K hK => ?_)
        go_simp
        obtain ⟨es, clk, hmb⟩ := hA.out.m.isMap
        have hc2 : ∀ i o, (wr.cell? ⟨i, o, none⟩).isSome = true → W2.cell? ⟨i, o, none⟩ = wr.cell? ⟨i, o, none⟩ := fun i o h => O2.out.cell (w := wr.drew) hmb i o h
        refine hK.out _ _ ⟨(hc2 _ _ (by rw [a_1]; rfl)).trans a_1, (hc2 _ _ (by rw [a_2]; rfl)).trans a_2, (hc2 _ _ (by rw [n_0]; rfl)).trans n_0, (hc2 _ _ (by rw [n_1]; rfl)).trans n_1, (hc2 _ _ (by rw [n_2]; rfl)).trans n_2⟩ (fun hH => ?_)
        clear hK hH K
        try simp only [Act.put, List.setIfInBounds_toArray, List.set_cons_zero, List.set_cons_succ]
        refine along_end (NoPanic.normal ?_)
        have K2 := Lib.hid (show Keep (fun i => i = a.m) wr W2 from (Keep.refl _ _).drew.only O2.out (fun _ => rfl))
        have S2 := Lib.hid (K2.out.blk hA.out.s hA.out.pm)
        clear hc2 hmb hdel n_0 n_1 n_2 a_0 a_1 a_2
        obtain ⟨cur, q1, q2, q3, q4, q5⟩ := hA.out.row
        have hq2 : W2.heap[a.q]? = some (.cells cur 53 (0, 0)) := (K2.out.block _ hA.out.ql hA.out.qm).trans q1
        have hcap : d ≤ a.cap := by omega
        obtain ⟨a_0, a_1, a_2⟩ : _ ∧ _ ∧ _ := ⟨S2.out.1 0 _ rfl, S2.out.1 1 _ rfl, S2.out.1 2 _ rfl⟩
        obtain ⟨z_0, z_1, z_2⟩ : _ ∧ _ ∧ _ := ⟨S2.out.2 0 _ rfl, S2.out.2 1 _ rfl, S2.out.2 2 _ rfl⟩
        rw [hln, HCe.out] at a_1
        have HC := Lib.hid (And.intro hq2 (And.intro q2 (And.intro q3 (And.intro q4 q5))))
        clear hq2 q1 q2 q3 q4 q5
        go_upto_region 4 with fail
        go_wp2_with fail
        refine ⟨⟨d - 1, rfl, by omega, by omega, Or.inl (by omega), ?_, ?_⟩, by simp [intOf]; omega⟩
        · show Ar _ a most _
          rw [show d - 1 + 1 = d by omega]
          have hld : (ns.take d).length = d := by rw [List.length_take]; omega
          obtain ⟨o1, o2, o3, o4, o5⟩ := HC.out
          refine ⟨?_, ⟨by rw [flat_len], Or.inr ⟨a.q, a.cap, cur, by rw [hld], Nat.zero_le _, ?_, by rw [hld]; omega, o3, o4, ?_⟩⟩, M2.out.same (Below.heap_setCell _ _ _ _ (fun e => hA.out.pm e.symm)), by rw [hld]; omega, hA.out.most, hA.out.pq⟩
          · rw [hld]; exact S2.out.set 1 _ (by simp)
          · rw [Below.heap_setCell _ _ _ _ (fun e => hA.out.pq e.symm)]; exact o1
          · rw [hld]
            have e1 : cur.toList.take (d * 3) = (cur.toList.take ((ns.take (d + 1)).length * 3)).take (d * 3) := by rw [List.take_take, hln]; congr 1; omega
            rw [e1, o5, flat_take, List.take_take]; congr 2; omega
        · exact hT.out.trans ⟨(K2.out.mono (fun i _ e => Or.inl (Or.inr (Or.inr e)))).set _ _ (fun _ => Or.inl (Or.inl rfl)), Mv.refl _ _⟩
      · have hMd : d < M := by have := HM.out; omega
        go_wp2
        refine bodyPost_end (v := .tuple #[]) (by simp [results, Try.results52, go_sem]) rfl ?_
        have e1 : ns.take (d + 1) = ns.take M := by
          rcases hd3 with q | q
          · rw [show d + 1 = M by omega]
          · rw [q, List.take_length, List.take_of_length_le (by omega)]
        exact ⟨rfl, by rw [← e1]; exact hA.out, hT.out⟩
end Go.Proofs.Ytgcbngephokegab
