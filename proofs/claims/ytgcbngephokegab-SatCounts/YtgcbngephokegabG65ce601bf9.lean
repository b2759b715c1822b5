/- Texts joined, in their order: S7, HM, Q5, Q6, H12, HB, Q7, H13. -/
import Derived.Test.YtgcbngephokegabG2074eb7696
import Derived.Laws.Bits64b
import Derived.Lib.EndianBits
import Derived.Test.YtgcbngephokegabGc388192ded
import Derived.Test.YtgcbngephokegabGe31e430b94
import Derived.Lib.Hide
import Derived.LoopN
import Derived.Deep.RegionHeld3
import Derived.Deep.DeepCutAuto
import Derived.Below
import Derived.Laws.OwnMore
/- How many headers a set has: Count. -/
namespace Go.Proofs.Ytgcbngephokegab
open Go.RowKit Wd
set_option linter.unusedVariables false
set_option linter.unusedSimpArgs false

theorem al_kept {W w1 w' : World} {o : Obj} (hb : Below W.heap.size W w1) (hk : Keep (fun i => i = w1.heap.size) (w1.alloc o) w') : Below W.heap.size W w' :=
  (bel_al hb o).trans (hk.below (by have := hb.size; simp; omega) (fun k hk e => by have := hb.size; omega))
set_option maxRecDepth 100000 in
set_option maxHeartbeats 1000000 in
theorem Count_core (p : Value) (f : Int) (l x y : Nat) (W : World)
    (CH : Hid (∀ w, Below W.heap.size W w → Calls Try.prog 24 #[p, .int .i64 f] w fun e w' => e = .returned (.bool true) ∧ w = w'))
    (CC : Hid (∀ w1, Below W.heap.size W w1 → Calls Try.prog 25 #[p, .int .i64 f, .map (some w1.heap.size)] (w1.alloc (.map #[] 0)) fun e w' => e = .returned (cn x) ∧ Keep (fun i => i = w1.heap.size) (w1.alloc (.map #[] 0)) w'))
    (CL : Hid (∀ w, Below W.heap.size W w → Calls Try.prog 27 #[p, .int .i64 f] w fun e w' => e = .returned (.int .i64 (l : Nat)) ∧ Below w.heap.size w w'))
    (CU : Hid (∀ w, Calls Try.prog 26 #[cn x, .int .i64 (l : Nat)] w fun e w' => e = .returned (cn y) ∧ Below w.heap.size w w')) :
    Calls Try.prog 9 #[p, .int .i64 f] W fun e w' => e = .returned (cn y) ∧ Below W.heap.size W w' := by
  have hmm := @run_makeMap Try.prog
  go_enter Try.func9, Try.ntmps9
  go_upto_region 1 with fail
  refine at_code (S := fun w1 => Blk w1 W.heap.size [.int .u64 0, .int .u64 0] ∧ Below W.heap.size W w1) ⟨Blk.new _ _ _, bel_al (Below.refl _ _) _⟩ (fun W1 hW => ?_)
  obtain ⟨hX, hb⟩ := hW
  have X1 := Lib.hid hX
  have B1 := Lib.hid hb
  clear hX hb
  go_wp2_with fail
  refine (CH.out W1 B1.out).mono ?_
  rintro e w' ⟨rfl, rfl⟩
  go_wp2_with fail
  refine (CC.out W1 B1.out).mono ?_
  rintro e w2 ⟨rfl, hk⟩
  have X2 := Lib.hid (hk.blk (X1.out.on (bel_al (Below.refl _ _) _)) (Nat.ne_of_lt X1.out.lt))
  have B2 := Lib.hid (al_kept B1.out hk)
  clear hk CC CH X1 B1
  go_wp2_with fail
  refine (CL.out w2 B2.out).mono ?_
  rintro e w3 ⟨rfl, hb⟩
  have X3 := Lib.hid (X2.out.on hb)
  have B3 := Lib.hid (bel_on' B2.out hb)
  clear hb CL X2 B2
  go_wp2_with fail
  refine (CU.out w3).mono ?_
  rintro e w4 ⟨rfl, hb⟩
  have X4 := Lib.hid (X3.out.on hb)
  have B4 := Lib.hid (bel_on' B3.out hb)
  clear hb CU X3 B3
  obtain ⟨x_0, x_1⟩ := cells2 X4.out
  have z_0 := X4.out.2 0 _ rfl
  have z_1 := X4.out.2 1 _ rfl
  go_wp2
  refine bodyPost_ret (v := cn y) (by simp [results, Try.results9, go_sem, x_0, x_1]) rfl ⟨rfl, ?_⟩
  exact (B4.out.setCell (Nat.le_refl _) _).setCell (Nat.le_refl _) _
theorem sCount {Z : Nat → Prop} {p most : Nat} {W : World} {ns : List Nd} (h : Sta Z p W most ns) (f : Nat) (hf : f < ns.length) :
    Calls Try.prog 9 #[.pointer (some ⟨p, 0, none⟩), .int .i64 (f : Nat)] W fun e w' => e = .returned (cn (many (fun e => ev ns e f))) ∧ Below W.heap.size W w' := by
  have hw := h.wf
  have b := wy_le hw f hf
  have l1 := lv_le hw (f := f)
  refine Count_core _ _ (lv ns f) (wy ns f) _ W (Lib.hid (fun w hb => ?_)) (Lib.hid (fun w1 hb => ?_)) (Lib.hid (fun w hb => slevel (h.on hb) f hf)) (Lib.hid (fun w => ?_))
  · have := sHas (h.on hb) f
    rw [show hasB ns.length (f : Nat) = true by unfold hasB; simp; omega] at this
    exact this
  · have hl := (h.on hb)
    have hlen := h.len
    refine (scount_f p most w1.heap.size ns hlen (f + 1) f _ [] (by omega) hf ⟨by simp, Nat.le_refl _, ?_, MapV.made w1, ⟨fun p hp => (by cases hp), List.nodup_nil⟩⟩).mono ?_
    · obtain ⟨a, h1, h2, h3, h4, h5⟩ := hl
      have a1 := h2.pl
      have a2 := h2.ql
      have a3 := h2.ml
      exact ⟨a, h1, h2.on (bel_al (Below.refl _ _) _), h3, fun k hk => by
        rw [World.size_alloc]
        rcases hk with e | e | e <;> exact ⟨by omega, by omega⟩⟩
    · rintro e w' ⟨rfl, -, hk⟩
      exact ⟨rfl, hk⟩
  · have m := many_wy hw hf
    have hm := many_le (fun e => ev ns e f)
    have := up_any (wy ns f) ((lv ns f : Nat) : Int) (lt_MM b (by omega)) w
    rw [up_to (wy ns f) (lv ns f) 104 l1 (by rw [m]; exact hm) (by omega), m] at this
    exact this
set_option maxRecDepth 100000 in
set_option maxHeartbeats 1000000 in
theorem Count_none (p : Value) (f : Int) (W : World) (CH : Hid (∀ w, Below W.heap.size W w → Calls Try.prog 24 #[p, .int .i64 f] w fun e w' => e = .returned (.bool false) ∧ w = w')) :
    Calls Try.prog 9 #[p, .int .i64 f] W fun e w' => e = .returned (cn 0) ∧ Below W.heap.size W w' := by
  go_enter Try.func9, Try.ntmps9
  go_upto_region 1 with fail
  refine at_code (S := fun w1 => Blk w1 W.heap.size [.int .u64 0, .int .u64 0] ∧ Below W.heap.size W w1) ⟨Blk.new _ _ _, bel_al (Below.refl _ _) _⟩ (fun W1 hW => ?_)
  obtain ⟨hX, hb⟩ := hW
  have X1 := Lib.hid hX
  have B1 := Lib.hid hb
  clear hX hb
  go_wp2_with fail
  refine (CH.out W1 B1.out).mono ?_
  rintro e w' ⟨rfl, rfl⟩
  obtain ⟨x_0, x_1⟩ := cells2 X1.out
  have z_0 := X1.out.2 0 _ rfl
  have z_1 := X1.out.2 1 _ rfl
  clear CH
  go_wp2
  refine bodyPost_ret (v := cv 0 0) (by simp [results, Try.results9, go_sem, x_0, x_1]) rfl ⟨by rw [cn_zero], ?_⟩
  exact (B1.out.setCell (Nat.le_refl _) _).setCell (Nat.le_refl _) _
theorem sCount_not {Z : Nat → Prop} {p most : Nat} {W : World} {ns : List Nd} (h : Sta Z p W most ns) (f : Int) (hf : hasB ns.length f = false) :
    Calls Try.prog 9 #[.pointer (some ⟨p, 0, none⟩), .int .i64 f] W fun e w' => e = .returned (cn 0) ∧ Below W.heap.size W w' :=
  Count_none _ f W (Lib.hid (fun w hb => by have := sHas (h.on hb) f; rw [hf] at this; exact this))
end Go.Proofs.Ytgcbngephokegab
/- Plain: words of bits: one bit set, or not. No program in sight. -/
namespace Go.Proofs.Ytgcbngephokegab
set_option linter.unusedVariables false

/-- A word without a mask's bits; with or without them. -/
def clr (a m : Nat) : Nat := a ^^^ (a &&& m)
def wo (a m : Nat) (on : Bool) : Nat := if on then a ||| m else clr a m
theorem clr_bit (a m j : Nat) : (clr a m).testBit j = (a.testBit j && !m.testBit j) := by
  unfold clr; rw [Nat.testBit_xor, Nat.testBit_and]; cases a.testBit j <;> cases m.testBit j <;> rfl
theorem wo_bit (a m j : Nat) (on : Bool) : (wo a m on).testBit j = if m.testBit j then on else a.testBit j := by
  unfold wo; cases on
  · simp only [Bool.false_eq_true, if_false, clr_bit]; cases a.testBit j <;> cases m.testBit j <;> rfl
  · simp only [if_true, Nat.testBit_or]; cases a.testBit j <;> cases m.testBit j <;> rfl
theorem clr_or (a m : Nat) : clr a m ||| m = a ||| m := by
  apply Nat.eq_of_testBit_eq; intro j
  rw [Nat.testBit_or, Nat.testBit_or, clr_bit]; cases a.testBit j <;> cases m.testBit j <;> rfl
theorem wo_zero (a : Nat) (on : Bool) : wo a 0 on = a := by
  apply Nat.eq_of_testBit_eq; intro j
  rw [wo_bit, Nat.zero_testBit]; rfl
theorem wo_lt (a m j : Nat) (on : Bool) (ha : a < 2 ^ j) (hm : m < 2 ^ j) : wo a m on < 2 ^ j := by
  unfold wo; cases on
  · exact Nat.xor_lt_two_pow ha (Nat.lt_of_le_of_lt Nat.and_le_left ha)
  · exact Nat.or_lt_two_pow ha hm
theorem and_pow (a j : Nat) : decide ((a &&& 2 ^ j) ≠ 0) = a.testBit j := by
  cases hb : a.testBit j
  · have e : a &&& 2 ^ j = 0 := by
      apply Nat.eq_of_testBit_eq; intro q
      rw [Nat.testBit_and, Nat.testBit_two_pow, Nat.zero_testBit]
      by_cases h : j = q
      · subst h; rw [hb]; rfl
      · simp [h]
    rw [e]; rfl
  · refine decide_eq_true (fun e => ?_)
    have h := congrArg (fun n => Nat.testBit n j) e
    simp [hb] at h
/-- What is flipped once and again is what it was. -/
theorem wo_back (a m : Nat) (j : Nat) (hm : m = 2 ^ j) (on : Bool) : wo (wo a m on) m (a.testBit j) = a := by
  subst hm
  apply Nat.eq_of_testBit_eq; intro q
  rw [wo_bit, wo_bit, Nat.testBit_two_pow]
  by_cases h : j = q
  · subst h; simp
  · simp [h]
theorem wo_same (a j : Nat) : wo a (2 ^ j) (a.testBit j) = a := by
  apply Nat.eq_of_testBit_eq; intro q
  rw [wo_bit, Nat.testBit_two_pow]
  by_cases h : j = q
  · subst h; simp
  · simp [h]
theorem wo_at (a j : Nat) (on : Bool) : (wo a (2 ^ j) on).testBit j = on := by rw [wo_bit, Nat.testBit_two_pow_self]; rfl
theorem wo_up (a j : Nat) (h : a.testBit j = false) : a < wo a (2 ^ j) true := by
  have h1 : a ≤ wo a (2 ^ j) true := by unfold wo; exact Nat.left_le_or
  have h2 : a ≠ wo a (2 ^ j) true := fun e => by
    have := wo_at a j true
    rw [← e, h] at this; cases this
  omega
theorem wo_down (a j : Nat) (h : a.testBit j = true) : wo a (2 ^ j) false < a := by
  have e : wo (wo a (2 ^ j) false) (2 ^ j) true = a := by
    have := wo_back a (2 ^ j) j rfl false
    rwa [h] at this
  have h1 := wo_up (wo a (2 ^ j) false) j (wo_at a j false)
  rw [e] at h1
  exact h1
theorem bits_andNot_u64 (a m : Nat) (ha : a < 18446744073709551616) (hm : m < 18446744073709551616) : bits .andNot .u64 (a : Int) (m : Int) = (clr a m : Int) := by
  unfold bits
  have hc : clr a m < 18446744073709551616 := Nat.xor_lt_two_pow (n := 64) (by simpa using ha) (Nat.lt_of_le_of_lt Nat.and_le_left (by simpa using ha))
  have e : (BitVec.ofInt 64 (a : Int) &&& ~~~BitVec.ofInt 64 (m : Int)).toNat = clr a m := by
    rw [BitVec.ofInt_natCast, BitVec.ofInt_natCast]
    apply Nat.eq_of_testBit_eq; intro j
    rw [clr_bit, BitVec.testBit_toNat, BitVec.getLsbD_and, BitVec.getLsbD_not, BitVec.getLsbD_ofNat, BitVec.getLsbD_ofNat]
    by_cases h : j < 64
    · simp [h]
    · have : a.testBit j = false := Nat.testBit_lt_two_pow (Nat.lt_of_lt_of_le ha (by rw [show (18446744073709551616 : Nat) = 2 ^ 64 from by decide]; exact Nat.pow_le_pow_right (by omega) (by omega)))
      simp [h, this]
  show IntKind.u64.wrap (((BitVec.ofInt 64 (a : Int) &&& ~~~BitVec.ofInt 64 (m : Int)).toNat : Nat) : Int) = _
  rw [e]
  exact u64_wrap_id _ (by omega) (by omega)
end Go.Proofs.Ytgcbngephokegab
/- Headers by their words: With, Compare. -/
namespace Go.Proofs.Ytgcbngephokegab.Hw
open Go.RowKit
set_option linter.unusedVariables false

/-- Block b holds two u64 cells. -/
def Two (w : World) (b : Nat) (x y : Int) : Prop :=
  w.cell? ⟨b, 0, none⟩ = some (.int .u64 x) ∧ w.cell? ⟨b, 1, none⟩ = some (.int .u64 y) ∧ w.frozen? ⟨b, 0, none⟩ = false ∧ w.frozen? ⟨b, 1, none⟩ = false
theorem Two.later {B b : Nat} {w w' : World} {x y : Int} (h : Two w b x y) (hb : Below B w w') (hlt : b < B) : Two w' b x y :=
  ⟨(hb.cell (p := ⟨b, 0, none⟩) hlt).trans h.1, (hb.cell (p := ⟨b, 1, none⟩) hlt).trans h.2.1, (hb.frozen (p := ⟨b, 0, none⟩) hlt).trans h.2.2.1, (hb.frozen (p := ⟨b, 1, none⟩) hlt).trans h.2.2.2⟩
theorem Two.set {b : Nat} {w : World} {x y : Int} (h : Two w b x y) (x' y' : Int) : Two ((w.setCell ⟨b, 0, none⟩ (.int .u64 x')).setCell ⟨b, 1, none⟩ (.int .u64 y')) b x' y' := by
  obtain ⟨h0, h1, f0, f1⟩ := h
  refine ⟨?_, ?_, ?_, ?_⟩
  · rw [World.cell?_setCell_other _ _ _ _ (by simp)]; exact World.cell?_setCell_same _ _ _ h0
  · exact World.cell?_setCell_same _ _ _ (by rw [World.cell?_setCell_other _ _ _ _ (by simp)]; exact h1)
  · simp [f0]
  · simp [f1]
theorem Two.set_other {b b' : Nat} {w : World} {x y : Int} (h : Two w b x y) (hne : b ≠ b') (u v : Value) : Two ((w.setCell ⟨b', 0, none⟩ u).setCell ⟨b', 1, none⟩ v) b x y := by
  obtain ⟨h0, h1, f0, f1⟩ := h
  refine ⟨?_, ?_, ?_, ?_⟩
  · rw [World.cell?_setCell_far _ _ _ _ (by simp; omega), World.cell?_setCell_far _ _ _ _ (by simp; omega)]; exact h0
  · rw [World.cell?_setCell_far _ _ _ _ (by simp; omega), World.cell?_setCell_far _ _ _ _ (by simp; omega)]; exact h1
  · simp [f0]
  · simp [f1]
def cmpI (x y : Int) : Int := if x < y then -1 else if y < x then 1 else 0
set_option maxHeartbeats 400000 in
theorem unpack_core (a b d s p x y : Int) (e1 : IntKind.u32.wrap (a / 4294967296) = d) (e2 : IntKind.u32.wrap a = s) (e3 : IntKind.u8.wrap (b / 4294967296) = p) (e4 : IntKind.u16.wrap (b / 65536) = x) (e5 : IntKind.u16.wrap b = y) (w : World) :
    Calls Try.prog 59 #[wv a b] w fun e w' => e = .returned (hv d s p x y) ∧ (w.alloc (.cells #[.int .u64 a, .int .u64 b] 107)).alloc (.cells #[.int .u32 d, .int .u32 s, .int .u8 p, .int .u16 x, .int .u16 y] 44) = w' := by
  go_enter Try.func59, Try.ntmps59
  go_wp2
  exact bodyPost_ret (v := hv d s p x y) (by simp [results, Try.results59, go_sem]) rfl ⟨rfl, rfl⟩
set_option maxHeartbeats 1000000 in
set_option maxRecDepth 4000 in
theorem with_core (d s p x y i a b m n a1 b1 a2 b2 d' s' p' x' y' : Int) (on : Bool)
    (hp : Hid (∀ w, Calls Try.prog 57 #[hv d s p x y] w fun e w' => e = .returned (wv a b) ∧ (w.alloc (.cells #[.int .u32 d, .int .u32 s, .int .u8 p, .int .u16 x, .int .u16 y] 44)).alloc (.cells #[.int .u64 a, .int .u64 b] 107) = w'))
    (hm : Hid (∀ w, Calls Try.prog 58 #[.int .i64 i] w fun e w' => e = .returned (wv m n) ∧ w.alloc (.cells #[.int .u64 m, .int .u64 n] 107) = w'))
    (hu : Hid (∀ w, Calls Try.prog 59 #[wv a2 b2] w fun e w' => e = .returned (hv d' s' p' x' y') ∧ (w.alloc (.cells #[.int .u64 a2, .int .u64 b2] 107)).alloc (.cells #[.int .u32 d', .int .u32 s', .int .u8 p', .int .u16 x', .int .u16 y'] 44) = w'))
    (q1 : bits .andNot .u64 a m = a1) (q2 : bits .andNot .u64 b n = b1) (q3 : (if on then bits .or .u64 a1 m else a1) = a2) (q4 : (if on then bits .or .u64 b1 n else b1) = b2) (w : World) :
    Calls Try.prog 51 #[hv d s p x y, .int .i64 i, .bool on] w fun e w' => e = .returned (hv d' s' p' x' y') ∧ Below w.heap.size w w' := by
  go_enter Try.func51, Try.ntmps51
  go_wp2_with fail
  refine (hp.out _).mono ?_
  rintro e w' ⟨rfl, rfl⟩
  go_wp2_with fail
  refine (hm.out _).mono ?_
  rintro e w' ⟨rfl, rfl⟩
  clear hp hm
  have x0 : ∀ w : World, (Instr.index 107 (wv m n) (.int .i64 0)).run Try.prog w = .ok (.int .u64 m) w := fun _ => by kernel_rfl
  have x1 : ∀ w : World, (Instr.index 107 (wv m n) (.int .i64 1)).run Try.prog w = .ok (.int .u64 n) w := fun _ => by kernel_rfl
  cases on
  · rw [if_neg (by simp)] at q3 q4
    subst q3 q4
    go_wp2_with fail
    refine wp_loop_rounds 3 ?_
    rw [rounds_succ]
    go_wp2_with fail
    rw [rounds_succ]
    go_wp2_with fail
    rw [rounds_succ]
    go_wp2_with fail
    refine (hu.out _).mono ?_
    rintro e w' ⟨rfl, rfl⟩
    clear hu x0 x1 q1 q2
    go_wp2
    exact bodyPost_ret (v := hv d' s' p' x' y') (by simp [results, Try.results51, go_sem]) rfl ⟨rfl, by repeat (first | exact Below.refl _ _ | refine below_al ?_ _ | (refine Below.setCell ?_ (by simp; omega) _))⟩
  · rw [if_pos rfl] at q3 q4
    go_wp2_with fail
    refine wp_loop_rounds 3 ?_
    rw [rounds_succ]
    go_wp2_with fail
    rw [rounds_succ]
    go_wp2_with fail
    rw [rounds_succ]
    go_wp2_with fail
    refine (hu.out _).mono ?_
    rintro e w' ⟨rfl, rfl⟩
    clear hu x0 x1 q1 q2 q3 q4
    go_wp2
    exact bodyPost_ret (v := hv d' s' p' x' y') (by simp [results, Try.results51, go_sem]) rfl ⟨rfl, by repeat (first | exact Below.refl _ _ | refine below_al ?_ _ | (refine Below.setCell ?_ (by simp; omega) _))⟩

end Go.Proofs.Ytgcbngephokegab.Hw
/- Compare, of any two headers whose words are known. -/
namespace Go.Proofs.Ytgcbngephokegab.Hw
open Go.RowKit
set_option linter.unusedVariables false
end Go.Proofs.Ytgcbngephokegab.Hw
/- The document's 'number': so many bits from a place on. -/
namespace Go.Proofs.Ytgcbngephokegab
open Go.RowKit
set_option linter.unusedVariables false

/-- So many bits from a place on, the highest first. -/
def numB (B : Nat → Bool) (p : Nat) : Nat → Nat
  | 0 => 0
  | k + 1 => numB B p k * 2 + (B (p + k)).toNat
theorem numB_lt (B : Nat → Bool) (p : Nat) : ∀ k, numB B p k < 2 ^ k
  | 0 => by simp [numB]
  | k + 1 => by
    have := numB_lt B p k
    have h : (B (p + k)).toNat ≤ 1 := Bool.toNat_le _
    rw [numB, Nat.pow_succ]; omega
theorem numB_lt32 (B : Nat → Bool) (p k : Nat) (h : k ≤ 31) : numB B p k < 2147483648 := by
  have := numB_lt B p k
  have h2 : 2 ^ k ≤ 2 ^ 31 := Nat.pow_le_pow_right (by decide) h
  rw [show (2 : Nat) ^ 31 = 2147483648 from by decide] at h2
  omega
set_option maxHeartbeats 1000000 in
theorem number_bits (B : Nat → Bool) (g cap p n : Nat) (hp : p + n ≤ 104) (hn : n ≤ 32) (w : World) (hcell : Hid (∀ j, j < 104 → w.cell? ⟨g, j, none⟩ = some (.bool (B j)))) :
    Calls Try.prog 42 #[.slice (some ⟨g, 0, none⟩) 104 cap, .int .i64 p, .int .i64 n] w fun e w' => e = .returned (.int .u32 (numB B p n)) ∧ w' = w := by
  obtain ⟨t, ht⟩ : ∃ t : Nat, numB B p n = t := ⟨_, rfl⟩
  rw [ht]
  have HT := Lib.hid ht
  clear ht
  go_enter Try.func42, Try.ntmps42
  go_wp2
  go_loopw [7, 8] (fun nv iv wr => ∃ i : Nat, iv = .int .i64 i ∧ nv = .int .u32 (numB B p i) ∧ i ≤ n ∧ wr = w) (fun _ iv _ => n - (intOf iv).toNat)
  case atStart => exact ⟨0, rfl, rfl, Nat.zero_le _, rfl⟩
  case round =>
    obtain ⟨i, rfl, rfl, hi, rfl⟩ := hrel
    by_cases hlt : i < n
    · obtain ⟨q, hq⟩ : ∃ q, p + i = q := ⟨_, rfl⟩
      have hqI : (p : Int) + (i : Int) = (q : Int) := by omega
      have hq1 : q < 104 := by omega
      have hcl := hcell.out q hq1
      obtain ⟨v, hv⟩ : ∃ v, numB B p i = v := ⟨_, rfl⟩
      have hv1 : v < 2147483648 := by rw [← hv]; exact numB_lt32 B p i (by omega)
      rw [hv]
      have HS : Hid (numB B p (i + 1) = v * 2 + (B q).toNat) := by show _ = _; rw [numB, hv, hq]
      clear hv
      cases hb : B q
      · rw [hb] at hcl HS
        have HS' : Hid ((v : Int) * 2 = (numB B p (i + 1) : Nat)) := by show _ = _; rw [HS.out]; simp
        clear hb HS
        go_wp2
        refine ⟨⟨i + 1, by first | rfl | (congr 1), by rw [HS'.out], by omega, by trivial⟩, ?_⟩
        simp [intOf]; omega
      · rw [hb] at hcl HS
        have HS' : Hid ((v : Int) * 2 + 1 = (numB B p (i + 1) : Nat)) := by show _ = _; rw [HS.out]; simp
        clear hb HS
        go_wp2
        refine ⟨⟨i + 1, by first | rfl | (congr 1), by rw [HS'.out], by omega, by trivial⟩, ?_⟩
        simp [intOf]; omega
    · obtain rfl : i = n := by omega
      have HTo := HT.out
      subst HTo
      go_wp2
      go_ret
      exact ⟨rfl, rfl⟩
end Go.Proofs.Ytgcbngephokegab
/- Headers by their two words and their bits. No program in sight. -/
namespace Go.Proofs.Ytgcbngephokegab
open Go.RowKit
set_option linter.unusedVariables false

/-- Two words that are a header's. -/
structure WB (a b : Nat) : Prop where
  a : a < 18446744073709551616
  b : b < 1099511627776
def fd (a : Nat) : Nat := a / 4294967296
def fs (a : Nat) : Nat := a % 4294967296
def fx (b : Nat) : Nat := b / 65536 % 65536
def fy (b : Nat) : Nat := b % 65536
/-- The header of two words. -/
abbrev hw (a b : Nat) : Value := hv (fd a) (fs a) (fd b) (fx b) (fy b)
theorem WB.hb {a b : Nat} (h : WB a b) : HB (fd a) (fs a) (fd b) (fx b) (fy b) := by
  obtain ⟨h1, h2⟩ := h
  exact ⟨by unfold fd; omega, by unfold fs; omega, by unfold fd; omega, by unfold fx; omega, by unfold fy; omega⟩
theorem pa_w (a : Nat) : pa (fd a) (fs a) = a := by unfold pa fd fs; omega
theorem pb_w (b : Nat) : pb (fd b) (fx b) (fy b) = b := by unfold pb fd fx fy; omega
theorem mb_lt40 (i : Int) : mb i < 1099511627776 := by
  unfold mb; split
  · have := Nat.pow_lt_pow_right (a := 2) (by omega) (show 103 - i.toNat < 40 by omega)
    rwa [show (2 : Nat) ^ 40 = 1099511627776 from by decide] at this
  · omega
theorem WB.wo {a b : Nat} (h : WB a b) (i : Int) (on : Bool) : WB (wo a (ma i) on) (wo b (mb i) on) :=
  ⟨wo_lt a _ 64 on (by simpa using h.a) (by simpa using ma_lt i), wo_lt b _ 40 on (by simpa using h.b) (by simpa using mb_lt40 i)⟩
/-- The bit of two words. -/
def tb (a b : Nat) (i : Int) : Bool := decide ((a &&& ma i) ≠ 0) || decide ((b &&& mb i) ≠ 0)
theorem ma_in (k : Nat) (h : k < 64) : ma k = 2 ^ (63 - k) := by unfold ma; rw [if_pos (by omega)]; rfl
theorem mb_in (k : Nat) (h : 64 ≤ k) (h' : k < 104) : mb k = 2 ^ (103 - k) := by unfold mb; rw [if_pos (by omega)]; rfl
theorem ma_out (k : Nat) (h : 64 ≤ k) : ma k = 0 := by unfold ma; rw [if_neg (by omega)]
theorem mb_out (k : Nat) (h : k < 64) : mb k = 0 := by unfold mb; rw [if_neg (by omega)]
theorem tb_lo (a b k : Nat) (h : k < 64) : tb a b k = a.testBit (63 - k) := by
  unfold tb; rw [ma_in k h, mb_out k h, and_pow, Nat.and_zero]; simp
theorem tb_hi (a b k : Nat) (h : 64 ≤ k) (h' : k < 104) : tb a b k = b.testBit (103 - k) := by
  unfold tb; rw [ma_out k h, mb_in k h h', and_pow, Nat.and_zero]; simp
theorem tb_flip (a b k : Nat) (h : k < 104) (on : Bool) : tb (wo a (ma k) on) (wo b (mb k) on) k = on := by
  by_cases c : k < 64
  · rw [tb_lo _ _ k c, ma_in k c, wo_at]
  · rw [tb_hi _ _ k (by omega) h, mb_in k (by omega) h, wo_at]
/-- The bits of a number, the highest first, as cells. -/
def bitVals (n : Nat) : Nat → List Value
  | 0 => []
  | k + 1 => .bool (n.testBit k) :: bitVals n k
theorem bitVals_length (n : Nat) : ∀ k, (bitVals n k).length = k
  | 0 => rfl
  | k + 1 => by simp [bitVals, bitVals_length n k]
theorem bitVals_get (n : Nat) : ∀ (k j : Nat), j < k → (bitVals n k)[j]? = some (.bool (n.testBit (k - 1 - j)))
  | 0, _, h => by omega
  | k + 1, 0, _ => by simp [bitVals]
  | k + 1, j + 1, h => by
    rw [bitVals, List.getElem?_cons_succ, bitVals_get n k j (by omega), show k + 1 - 1 - (j + 1) = k - 1 - j by omega]
theorem bit_div (n i : Nat) : n.testBit i = decide (n / 2 ^ i % 2 = 1) := Nat.testBit_eq_decide_div_mod_eq
/-- All cells of a header's bits. -/
def bitsW (a b : Nat) : List Value := bitVals (fd a) 32 ++ bitVals (fs a) 32 ++ bitVals (fd b) 8 ++ bitVals (fx b) 16 ++ bitVals (fy b) 16
theorem bitsW_length (a b : Nat) : (bitsW a b).length = 104 := by simp [bitsW, bitVals_length]
theorem bitsW_get (a b j : Nat) (hb : b < 1099511627776) (hj : j < 104) : (bitsW a b)[j]? = some (.bool (tb a b j)) := by
  unfold bitsW
  have p32 : (4294967296 : Nat) = 2 ^ 32 := by decide
  have p16 : (65536 : Nat) = 2 ^ 16 := by decide
  by_cases h1 : j < 32
  · rw [List.getElem?_append_left (by simp [bitVals_length]; omega), List.getElem?_append_left (by simp [bitVals_length]; omega), List.getElem?_append_left (by simp [bitVals_length]; omega), List.getElem?_append_left (by simp [bitVals_length]; omega)]
    rw [bitVals_get _ _ _ h1, tb_lo a b j (by omega)]
    unfold fd
    rw [p32, Nat.testBit_div_two_pow, show 32 - 1 - j + 32 = 63 - j by omega]
  · by_cases h2 : j < 64
    · rw [List.getElem?_append_left (by simp [bitVals_length]; omega), List.getElem?_append_left (by simp [bitVals_length]; omega), List.getElem?_append_left (by simp [bitVals_length]; omega), List.getElem?_append_right (by simp [bitVals_length]; omega)]
      rw [bitVals_length, bitVals_get _ _ _ (by omega), tb_lo a b j (by omega)]
      unfold fs
      rw [p32, Nat.testBit_mod_two_pow, show 32 - 1 - (j - 32) = 63 - j by omega, decide_eq_true (by omega), Bool.true_and]
    · by_cases h3 : j < 72
      · rw [List.getElem?_append_left (by simp [bitVals_length]; omega), List.getElem?_append_left (by simp [bitVals_length]; omega), List.getElem?_append_right (by simp [bitVals_length]; omega)]
        rw [List.length_append, bitVals_length, bitVals_length, bitVals_get _ _ _ (by omega), tb_hi a b j (by omega) (by omega)]
        unfold fd
        rw [p32, Nat.testBit_div_two_pow, show 8 - 1 - (j - (32 + 32)) + 32 = 103 - j by omega]
      · by_cases h4 : j < 88
        · rw [List.getElem?_append_left (by simp [bitVals_length]; omega), List.getElem?_append_right (by simp [bitVals_length]; omega)]
          rw [List.length_append, List.length_append, bitVals_length, bitVals_length, bitVals_length, bitVals_get _ _ _ (by omega), tb_hi a b j (by omega) (by omega)]
          unfold fx
          rw [p16, Nat.testBit_mod_two_pow, Nat.testBit_div_two_pow, show 16 - 1 - (j - (32 + 32 + 8)) + 16 = 103 - j by omega, decide_eq_true (by omega), Bool.true_and]
        · rw [List.getElem?_append_right (by simp [bitVals_length]; omega)]
          rw [List.length_append, List.length_append, List.length_append, bitVals_length, bitVals_length, bitVals_length, bitVals_length, bitVals_get _ _ _ (by omega), tb_hi a b j (by omega) (by omega)]
          unfold fy
          rw [p16, Nat.testBit_mod_two_pow, show 16 - 1 - (j - (32 + 32 + 8 + 16)) = 103 - j by omega, decide_eq_true (by omega), Bool.true_and]
theorem half (a n : Nat) : a / 2 ^ n = 2 * (a / 2 ^ (n + 1)) + (a.testBit n).toNat := by
  rw [Nat.pow_succ, ← Nat.div_div_eq_div_mul, bit_div]
  generalize a / 2 ^ n = x
  by_cases h : x % 2 = 1
  · rw [decide_eq_true h]; simp; omega
  · rw [decide_eq_false h]; simp; omega
/-- So many bits of a word, from a place on, are the word's part. -/
theorem numB_word (B : Nat → Bool) (a N p : Nat) : ∀ k, p + k ≤ N → (∀ j, j < k → B (p + j) = a.testBit (N - 1 - (p + j))) → numB B p k = a / 2 ^ (N - p - k) % 2 ^ k
  | 0, _, _ => by simp [numB, Nat.mod_one]
  | k + 1, h, hB => by
    rw [numB, numB_word B a N p k (by omega) (fun j hj => hB j (by omega)), hB k (by omega)]
    have e := half a (N - p - (k + 1))
    rw [show N - p - (k + 1) + 1 = N - p - k by omega] at e
    rw [e, show N - 1 - (p + k) = N - p - (k + 1) by omega, Nat.pow_succ, Nat.mul_comm (2 ^ k) 2]
    generalize a / 2 ^ (N - p - k) = x
    have hd : (a.testBit (N - p - (k + 1))).toNat ≤ 1 := Bool.toNat_le _
    generalize (a.testBit (N - p - (k + 1))).toNat = y at *
    have h2 : (2 * x + y) % (2 * 2 ^ k) = (2 * x + y) % 2 + 2 * ((2 * x + y) / 2 % 2 ^ k) := Nat.mod_mul
    rw [h2, show (2 * x + y) / 2 = x by omega]
    omega
/-- The five numbers of bits that are a header's. -/
theorem back_nums (B : Nat → Bool) (a b : Nat) (h : WB a b) (hB : ∀ j, j < 104 → B j = tb a b j) :
    numB B 0 32 = fd a ∧ numB B 32 32 = fs a ∧ numB B 64 8 = fd b ∧ numB B 72 16 = fx b ∧ numB B 88 16 = fy b := by
  obtain ⟨h1, h2⟩ := h
  have q32 : (2 : Nat) ^ 32 = 4294967296 := by decide
  have q16 : (2 : Nat) ^ 16 = 65536 := by decide
  have q8 : (2 : Nat) ^ 8 = 256 := by decide
  refine ⟨?_, ?_, ?_, ?_, ?_⟩
  · rw [numB_word B a 64 0 32 (by omega) (fun j hj => by rw [hB _ (by omega), tb_lo a b _ (by omega)])]
    unfold fd; rw [show 64 - 0 - 32 = 32 by omega, q32]; omega
  · rw [numB_word B a 64 32 32 (by omega) (fun j hj => by rw [hB _ (by omega), tb_lo a b _ (by omega)])]
    unfold fs; rw [show 64 - 32 - 32 = 0 by omega, q32, Nat.pow_zero, Nat.div_one]
  · rw [numB_word B b 104 64 8 (by omega) (fun j hj => by rw [hB _ (by omega), tb_hi a b _ (by omega) (by omega)])]
    unfold fd; rw [show 104 - 64 - 8 = 32 by omega, q32, q8]; omega
  · rw [numB_word B b 104 72 16 (by omega) (fun j hj => by rw [hB _ (by omega), tb_hi a b _ (by omega) (by omega)])]
    unfold fx; rw [show 104 - 72 - 16 = 16 by omega, q16]
  · rw [numB_word B b 104 88 16 (by omega) (fun j hj => by rw [hB _ (by omega), tb_hi a b _ (by omega) (by omega)])]
    unfold fy; rw [show 104 - 88 - 16 = 0 by omega, q16, Nat.pow_zero, Nat.div_one]
/-- With bit i set, or not: the other bits are as they were. -/
theorem tb_wo (a b i j : Nat) (on : Bool) (hi : i < 104) (hj : j < 104) : tb (wo a (ma i) on) (wo b (mb i) on) j = if j = i then on else tb a b j := by
  by_cases e : j = i
  · subst e; rw [if_pos rfl, tb_flip a b j hj]
  · rw [if_neg e]
    by_cases c : j < 64
    · rw [tb_lo _ _ j c, tb_lo _ _ j c, wo_bit]
      by_cases d : i < 64
      · rw [ma_in i d, Nat.testBit_two_pow, decide_eq_false (by omega)]; rfl
      · rw [ma_out i (by omega), Nat.zero_testBit]; rfl
    · rw [tb_hi _ _ j (by omega) hj, tb_hi _ _ j (by omega) hj, wo_bit]
      by_cases d : i < 64
      · rw [mb_out i d, Nat.zero_testBit]; rfl
      · rw [mb_in i (by omega) hi, Nat.testBit_two_pow, decide_eq_false (by omega)]; rfl
end Go.Proofs.Ytgcbngephokegab
/- Headers by their two words: With, Compare (hdr/H7, HB without what bdd/HB has; typed by gen/mksw.py). -/
namespace Go.Proofs.Ytgcbngephokegab.Hw
open Go.RowKit
set_option linter.unusedVariables false

theorem wo_u64 {a m : Nat} {on : Bool} (ha : a < 18446744073709551616) (hm : m < 18446744073709551616) : (if on then bits .or .u64 (clr a m : Int) (m : Int) else (clr a m : Int)) = ((wo a m on : Nat) : Int) := by
  have hc : clr a m < 18446744073709551616 := wo_lt a m 64 false (by simpa using ha) (by simpa using hm)
  cases on
  · simp [wo]
  · rw [if_pos rfl, bits_or_u64_nat _ _ hc hm, clr_or]; rfl
theorem unpack_w (a b : Nat) (h : WB a b) (w : World) :
    Calls Try.prog 59 #[wv a b] w fun e w' => e = .returned (hw a b) ∧ (w.alloc (.cells #[.int .u64 a, .int .u64 b] 107)).alloc (.cells #[.int .u32 (fd a), .int .u32 (fs a), .int .u8 (fd b), .int .u16 (fx b), .int .u16 (fy b)] 44) = w' := unpack_core a b (fd a) (fs a) (fd b) (fx b) (fy b)
  (by obtain ⟨h1, h2⟩ := h; rw [IntKind.wrap_u32]; unfold fd; omega) (by rw [IntKind.wrap_u32]; unfold fs; omega) (by obtain ⟨h1, h2⟩ := h; rw [IntKind.wrap_u8]; unfold fd; omega) (by rw [IntKind.wrap_u16]; unfold fx; omega) (by rw [IntKind.wrap_u16]; unfold fy; omega) w
theorem pack_w (a b : Nat) (h : WB a b) (w : World) :
    Calls Try.prog 57 #[hw a b] w fun e w' => e = .returned (wv a b) ∧ (w.alloc (.cells #[.int .u32 (fd a), .int .u32 (fs a), .int .u8 (fd b), .int .u16 (fx b), .int .u16 (fy b)] 44)).alloc (.cells #[.int .u64 a, .int .u64 b] 107) = w' := by
  have q := pack_exact _ _ _ _ _ h.hb w
  rw [pa_w, pb_w] at q
  exact q
theorem with_w (a b : Nat) (i : Int) (on : Bool) (h : WB a b) (w : World) :
    Calls Try.prog 51 #[hw a b, .int .i64 i, .bool on] w fun e w' => e = .returned (hw (wo a (ma i) on) (wo b (mb i) on)) ∧ Below w.heap.size w w' :=
  with_core _ _ _ _ _ i a b (ma i) (mb i) (clr a (ma i)) (clr b (mb i)) _ _ _ _ _ _ _ on (fun w => pack_w a b h w) (fun w => mask_exact i w) (fun w => unpack_w _ _ (h.wo i on) w)
    (bits_andNot_u64 _ _ h.a (ma_lt i)) (bits_andNot_u64 _ _ (Nat.lt_trans h.b (by omega)) (mb_lt i)) (wo_u64 h.a (ma_lt i)) (wo_u64 (Nat.lt_trans h.b (by omega)) (mb_lt i)) w
/-- Which of two headers is less. -/
def cmpW (a b a' b' : Nat) : Int := if (a : Int) = (a' : Int) then cmpI b b' else cmpI a a'
/-! Plain. -/
theorem cmpW_swap (a b a' b' : Nat) : cmpW a' b' a b = - cmpW a b a' b' := by
  unfold cmpW cmpI; repeat' split <;> omega
theorem cmpW_zero (a b a' b' : Nat) : cmpW a b a' b' = 0 ↔ a = a' ∧ b = b' := by
  unfold cmpW cmpI; repeat' split <;> omega
theorem cmpW_trans (a b c d e f : Nat) : 0 < cmpW a b c d ∨ 0 < cmpW c d e f ∨ cmpW a b e f ≤ 0 := by
  unfold cmpW cmpI; repeat' split <;> omega
theorem cmpW_bd (a b a' b' : Nat) : -1 ≤ cmpW a b a' b' ∧ cmpW a b a' b' ≤ 1 := by
  unfold cmpW cmpI; repeat' split <;> omega
theorem wo_flip (a b k : Nat) (h : k < 104) (on : Bool) : wo (wo a (ma k) on) (ma k) (tb a b k) = a ∧ wo (wo b (mb k) on) (mb k) (tb a b k) = b := by
  by_cases c : k < 64
  · rw [tb_lo _ _ k c, mb_out k c, ma_in k c]; exact ⟨wo_back a _ _ rfl on, by rw [wo_zero, wo_zero]⟩
  · rw [tb_hi _ _ k (by omega) h, ma_out k (by omega), mb_in k (by omega) h]; exact ⟨by rw [wo_zero, wo_zero], wo_back b _ _ rfl on⟩
theorem cmp_flip (a b k : Nat) (h : k < 104) : cmpW (wo a (ma k) (!tb a b k)) (wo b (mb k) (!tb a b k)) a b = if tb a b k then -1 else 1 := by
  by_cases c : k < 64
  · rw [tb_lo _ _ k c, mb_out k c, ma_in k c, wo_zero]
    cases hb : a.testBit (63 - k)
    · have := wo_up a _ hb
      simp only [Bool.not_false, Bool.false_eq_true, if_false]
      unfold cmpW cmpI; rw [if_neg (by omega), if_neg (by omega), if_pos (by omega)]
    · have := wo_down a _ hb
      simp only [Bool.not_true, if_true]
      unfold cmpW cmpI; rw [if_neg (by omega), if_pos (by omega)]
  · rw [tb_hi _ _ k (by omega) h, ma_out k (by omega), mb_in k (by omega) h, wo_zero]
    cases hb : b.testBit (103 - k)
    · have := wo_up b _ hb
      simp only [Bool.not_false, Bool.false_eq_true, if_false]
      unfold cmpW cmpI; rw [if_pos rfl, if_neg (by omega), if_pos (by omega)]
    · have := wo_down b _ hb
      simp only [Bool.not_true, if_true]
      unfold cmpW cmpI; rw [if_pos rfl, if_pos (by omega)]
/-- Which is less, by the first bit of k that is unlike. -/
def firstc (a b a' b' : Nat) : Nat → Int
  | 0 => 0
  | k + 1 => if firstc a b a' b' k = 0 then (if tb a b k = tb a' b' k then 0 else if tb a' b' k then -1 else 1) else firstc a b a' b' k
theorem cmp_step (u v : Nat) (x y : Bool) : cmpI ((2 * u + x.toNat : Nat) : Int) ((2 * v + y.toNat : Nat) : Int) = if cmpI (u : Int) (v : Int) = 0 then (if x = y then 0 else if y then -1 else 1) else cmpI (u : Int) (v : Int) := by
  have hx := Bool.toNat_le x
  have hy := Bool.toNat_le y
  rcases Nat.lt_trichotomy u v with h | h | h
  · have e1 : cmpI (u : Int) (v : Int) = -1 := by unfold cmpI; rw [if_pos (by omega)]
    rw [e1, if_neg (by omega)]
    unfold cmpI; rw [if_pos (by omega)]
  · subst h
    have e1 : cmpI (u : Int) (u : Int) = 0 := by unfold cmpI; rw [if_neg (by omega), if_neg (by omega)]
    rw [e1, if_pos rfl]
    unfold cmpI
    cases x <;> cases y <;> simp <;> omega
  · have e1 : cmpI (u : Int) (v : Int) = 1 := by unfold cmpI; rw [if_neg (by omega), if_pos (by omega)]
    rw [e1, if_neg (by omega)]
    unfold cmpI; rw [if_neg (by omega), if_pos (by omega)]
theorem firstc_lo (a b a' b' : Nat) (ha : a < 18446744073709551616) (ha' : a' < 18446744073709551616) : ∀ k, k ≤ 64 → firstc a b a' b' k = cmpI ((a / 2 ^ (64 - k) : Nat) : Int) ((a' / 2 ^ (64 - k) : Nat) : Int)
  | 0, _ => by
    have e : ∀ x, x < 18446744073709551616 → x / 2 ^ (64 - 0) = 0 := fun x hx => Nat.div_eq_of_lt (by simpa using hx)
    rw [e a ha, e a' ha']; rfl
  | k + 1, h => by
    rw [firstc, firstc_lo a b a' b' ha ha' k (by omega), tb_lo a b k (by omega), tb_lo a' b' k (by omega)]
    rw [half a (64 - (k + 1)), half a' (64 - (k + 1)), show 64 - (k + 1) + 1 = 64 - k by omega, show 64 - (k + 1) = 63 - k by omega, cmp_step]
theorem firstc_hi (a b a' b' : Nat) (ha : a < 18446744073709551616) (ha' : a' < 18446744073709551616) (hb : b < 1099511627776) (hb' : b' < 1099511627776) : ∀ k, k ≤ 40 → firstc a b a' b' (64 + k) = if a = a' then cmpI ((b / 2 ^ (40 - k) : Nat) : Int) ((b' / 2 ^ (40 - k) : Nat) : Int) else cmpI a a'
  | 0, _ => by
    rw [Nat.add_zero, firstc_lo a b a' b' ha ha' 64 (Nat.le_refl _)]
    have e : ∀ x, x < 1099511627776 → x / 2 ^ (40 - 0) = 0 := fun x hx => Nat.div_eq_of_lt (by simpa using hx)
    rw [e b hb, e b' hb', Nat.sub_self, Nat.pow_zero, Nat.div_one, Nat.div_one]
    by_cases c : a = a'
    · subst c; rw [if_pos rfl]; unfold cmpI; rw [if_neg (by omega), if_neg (by omega)]; rfl
    · rw [if_neg c]
  | k + 1, h => by
    rw [show 64 + (k + 1) = (64 + k) + 1 by omega, firstc, firstc_hi a b a' b' ha ha' hb hb' k (by omega)]
    by_cases c : a = a'
    · rw [if_pos c, if_pos c, tb_hi a b (64 + k) (by omega) (by omega), tb_hi a' b' (64 + k) (by omega) (by omega)]
      rw [half b (40 - (k + 1)), half b' (40 - (k + 1)), show 40 - (k + 1) + 1 = 40 - k by omega, show 40 - (k + 1) = 103 - (64 + k) by omega, cmp_step]
    · rw [if_neg c, if_neg c]
      have : ¬ cmpI (a : Int) (a' : Int) = 0 := by unfold cmpI; (repeat' split) <;> omega
      rw [if_neg this]
theorem firstc_all (a b a' b' : Nat) (h : WB a b) (h' : WB a' b') : firstc a b a' b' 104 = cmpW a b a' b' := by
  rw [show 104 = 64 + 40 from rfl, firstc_hi a b a' b' h.a h'.a h.b h'.b 40 (Nat.le_refl _)]
  unfold cmpW
  rw [Nat.sub_self, Nat.pow_zero, Nat.div_one, Nat.div_one]
  by_cases c : a = a'
  · rw [if_pos c, if_pos (by omega)]
  · rw [if_neg c, if_neg (by omega)]
theorem firstc_bd (a b a' b' : Nat) : ∀ k, -1 ≤ firstc a b a' b' k ∧ firstc a b a' b' k ≤ 1
  | 0 => by simp [firstc]
  | k + 1 => by
    have := firstc_bd a b a' b' k
    rw [firstc]; (repeat' split) <;> omega
end Go.Proofs.Ytgcbngephokegab.Hw
/- The document's Back: the header of bits. -/
namespace Go.Proofs.Ytgcbngephokegab
open Go.RowKit
set_option linter.unusedVariables false

set_option maxHeartbeats 1000000 in
theorem back_core (l : Value) (n1 n2 n3 n4 n5 : Int) (h3 : 0 ≤ n3) (h3' : n3 < 256) (h4 : 0 ≤ n4) (h4' : n4 < 65536) (h5 : 0 ≤ n5) (h5' : n5 < 65536) (w : World)
    (c1 : ∀ v, Below w.heap.size w v → Calls Try.prog 42 #[l, .int .i64 0, .int .i64 32] v fun e w' => e = .returned (.int .u32 n1) ∧ w' = v)
    (c2 : ∀ v, Below w.heap.size w v → Calls Try.prog 42 #[l, .int .i64 32, .int .i64 32] v fun e w' => e = .returned (.int .u32 n2) ∧ w' = v)
    (c3 : ∀ v, Below w.heap.size w v → Calls Try.prog 42 #[l, .int .i64 64, .int .i64 8] v fun e w' => e = .returned (.int .u32 n3) ∧ w' = v)
    (c4 : ∀ v, Below w.heap.size w v → Calls Try.prog 42 #[l, .int .i64 72, .int .i64 16] v fun e w' => e = .returned (.int .u32 n4) ∧ w' = v)
    (c5 : ∀ v, Below w.heap.size w v → Calls Try.prog 42 #[l, .int .i64 88, .int .i64 16] v fun e w' => e = .returned (.int .u32 n5) ∧ w' = v) :
    Calls Try.prog 21 #[l] w fun e w' => e = .returned (hv n1 n2 n3 n4 n5) ∧ Below w.heap.size w w' := by
  have C1 := Lib.hid c1
  have C2 := Lib.hid c2
  have C3 := Lib.hid c3
  have C4 := Lib.hid c4
  have C5 := Lib.hid c5
  clear c1 c2 c3 c4 c5
  go_enter Try.func21, Try.ntmps21
  go_wp2_with fail
  refine (C1.out _ (below_al (Below.refl _ _) _)).mono ?_
  rintro e w' ⟨rfl, rfl⟩
  go_wp2_with fail
  refine (C2.out _ (below_al (Below.refl _ _) _)).mono ?_
  rintro e w' ⟨rfl, rfl⟩
  go_wp2_with fail
  refine (C3.out _ (below_al (Below.refl _ _) _)).mono ?_
  rintro e w' ⟨rfl, rfl⟩
  go_wp2_with fail
  refine (C4.out _ (below_al (Below.refl _ _) _)).mono ?_
  rintro e w' ⟨rfl, rfl⟩
  go_wp2_with fail
  refine (C5.out _ (below_al (Below.refl _ _) _)).mono ?_
  rintro e w' ⟨rfl, rfl⟩
  go_wp2
  exact bodyPost_ret (v := hv n1 n2 n3 n4 n5) (by simp [results, Try.results21, go_sem]) rfl ⟨rfl, below_al (Below.refl _ _) _⟩
end Go.Proofs.Ytgcbngephokegab
