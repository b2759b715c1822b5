/- Texts joined, in their order: S9, SA. -/
import Derived.Test.YtgcbngephokegabGS8
import Derived.Test.YtgcbngephokegabG65ce601bf9
/- The least and the greatest header of a set: the calls' contracts. -/
namespace Go.Proofs.Ytgcbngephokegab
open Go.RowKit
set_option linter.unusedVariables false
set_option linter.unusedSimpArgs false

/-- The words of so many rounds. -/
def uW (ns : List Nd) (on : Bool) (f : Nat) : Nat → Nat × Nat
  | 0 => (0, 0)
  | i + 1 => (wo (uW ns on f i).1 (ma i) (utB ns on (ut ns on f i).1 i), wo (uW ns on f i).2 (mb i) (utB ns on (ut ns on f i).1 i))
theorem wb_zero : WB 0 0 := ⟨by decide, by decide⟩
theorem tE_zero : tE 0 0 = fun _ => false := by
  funext i
  unfold tE tb
  simp
theorem uW_ok (ns : List Nd) (on : Bool) (f : Nat) : ∀ i, i ≤ 104 → WB (uW ns on f i).1 (uW ns on f i).2 ∧ tE (uW ns on f i).1 (uW ns on f i).2 = (ut ns on f i).2
  | 0, _ => ⟨wb_zero, tE_zero⟩
  | i + 1, hi => by
    obtain ⟨h1, h2⟩ := uW_ok ns on f i (by omega)
    refine ⟨h1.wo (i : Int) _, ?_⟩
    show tE (wo (uW ns on f i).1 (ma i) _) (wo (uW ns on f i).2 (mb i) _) = hld (ut ns on f i).2 i _
    rw [tE_wo _ _ _ _ (by omega), h2]
theorem sUtm {Z : Nat → Prop} {p most : Nat} {W : World} {ns : List Nd} (h : Sta Z p W most ns) (on : Bool) (f : Nat) (hf : f < ns.length) (h0 : f ≠ 0) :
    Calls Try.prog 28 #[.pointer (some ⟨p, 0, none⟩), .int .i64 (f : Nat), .bool on] W fun e w' => e = .returned (.tuple #[hw (uW ns on f 104).1 (uW ns on f 104).2, .bool true]) ∧ Below W.heap.size W w' := by
  have hw := h.wf
  refine utm_core _ on (fun k => (ut ns on f k).1) (fun k => (uW ns on f k).1) (fun k => (uW ns on f k).2) (fun k => (ptF ns (ut ns on f k).1 k).1) (fun k => (ptF ns (ut ns on f k).1 k).2) W (Lib.hid (fun w hb => ?_)) (Lib.hid (fun k w hk hb => ?_)) (Lib.hid (fun k w b hk hb => ?_)) (Lib.hid h0) (Lib.hid rfl) (Lib.hid rfl)
  · have := sHas (h.on hb) f
    rw [show hasB ns.length (f : Nat) = true by unfold hasB; simp; omega] at this
    exact this
  · exact sparts (h.on hb) _ k (ut_ok hw on hf h0 k (by omega)).lt
  · have e : b = utB ns on (ut ns on f k).1 k := by
      rw [hb]; unfold utB sd; cases on <;> rfl
    subst e
    refine ⟨rfl, ?_⟩
    exact Hw.with_w _ _ (k : Int) _ (uW_ok ns on f k (by omega)).1 w
set_option maxRecDepth 100000 in
set_option maxHeartbeats 2000000 in
theorem utm_none (p : Value) (on x : Bool) (f : Int) (hx : Hid (x = true → f = 0)) (W : World)
    (CH : Hid (∀ w, Below W.heap.size W w → Calls Try.prog 24 #[p, .int .i64 f] w fun e w' => e = .returned (.bool x) ∧ w = w')) :
    Calls Try.prog 28 #[p, .int .i64 f, .bool on] W fun e w' => e = .returned (.tuple #[hw 0 0, .bool false]) ∧ Below W.heap.size W w' := by
  go_enter Try.func28, Try.ntmps28
  go_upto_region 1 with fail
  refine at_code (S := fun w1 => Blk w1 W.heap.size [.int .u32 0, .int .u32 0, .int .u8 0, .int .u16 0, .int .u16 0] ∧ Below W.heap.size W w1) ⟨Blk.new _ _ _, bel_al (Below.refl _ _) _⟩ (fun W1 hW => ?_)
  obtain ⟨hX, hb⟩ := hW
  have X1 := Lib.hid hX
  have B1 := Lib.hid hb
  clear hX hb
  go_wp2_with fail
  refine (CH.out W1 B1.out).mono ?_
  rintro e w' ⟨rfl, rfl⟩
  clear CH
  obtain ⟨x_0, x_1, x_2, x_3, x_4⟩ : _ ∧ _ ∧ _ ∧ _ ∧ _ := ⟨X1.out.1 0 _ rfl, X1.out.1 1 _ rfl, X1.out.1 2 _ rfl, X1.out.1 3 _ rfl, X1.out.1 4 _ rfl⟩
  obtain ⟨z_0, z_1, z_2, z_3, z_4⟩ : _ ∧ _ ∧ _ ∧ _ ∧ _ := ⟨X1.out.2 0 _ rfl, X1.out.2 1 _ rfl, X1.out.2 2 _ rfl, X1.out.2 3 _ rfl, X1.out.2 4 _ rfl⟩
  have FIN := Lib.hid (bel5 B1.out (Nat.le_refl _) (.int .u32 0) (.int .u32 0) (.int .u8 0) (.int .u16 0) (.int .u16 0))
  cases x with
  | false =>
    clear hx
    go_wp2
    exact bodyPost_ret (v := .tuple #[hw 0 0, .bool false]) (by simp [results, Try.results28, go_sem, x_0, x_1, x_2, x_3, x_4]; decide) rfl ⟨rfl, FIN.out⟩
  | true =>
    obtain rfl := hx.out rfl
    clear hx
    go_wp2
    exact bodyPost_ret (v := .tuple #[hw 0 0, .bool false]) (by simp [results, Try.results28, go_sem, x_0, x_1, x_2, x_3, x_4]; decide) rfl ⟨rfl, FIN.out⟩
/-- A number that is no set's, or False's. -/
theorem sUtm_none {Z : Nat → Prop} {p most : Nat} {W : World} {ns : List Nd} (h : Sta Z p W most ns) (on : Bool) (f : Int) (hf : hasB ns.length f = true → f = 0) :
    Calls Try.prog 28 #[.pointer (some ⟨p, 0, none⟩), .int .i64 f, .bool on] W fun e w' => e = .returned (.tuple #[hw 0 0, .bool false]) ∧ Below W.heap.size W w' :=
  utm_none _ on _ f (Lib.hid hf) W (Lib.hid (fun w hb => sHas (h.on hb) f))
set_option maxRecDepth 100000 in
set_option maxHeartbeats 2000000 in
theorem least_core (p : Value) (f : Int) (a b : Nat) (x : Bool) (W : World)
    (C : Hid (∀ w, Below W.heap.size W w → Calls Try.prog 28 #[p, .int .i64 f, .bool false] w fun e w' => e = .returned (.tuple #[hw a b, .bool x]) ∧ Below w.heap.size w w')) :
    Calls Try.prog 10 #[p, .int .i64 f] W fun e w' => e = .returned (.tuple #[hw a b, .bool x]) ∧ Below W.heap.size W w' := by
  unfold hw hv at *
  generalize fd a = c1 at *
  generalize fs a = c2 at *
  generalize fd b = c3 at *
  generalize fx b = c4 at *
  generalize fy b = c5 at *
  go_enter Try.func10, Try.ntmps10
  go_upto_region 1 with fail
  refine at_code (S := fun w1 => Blk w1 W.heap.size [.int .u32 0, .int .u32 0, .int .u8 0, .int .u16 0, .int .u16 0] ∧ Below W.heap.size W w1) ⟨Blk.new _ _ _, bel_al (Below.refl _ _) _⟩ (fun W1 hW => ?_)
  obtain ⟨hX, hb⟩ := hW
  have X1 := Lib.hid hX
  have B1 := Lib.hid hb
  clear hX hb
  go_wp2_with fail
  refine (C.out W1 B1.out).mono ?_
  rintro e w2 ⟨rfl, hb⟩
  have X2 := Lib.hid (X1.out.on hb)
  have B2 := Lib.hid (bel_on' B1.out hb)
  clear hb C X1 B1
  obtain ⟨x_0, x_1, x_2, x_3, x_4⟩ : _ ∧ _ ∧ _ ∧ _ ∧ _ := ⟨X2.out.1 0 _ rfl, X2.out.1 1 _ rfl, X2.out.1 2 _ rfl, X2.out.1 3 _ rfl, X2.out.1 4 _ rfl⟩
  obtain ⟨z_0, z_1, z_2, z_3, z_4⟩ : _ ∧ _ ∧ _ ∧ _ ∧ _ := ⟨X2.out.2 0 _ rfl, X2.out.2 1 _ rfl, X2.out.2 2 _ rfl, X2.out.2 3 _ rfl, X2.out.2 4 _ rfl⟩
  go_wp2
  exact bodyPost_ret (v := .tuple #[.agg #[.int .u32 (c1 : Nat), .int .u32 (c2 : Nat), .int .u8 (c3 : Nat), .int .u16 (c4 : Nat), .int .u16 (c5 : Nat)], .bool x]) (by simp [results, Try.results10, go_sem, x_0, x_1, x_2, x_3, x_4]) rfl ⟨rfl, bel5 B2.out (Nat.le_refl _) (.int .u32 (c1 : Nat)) (.int .u32 (c2 : Nat)) (.int .u8 (c3 : Nat)) (.int .u16 (c4 : Nat)) (.int .u16 (c5 : Nat))⟩
section
variable {Z : Nat → Prop} {p most : Nat} {W : World} {ns : List Nd}
theorem sLeast (h : Sta Z p W most ns) (f : Nat) (hf : f < ns.length) (h0 : f ≠ 0) : Calls Try.prog 10 #[.pointer (some ⟨p, 0, none⟩), .int .i64 (f : Nat)] W fun e w' => e = .returned (.tuple #[hw (uW ns false f 104).1 (uW ns false f 104).2, .bool true]) ∧ Below W.heap.size W w' :=
  least_core _ _ _ _ _ W (Lib.hid (fun w hb => sUtm (h.on hb) false f hf h0))
theorem sLeast_none (h : Sta Z p W most ns) (f : Int) (hf : hasB ns.length f = true → f = 0) : Calls Try.prog 10 #[.pointer (some ⟨p, 0, none⟩), .int .i64 f] W fun e w' => e = .returned (.tuple #[hw 0 0, .bool false]) ∧ Below W.heap.size W w' :=
  least_core _ _ _ _ _ W (Lib.hid (fun w hb => sUtm_none (h.on hb) false f hf))
end
end Go.Proofs.Ytgcbngephokegab
/- The document's example of layer 8. -/
namespace Go.Proofs.Ytgcbngephokegab
open Go.RowKit Wd
set_option linter.unusedVariables false
set_option linter.unusedSimpArgs false

def v3 : List Nd := [bot, top, ⟨0, 0, 1⟩]
theorem sw1 : cF 100 [bot, top] [(0, true)] = (some 2, v3) := by decide
theorem sw2 : wy v3 2 * 2 ^ lv v3 2 = 10141204801825835211973625643008 := by decide +kernel
theorem sw3 : uW v3 false 2 104 = (9223372036854775808, 0) := by decide +kernel
theorem sw4 : upI 1 ((103 : Nat) : Int) = 10141204801825835211973625643008 := by decide +kernel
theorem wf_v3 : WF v3 := by
  have G := got_cube 100 wf_new [(0, true)] (by simp) (by simp)
  rw [sw1] at G
  exact G.wf
set_option maxRecDepth 100000 in
set_option maxHeartbeats 4000000 in
theorem sawake_any (w : World) : Calls Try.prog 5 #[] w fun e w' => e = .returned (.bool true) ∧ Below w.heap.size w w' := by
  have C1 := Lib.hid (sNew 100 (by omega) (by omega) w)
  have C2 : Hid (∀ p W, Sta (fun k => k < w.heap.size) p W 100 [bot, top] → Calls Try.prog 14 #[.pointer (some ⟨p, 0, none⟩), .int .i64 0] W fun e w' => e = .returned (.tuple #[.int .i64 2, .int .i64 0]) ∧ Sta (fun k => k < w.heap.size) p w' 100 v3 ∧ Hold (fun k => k < w.heap.size) W w') := fun p W h => by have k := sVar h 0 (by omega); rw [sw1] at k; exact k
  have C3 : Hid (∀ p W, Sta (fun k => k < w.heap.size) p W 100 v3 → Calls Try.prog 10 #[.pointer (some ⟨p, 0, none⟩), .int .i64 2] W fun e w' => e = .returned (.tuple #[hv 2147483648 0 0 0 0, .bool true]) ∧ Below W.heap.size W w') := fun p W h => by
    have k := sLeast h 2 (by decide) (by omega)
    rw [sw3] at k
    exact k
  obtain ⟨c, hc⟩ : ∃ c, c = 10141204801825835211973625643008 := ⟨_, rfl⟩
  have C4 : Hid (∀ p W, Sta (fun k => k < w.heap.size) p W 100 v3 → Calls Try.prog 9 #[.pointer (some ⟨p, 0, none⟩), .int .i64 2] W fun e w' => e = .returned (cn c) ∧ Below W.heap.size W w') := fun p W h => by
    have k := sCount h 2 (by decide)
    rw [← many_wy wf_v3 (by decide), sw2, ← hc] at k
    exact k
  have C5 : Hid (∀ W, Calls Try.prog 15 #[.int .i64 103] W fun e w' => e = .returned (cn c) ∧ Below W.heap.size W w') := fun W => by
    have k := pow_any ((103 : Nat) : Int) W
    rw [sw4, ← hc] at k
    exact k
  clear hc
  unfold hv at C3
  go_enter Try.func5, Try.ntmps5
  go_wp2_with fail
  refine C1.out.mono ?_
  rintro e w1 ⟨p, rfl, hS, hb⟩
  have S1 := Lib.hid hS
  have B1 := Lib.hid hb
  clear hS hb C1
  go_wp2_with fail
  refine (C2.out p w1 S1.out).mono ?_
  rintro e w2 ⟨rfl, hS, hH⟩
  have S2 := Lib.hid hS
  have B2 := Lib.hid (B1.out.trans (hH.below B1.out.size (fun k hk => hk)))
  clear hS hH C2 S1 B1
  go_wp2_with fail
  refine (C3.out p w2 S2.out).mono ?_
  rintro e w3 ⟨rfl, hb⟩
  have S3 := Lib.hid (S2.out.on hb)
  have B3 := Lib.hid (bel_on' B2.out hb)
  clear hb C3 S2 B2
  go_upto_region 4 with fail
  refine at_code (S := fun W => Blk W w3.heap.size [.int .u32 2147483648, .int .u32 0, .int .u8 0, .int .u16 0, .int .u16 0] ∧ Below w3.heap.size w3 W) ⟨Blk.new _ _ _, bel_al (Below.refl _ _) _⟩ (fun w4 hW => ?_)
  obtain ⟨hX, hb⟩ := hW
  have X4 := Lib.hid hX
  have S4 := Lib.hid (S3.out.on hb)
  have B4 := Lib.hid (bel_on' B3.out hb)
  clear hX hb S3 B3
  go_wp2_with fail
  refine (C4.out p w4 S4.out).mono ?_
  rintro e w5 ⟨rfl, hb⟩
  have X5 := Lib.hid (X4.out.on hb)
  have B5 := Lib.hid (bel_on' B4.out hb)
  clear hb C4 S4 X4 B4
  go_wp2_with fail
  refine (C5.out w5).mono ?_
  rintro e w6 ⟨rfl, hb⟩
  have X6 := Lib.hid (X5.out.on hb)
  have B6 := Lib.hid (bel_on' B5.out hb)
  clear hb C5 X5 B5
  obtain ⟨x_0, x_1, x_2, x_3, x_4⟩ : _ ∧ _ ∧ _ ∧ _ ∧ _ := ⟨X6.out.1 0 _ rfl, X6.out.1 1 _ rfl, X6.out.1 2 _ rfl, X6.out.1 3 _ rfl, X6.out.1 4 _ rfl⟩
  go_wp2
  go_ret
  exact ⟨rfl, B6.out⟩
end Go.Proofs.Ytgcbngephokegab
