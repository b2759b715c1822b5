/- Texts joined, in their order: S9, SA, S3, SV. -/
import Derived.Test.YteiemcnjcdjglaaGS8
import Derived.Test.YteiemcnjcdjglaaG2817d68fa6
import Derived.Test.YteiemcnjcdjglaaG6cff558f04
import Derived.Test.YteiemcnjcdjglaaG212a414aca
import Derived.Test.YteiemcnjcdjglaaGf97ea61b17
/- The least and the greatest header of a set: the calls' contracts. -/
namespace Go.Proofs.Yteiemcnjcdjglaa
open Go.RowKit
set_option linter.unusedVariables false
set_option linter.unusedSimpArgs false

/-- The words of so many rounds. -/
def uW (ns : List Nd) (on : Bool) (f : Nat) : Nat → Nat × Nat
  | 0 => (0, 0)
  | i + 1 => (wo (uW ns on f i).1 (ma i) (utB ns on (ut ns on f i).1 i), wo (uW ns on f i).2 (mb i) (utB ns on (ut ns on f i).1 i))
theorem wb_zero : WB 0 0 := ⟨by decide, by decide⟩
theorem tE_zero : tE 0 0 = fun _ => false := by
  funext i
  unfold tE tb
  simp
theorem uW_ok (ns : List Nd) (on : Bool) (f : Nat) : ∀ i, i ≤ 104 → WB (uW ns on f i).1 (uW ns on f i).2 ∧ tE (uW ns on f i).1 (uW ns on f i).2 = (ut ns on f i).2
  | 0, _ => ⟨wb_zero, tE_zero⟩
  | i + 1, hi => by
    obtain ⟨h1, h2⟩ := uW_ok ns on f i (by omega)
    refine ⟨h1.wo (i : Int) _, ?_⟩
    show tE (wo (uW ns on f i).1 (ma i) _) (wo (uW ns on f i).2 (mb i) _) = hld (ut ns on f i).2 i _
    rw [tE_wo _ _ _ _ (by omega), h2]
theorem sUtm {Z : Nat → Prop} {p most : Nat} {W : World} {ns : List Nd} (h : Sta Z p W most ns) (on : Bool) (f : Nat) (hf : f < ns.length) (h0 : f ≠ 0) :
    Calls Try.prog 43 #[.pointer (some ⟨p, 0, none⟩), .int .i64 (f : Nat), .bool on] W fun e w' => e = .returned (.tuple #[hw (uW ns on f 104).1 (uW ns on f 104).2, .bool true]) ∧ Below W.heap.size W w' := by
  have hw := h.wf
  refine utm_core _ on (fun k => (ut ns on f k).1) (fun k => (uW ns on f k).1) (fun k => (uW ns on f k).2) (fun k => (ptF ns (ut ns on f k).1 k).1) (fun k => (ptF ns (ut ns on f k).1 k).2) W (Lib.hid (fun w hb => ?_)) (Lib.hid (fun k w hk hb => ?_)) (Lib.hid (fun k w b hk hb => ?_)) (Lib.hid h0) (Lib.hid rfl) (Lib.hid rfl)
  · have := sHas (h.on hb) f
    rw [show hasB ns.length (f : Nat) = true by unfold hasB; simp; omega] at this
    exact this
  · exact sparts (h.on hb) _ k (ut_ok hw on hf h0 k (by omega)).lt
  · have e : b = utB ns on (ut ns on f k).1 k := by
      rw [hb]; unfold utB sd; cases on <;> rfl
    subst e
    refine ⟨rfl, ?_⟩
    exact Hw.with_w _ _ (k : Int) _ (uW_ok ns on f k (by omega)).1 w
set_option maxRecDepth 100000 in
set_option maxHeartbeats 2000000 in
theorem utm_none (p : Value) (on x : Bool) (f : Int) (hx : Hid (x = true → f = 0)) (W : World)
    (CH : Hid (∀ w, Below W.heap.size W w → Calls Try.prog 29 #[p, .int .i64 f] w fun e w' => e = .returned (.bool x) ∧ w = w')) :
    Calls Try.prog 43 #[p, .int .i64 f, .bool on] W fun e w' => e = .returned (.tuple #[hw 0 0, .bool false]) ∧ Below W.heap.size W w' := by
  go_enter Try.func43, Try.ntmps43
  go_upto_region 1 with fail
  refine at_code (S := fun w1 => Blk w1 W.heap.size [.int .u32 0, .int .u32 0, .int .u8 0, .int .u16 0, .int .u16 0] ∧ Below W.heap.size W w1) ⟨Blk.new _ _ _, bel_al (Below.refl _ _) _⟩ (fun W1 hW => ?_)
  obtain ⟨hX, hb⟩ := hW
  have X1 := Lib.hid hX
  have B1 := Lib.hid hb
  clear hX hb
  go_wp2_with fail
  refine (CH.out W1 B1.out).mono ?_
  rintro e w' ⟨rfl, rfl⟩
  clear CH
  obtain ⟨x_0, x_1, x_2, x_3, x_4⟩ : _ ∧ _ ∧ _ ∧ _ ∧ _ := ⟨X1.out.1 0 _ rfl, X1.out.1 1 _ rfl, X1.out.1 2 _ rfl, X1.out.1 3 _ rfl, X1.out.1 4 _ rfl⟩
  obtain ⟨z_0, z_1, z_2, z_3, z_4⟩ : _ ∧ _ ∧ _ ∧ _ ∧ _ := ⟨X1.out.2 0 _ rfl, X1.out.2 1 _ rfl, X1.out.2 2 _ rfl, X1.out.2 3 _ rfl, X1.out.2 4 _ rfl⟩
  have FIN := Lib.hid (bel5 B1.out (Nat.le_refl _) (.int .u32 0) (.int .u32 0) (.int .u8 0) (.int .u16 0) (.int .u16 0))
  cases x with
  | false =>
    clear hx
    go_wp2
    exact bodyPost_ret (v := .tuple #[hw 0 0, .bool false]) (by simp [results, Try.results43, go_sem, x_0, x_1, x_2, x_3, x_4]; decide) rfl ⟨rfl, FIN.out⟩
  | true =>
    obtain rfl := hx.out rfl
    clear hx
    go_wp2
    exact bodyPost_ret (v := .tuple #[hw 0 0, .bool false]) (by simp [results, Try.results43, go_sem, x_0, x_1, x_2, x_3, x_4]; decide) rfl ⟨rfl, FIN.out⟩
/-- A number that is no set's, or False's. -/
theorem sUtm_none {Z : Nat → Prop} {p most : Nat} {W : World} {ns : List Nd} (h : Sta Z p W most ns) (on : Bool) (f : Int) (hf : hasB ns.length f = true → f = 0) :
    Calls Try.prog 43 #[.pointer (some ⟨p, 0, none⟩), .int .i64 f, .bool on] W fun e w' => e = .returned (.tuple #[hw 0 0, .bool false]) ∧ Below W.heap.size W w' :=
  utm_none _ on _ f (Lib.hid hf) W (Lib.hid (fun w hb => sHas (h.on hb) f))
set_option maxRecDepth 100000 in
set_option maxHeartbeats 2000000 in
theorem least_core (p : Value) (f : Int) (a b : Nat) (x : Bool) (W : World)
    (C : Hid (∀ w, Below W.heap.size W w → Calls Try.prog 43 #[p, .int .i64 f, .bool false] w fun e w' => e = .returned (.tuple #[hw a b, .bool x]) ∧ Below w.heap.size w w')) :
    Calls Try.prog 15 #[p, .int .i64 f] W fun e w' => e = .returned (.tuple #[hw a b, .bool x]) ∧ Below W.heap.size W w' := by
  unfold hw hv at *
  generalize fd a = c1 at *
  generalize fs a = c2 at *
  generalize fd b = c3 at *
  generalize fx b = c4 at *
  generalize fy b = c5 at *
  go_enter Try.func15, Try.ntmps15
  go_upto_region 1 with fail
  refine at_code (S := fun w1 => Blk w1 W.heap.size [.int .u32 0, .int .u32 0, .int .u8 0, .int .u16 0, .int .u16 0] ∧ Below W.heap.size W w1) ⟨Blk.new _ _ _, bel_al (Below.refl _ _) _⟩ (fun W1 hW => ?_)
  obtain ⟨hX, hb⟩ := hW
  have X1 := Lib.hid hX
  have B1 := Lib.hid hb
  clear hX hb
  go_wp2_with fail
  refine (C.out W1 B1.out).mono ?_
  rintro e w2 ⟨rfl, hb⟩
  have X2 := Lib.hid (X1.out.on hb)
  have B2 := Lib.hid (bel_on' B1.out hb)
  clear hb C X1 B1
  obtain ⟨x_0, x_1, x_2, x_3, x_4⟩ : _ ∧ _ ∧ _ ∧ _ ∧ _ := ⟨X2.out.1 0 _ rfl, X2.out.1 1 _ rfl, X2.out.1 2 _ rfl, X2.out.1 3 _ rfl, X2.out.1 4 _ rfl⟩
  obtain ⟨z_0, z_1, z_2, z_3, z_4⟩ : _ ∧ _ ∧ _ ∧ _ ∧ _ := ⟨X2.out.2 0 _ rfl, X2.out.2 1 _ rfl, X2.out.2 2 _ rfl, X2.out.2 3 _ rfl, X2.out.2 4 _ rfl⟩
  go_wp2
  exact bodyPost_ret (v := .tuple #[.agg #[.int .u32 (c1 : Nat), .int .u32 (c2 : Nat), .int .u8 (c3 : Nat), .int .u16 (c4 : Nat), .int .u16 (c5 : Nat)], .bool x]) (by simp [results, Try.results15, go_sem, x_0, x_1, x_2, x_3, x_4]) rfl ⟨rfl, bel5 B2.out (Nat.le_refl _) (.int .u32 (c1 : Nat)) (.int .u32 (c2 : Nat)) (.int .u8 (c3 : Nat)) (.int .u16 (c4 : Nat)) (.int .u16 (c5 : Nat))⟩
set_option maxRecDepth 100000 in
set_option maxHeartbeats 2000000 in
theorem most_core (p : Value) (f : Int) (a b : Nat) (x : Bool) (W : World)
    (C : Hid (∀ w, Below W.heap.size W w → Calls Try.prog 43 #[p, .int .i64 f, .bool true] w fun e w' => e = .returned (.tuple #[hw a b, .bool x]) ∧ Below w.heap.size w w')) :
    Calls Try.prog 23 #[p, .int .i64 f] W fun e w' => e = .returned (.tuple #[hw a b, .bool x]) ∧ Below W.heap.size W w' := by
  unfold hw hv at *
  generalize fd a = c1 at *
  generalize fs a = c2 at *
  generalize fd b = c3 at *
  generalize fx b = c4 at *
  generalize fy b = c5 at *
  go_enter Try.func23, Try.ntmps23
  go_upto_region 1 with fail
  refine at_code (S := fun w1 => Blk w1 W.heap.size [.int .u32 0, .int .u32 0, .int .u8 0, .int .u16 0, .int .u16 0] ∧ Below W.heap.size W w1) ⟨Blk.new _ _ _, bel_al (Below.refl _ _) _⟩ (fun W1 hW => ?_)
  obtain ⟨hX, hb⟩ := hW
  have X1 := Lib.hid hX
  have B1 := Lib.hid hb
  clear hX hb
  go_wp2_with fail
  refine (C.out W1 B1.out).mono ?_
  rintro e w2 ⟨rfl, hb⟩
  have X2 := Lib.hid (X1.out.on hb)
  have B2 := Lib.hid (bel_on' B1.out hb)
  clear hb C X1 B1
  obtain ⟨x_0, x_1, x_2, x_3, x_4⟩ : _ ∧ _ ∧ _ ∧ _ ∧ _ := ⟨X2.out.1 0 _ rfl, X2.out.1 1 _ rfl, X2.out.1 2 _ rfl, X2.out.1 3 _ rfl, X2.out.1 4 _ rfl⟩
  obtain ⟨z_0, z_1, z_2, z_3, z_4⟩ : _ ∧ _ ∧ _ ∧ _ ∧ _ := ⟨X2.out.2 0 _ rfl, X2.out.2 1 _ rfl, X2.out.2 2 _ rfl, X2.out.2 3 _ rfl, X2.out.2 4 _ rfl⟩
  go_wp2
  exact bodyPost_ret (v := .tuple #[.agg #[.int .u32 (c1 : Nat), .int .u32 (c2 : Nat), .int .u8 (c3 : Nat), .int .u16 (c4 : Nat), .int .u16 (c5 : Nat)], .bool x]) (by simp [results, Try.results23, go_sem, x_0, x_1, x_2, x_3, x_4]) rfl ⟨rfl, bel5 B2.out (Nat.le_refl _) (.int .u32 (c1 : Nat)) (.int .u32 (c2 : Nat)) (.int .u8 (c3 : Nat)) (.int .u16 (c4 : Nat)) (.int .u16 (c5 : Nat))⟩
section
variable {Z : Nat → Prop} {p most : Nat} {W : World} {ns : List Nd}
theorem sLeast (h : Sta Z p W most ns) (f : Nat) (hf : f < ns.length) (h0 : f ≠ 0) : Calls Try.prog 15 #[.pointer (some ⟨p, 0, none⟩), .int .i64 (f : Nat)] W fun e w' => e = .returned (.tuple #[hw (uW ns false f 104).1 (uW ns false f 104).2, .bool true]) ∧ Below W.heap.size W w' :=
  least_core _ _ _ _ _ W (Lib.hid (fun w hb => sUtm (h.on hb) false f hf h0))
theorem sLeast_none (h : Sta Z p W most ns) (f : Int) (hf : hasB ns.length f = true → f = 0) : Calls Try.prog 15 #[.pointer (some ⟨p, 0, none⟩), .int .i64 f] W fun e w' => e = .returned (.tuple #[hw 0 0, .bool false]) ∧ Below W.heap.size W w' :=
  least_core _ _ _ _ _ W (Lib.hid (fun w hb => sUtm_none (h.on hb) false f hf))
theorem sMost (h : Sta Z p W most ns) (f : Nat) (hf : f < ns.length) (h0 : f ≠ 0) : Calls Try.prog 23 #[.pointer (some ⟨p, 0, none⟩), .int .i64 (f : Nat)] W fun e w' => e = .returned (.tuple #[hw (uW ns true f 104).1 (uW ns true f 104).2, .bool true]) ∧ Below W.heap.size W w' :=
  most_core _ _ _ _ _ W (Lib.hid (fun w hb => sUtm (h.on hb) true f hf h0))
theorem sMost_none (h : Sta Z p W most ns) (f : Int) (hf : hasB ns.length f = true → f = 0) : Calls Try.prog 23 #[.pointer (some ⟨p, 0, none⟩), .int .i64 f] W fun e w' => e = .returned (.tuple #[hw 0 0, .bool false]) ∧ Below W.heap.size W w' :=
  most_core _ _ _ _ _ W (Lib.hid (fun w hb => sUtm_none (h.on hb) true f hf))
end
end Go.Proofs.Yteiemcnjcdjglaa
/- The document's example of layer 8. -/
namespace Go.Proofs.Yteiemcnjcdjglaa
open Go.RowKit Wd
set_option linter.unusedVariables false
set_option linter.unusedSimpArgs false

def v3 : List Nd := [bot, top, ⟨0, 0, 1⟩]
theorem sw1 : cF 100 [bot, top] [(0, true)] = (some 2, v3) := by decide
theorem sw2 : wy v3 2 * 2 ^ lv v3 2 = 10141204801825835211973625643008 := by decide +kernel
theorem sw3 : uW v3 false 2 104 = (9223372036854775808, 0) := by decide +kernel
theorem sw4 : upI 1 ((103 : Nat) : Int) = 10141204801825835211973625643008 := by decide +kernel
theorem wf_v3 : WF v3 := by
  have G := got_cube 100 wf_new [(0, true)] (by simp) (by simp)
  rw [sw1] at G
  exact G.wf
set_option maxRecDepth 100000 in
set_option maxHeartbeats 4000000 in
theorem sawake_any (w : World) : Calls Try.prog 10 #[] w fun e w' => e = .returned (.bool true) ∧ Below w.heap.size w w' := by
  have C1 := Lib.hid (sNew 100 (by omega) (by omega) w)
  have C2 : Hid (∀ p W, Sta (fun k => k < w.heap.size) p W 100 [bot, top] → Calls Try.prog 34 #[.pointer (some ⟨p, 0, none⟩), .int .i64 0] W fun e w' => e = .returned (.tuple #[.int .i64 2, .int .i64 0]) ∧ Sta (fun k => k < w.heap.size) p w' 100 v3 ∧ Hold (fun k => k < w.heap.size) W w') := fun p W h => by have k := sVar h 0 (by omega); rw [sw1] at k; exact k
  have C3 : Hid (∀ p W, Sta (fun k => k < w.heap.size) p W 100 v3 → Calls Try.prog 15 #[.pointer (some ⟨p, 0, none⟩), .int .i64 2] W fun e w' => e = .returned (.tuple #[hv 2147483648 0 0 0 0, .bool true]) ∧ Below W.heap.size W w') := fun p W h => by
    have k := sLeast h 2 (by decide) (by omega)
    rw [sw3] at k
    exact k
  obtain ⟨c, hc⟩ : ∃ c, c = 10141204801825835211973625643008 := ⟨_, rfl⟩
  have C4 : Hid (∀ p W, Sta (fun k => k < w.heap.size) p W 100 v3 → Calls Try.prog 14 #[.pointer (some ⟨p, 0, none⟩), .int .i64 2] W fun e w' => e = .returned (cn c) ∧ Below W.heap.size W w') := fun p W h => by
    have k := sCount h 2 (by decide)
    rw [← many_wy wf_v3 (by decide), sw2, ← hc] at k
    exact k
  have C5 : Hid (∀ W, Calls Try.prog 21 #[.int .i64 103] W fun e w' => e = .returned (cn c) ∧ Below W.heap.size W w') := fun W => by
    have k := pow_any ((103 : Nat) : Int) W
    rw [sw4, ← hc] at k
    exact k
  clear hc
  unfold hv at C3
  go_enter Try.func10, Try.ntmps10
  go_wp2_with fail
  refine C1.out.mono ?_
  rintro e w1 ⟨p, rfl, hS, hb⟩
  have S1 := Lib.hid hS
  have B1 := Lib.hid hb
  clear hS hb C1
  go_wp2_with fail
  refine (C2.out p w1 S1.out).mono ?_
  rintro e w2 ⟨rfl, hS, hH⟩
  have S2 := Lib.hid hS
  have B2 := Lib.hid (B1.out.trans (hH.below B1.out.size (fun k hk => hk)))
  clear hS hH C2 S1 B1
  go_wp2_with fail
  refine (C3.out p w2 S2.out).mono ?_
  rintro e w3 ⟨rfl, hb⟩
  have S3 := Lib.hid (S2.out.on hb)
  have B3 := Lib.hid (bel_on' B2.out hb)
  clear hb C3 S2 B2
  go_upto_region 4 with fail
  refine at_code (S := fun W => Blk W w3.heap.size [.int .u32 2147483648, .int .u32 0, .int .u8 0, .int .u16 0, .int .u16 0] ∧ Below w3.heap.size w3 W) ⟨Blk.new _ _ _, bel_al (Below.refl _ _) _⟩ (fun w4 hW => ?_)
  obtain ⟨hX, hb⟩ := hW
  have X4 := Lib.hid hX
  have S4 := Lib.hid (S3.out.on hb)
  have B4 := Lib.hid (bel_on' B3.out hb)
  clear hX hb S3 B3
  go_wp2_with fail
  refine (C4.out p w4 S4.out).mono ?_
  rintro e w5 ⟨rfl, hb⟩
  have X5 := Lib.hid (X4.out.on hb)
  have B5 := Lib.hid (bel_on' B4.out hb)
  clear hb C4 S4 X4 B4
  go_wp2_with fail
  refine (C5.out w5).mono ?_
  rintro e w6 ⟨rfl, hb⟩
  have X6 := Lib.hid (X5.out.on hb)
  have B6 := Lib.hid (bel_on' B5.out hb)
  clear hb C5 X5 B5
  obtain ⟨x_0, x_1, x_2, x_3, x_4⟩ : _ ∧ _ ∧ _ ∧ _ ∧ _ := ⟨X6.out.1 0 _ rfl, X6.out.1 1 _ rfl, X6.out.1 2 _ rfl, X6.out.1 3 _ rfl, X6.out.1 4 _ rfl⟩
  go_wp2
  go_ret
  exact ⟨rfl, B6.out⟩
end Go.Proofs.Yteiemcnjcdjglaa
/- Which nodes sets have, each once: plain. No program in sight. -/
namespace Go.Proofs.Yteiemcnjcdjglaa
set_option linter.unusedVariables false

/-- A set's own nodes. -/
inductive Rc (ns : List Nd) : Nat → Nat → Prop
  | self {f : Nat} : 2 ≤ f → Rc ns f f
  | low {f x : Nat} : 2 ≤ f → Rc ns (ns.getD f bot).l x → Rc ns f x
  | high {f x : Nat} : 2 ≤ f → Rc ns (ns.getD f bot).h x → Rc ns f x
theorem Rc.two {ns : List Nd} {f x : Nat} (h : Rc ns f x) : 2 ≤ f ∧ 2 ≤ x := by
  induction h with
  | self q => exact ⟨q, q⟩
  | low q _ ih => exact ⟨q, ih.2⟩
  | high q _ ih => exact ⟨q, ih.2⟩
theorem Rc.le {ns : List Nd} (hw : WF ns) {f x : Nat} (h : Rc ns f x) : f < ns.length → x ≤ f := by
  induction h with
  | self q => intro _; exact Nat.le_refl _
  | low q _ ih => intro hf; have := hw.parts q hf; have := ih (by omega); omega
  | high q _ ih => intro hf; have := hw.parts q hf; have := ih (by omega); omega
theorem Rc.node {ns : List Nd} {f x : Nat} (h : Rc ns f x) : x = f ∨ Rc ns (ns.getD f bot).l x ∨ Rc ns (ns.getD f bot).h x := by
  cases h with
  | self q => exact Or.inl rfl
  | low q r => exact Or.inr (Or.inl r)
  | high q r => exact Or.inr (Or.inr r)
theorem Rc.trans {ns : List Nd} {f g x : Nat} (h : Rc ns f g) : Rc ns g x → Rc ns f x := by
  induction h with
  | self _ => exact id
  | low q _ ih => exact fun r => Rc.low q (ih r)
  | high q _ ih => exact fun r => Rc.high q (ih r)
/-- A visit: what was met, and how often something was. -/
def viF (ns : List Nd) : Nat → List Nat → Nat → Nat → List Nat × Nat
  | 0, m, c, _ => (m, c)
  | k + 1, m, c, f =>
    if f ≤ 1 then (m, c)
    else if f ∈ m then (m, c + 1)
    else viF ns k (viF ns k (f :: m) (c + 1) (ns.getD f bot).l).1 (viF ns k (f :: m) (c + 1) (ns.getD f bot).l).2 (ns.getD f bot).h
theorem viF_succ (ns : List Nd) (k : Nat) (m : List Nat) (c f : Nat) : viF ns (k + 1) m c f = if f ≤ 1 then (m, c) else if f ∈ m then (m, c + 1) else viF ns k (viF ns k (f :: m) (c + 1) (ns.getD f bot).l).1 (viF ns k (f :: m) (c + 1) (ns.getD f bot).l).2 (ns.getD f bot).h := rfl
structure Vi (ns : List Nd) (m : List Nat) (c f : Nat) (R : List Nat × Nat) : Prop where
  mem : ∀ x, x ∈ R.1 ↔ x ∈ m ∨ Rc ns f x
  one : m.Nodup → R.1.Nodup
  len : m.length ≤ R.1.length
  cnt : R.2 ≤ c + 1 + 2 * (R.1.length - m.length)
theorem viF_ok {ns : List Nd} (h : WF ns) : ∀ k m c f, f < ns.length → f < k → (∀ g ∈ m, g ≤ f → ∀ x, Rc ns g x → x ∈ m) → Vi ns m c f (viF ns k m c f)
  | 0, m, c, f, _, hk, _ => by omega
  | k + 1, m, c, f, hf, hk, hc => by
    rw [viF_succ]
    by_cases q : f ≤ 1
    · rw [if_pos q]
      exact ⟨fun x => ⟨Or.inl, fun r => r.elim id (fun r => by have := r.two.1; omega)⟩, id, Nat.le_refl _, by simp only; omega⟩
    rw [if_neg q]
    by_cases r : f ∈ m
    · rw [if_pos r]
      exact ⟨fun x => ⟨Or.inl, fun s => s.elim id (fun s => hc f r (Nat.le_refl _) x s)⟩, id, Nat.le_refl _, by simp only; omega⟩
    rw [if_neg r]
    obtain ⟨a, b, -⟩ := h.parts (by omega) hf
    have A := viF_ok h k (f :: m) (c + 1) (ns.getD f bot).l (by omega) (by omega) (fun g hg hle x hx => by
      rcases List.mem_cons.1 hg with rfl | hg
      · omega
      · exact List.mem_cons_of_mem _ (hc g hg (by omega) x hx))
    obtain ⟨R, hR⟩ : ∃ R, viF ns k (f :: m) (c + 1) (ns.getD f bot).l = R := ⟨_, rfl⟩
    rw [hR] at A ⊢
    have l1 := A.len
    have c1 := A.cnt
    simp only [List.length_cons] at l1 c1
    have B := viF_ok h k R.1 R.2 (ns.getD f bot).h (by omega) (by omega) (fun g hg hle x hx => by
      rcases (A.mem g).1 hg with hg | hg
      · rcases List.mem_cons.1 hg with rfl | hg
        · omega
        · exact (A.mem x).2 (Or.inl (List.mem_cons_of_mem _ (hc g hg (by omega) x hx)))
      · exact (A.mem x).2 (Or.inr (hg.trans hx)))
    obtain ⟨T, hT⟩ : ∃ T, viF ns k R.1 R.2 (ns.getD f bot).h = T := ⟨_, rfl⟩
    rw [hT] at B ⊢
    have l2 := B.len
    have c2 := B.cnt
    refine ⟨fun x => ?_, fun hn => B.one (A.one (List.nodup_cons.2 ⟨r, hn⟩)), by omega, by omega⟩
    rw [B.mem, A.mem, List.mem_cons]
    constructor
    · rintro (((rfl | s) | s) | s)
      · exact Or.inr (Rc.self (by omega))
      · exact Or.inl s
      · exact Or.inr (Rc.low (by omega) s)
      · exact Or.inr (Rc.high (by omega) s)
    · rintro (s | s)
      · exact Or.inl (Or.inl (Or.inr s))
      · rcases s.node with rfl | s | s
        · exact Or.inl (Or.inl (Or.inl rfl))
        · exact Or.inl (Or.inr s)
        · exact Or.inr s
/-- What is met behind several sets. -/
structure Mt (ns : List Nd) (fs : List Nat) (m : List Nat) : Prop where
  mem : ∀ x, x ∈ m ↔ ∃ f ∈ fs, Rc ns f x
  one : m.Nodup
theorem Mt.closed {ns : List Nd} {fs m : List Nat} (h : Mt ns fs m) : ∀ g ∈ m, ∀ x, Rc ns g x → x ∈ m := fun g hg x hx => by
  obtain ⟨f, hf, r⟩ := (h.mem g).1 hg
  exact (h.mem x).2 ⟨f, hf, r.trans hx⟩
theorem Mt.nil (ns : List Nd) : Mt ns [] [] := ⟨fun x => ⟨fun h => (by cases h), fun ⟨f, h, _⟩ => (by cases h)⟩, List.nodup_nil⟩
theorem Mt.step {ns : List Nd} (h : WF ns) {fs m : List Nat} (hm : Mt ns fs m) {f : Nat} (hf : f < ns.length) (k c : Nat) (hk : f < k) : Mt ns (fs ++ [f]) (viF ns k m c f).1 := by
  have A := viF_ok h k m c f hf hk (fun g hg _ => hm.closed g hg)
  refine ⟨fun x => ?_, A.one hm.one⟩
  rw [A.mem, hm.mem]
  constructor
  · rintro (⟨g, h1, h2⟩ | h2)
    · exact ⟨g, List.mem_append_left _ h1, h2⟩
    · exact ⟨f, List.mem_append_right _ (List.mem_singleton.2 rfl), h2⟩
  · rintro ⟨g, h1, h2⟩
    rcases List.mem_append.1 h1 with h1 | h1
    · exact Or.inl ⟨g, h1, h2⟩
    · rw [List.mem_singleton.1 h1] at h2; exact Or.inr h2
/-- A number that is no set's has none. -/
theorem Mt.skip {ns : List Nd} {fs m : List Nat} (hm : Mt ns fs m) : Mt ns fs m := hm
theorem Mt.le {ns : List Nd} {fs gs m m' : List Nat} (h : Mt ns fs m) (h' : Mt ns gs m') (hs : ∀ f ∈ fs, f ∈ gs) : m.length ≤ m'.length :=
  nodup_sub m m' h.one (fun x hx => by
    obtain ⟨f, a, b⟩ := (h.mem x).1 hx
    exact (h'.mem x).2 ⟨f, hs f a, b⟩)
theorem Mt.same {ns : List Nd} {fs gs m m' : List Nat} (h : Mt ns fs m) (h' : Mt ns gs m') (hs : ∀ f, f ∈ fs ↔ f ∈ gs) : m.length = m'.length :=
  Nat.le_antisymm (h.le h' (fun f hf => (hs f).1 hf)) (h'.le h (fun f hf => (hs f).2 hf))
theorem Mt.both {ns : List Nd} {f g : Nat} {m n b : List Nat} (hm : Mt ns [f] m) (hn : Mt ns [g] n) (hb : Mt ns [f, g] b) : b.length ≤ m.length + n.length := by
  have := nodup_sub b (m ++ n) hb.one (fun x hx => by
    obtain ⟨k, a, r⟩ := (hb.mem x).1 hx
    rcases List.mem_cons.1 a with rfl | a
    · exact List.mem_append_left _ ((hm.mem x).2 ⟨_, List.mem_singleton.2 rfl, r⟩)
    · exact List.mem_append_right _ ((hn.mem x).2 ⟨_, a, r⟩))
  rw [List.length_append] at this
  exact this
theorem Mt.room {ns : List Nd} (hw : WF ns) {fs m : List Nat} (h : Mt ns fs m) (hf : ∀ f ∈ fs, f < ns.length) : m.length + 2 ≤ ns.length := by
  have hl := hw.len
  have := nodup_sub (0 :: 1 :: m) (List.range ns.length) (by
    rw [List.nodup_cons, List.nodup_cons]
    refine ⟨fun q => ?_, fun q => ?_, h.one⟩
    · rcases List.mem_cons.1 q with q | q
      · omega
      · obtain ⟨f, a, b⟩ := (h.mem 0).1 q; have := b.two; omega
    · obtain ⟨f, a, b⟩ := (h.mem 1).1 q; have := b.two; omega) (fun x hx => by
    rw [List.mem_range]
    rcases List.mem_cons.1 hx with rfl | hx
    · omega
    rcases List.mem_cons.1 hx with rfl | hx
    · omega
    obtain ⟨f, a, b⟩ := (h.mem x).1 hx
    have := b.le hw (hf f a)
    have := hf f a
    omega)
  simp only [List.length_cons, List.length_range] at this
  omega
theorem Mt.none {ns : List Nd} (hw : WF ns) {f : Nat} {m : List Nat} (h : Mt ns [f] m) : m.length = 0 ↔ f ≤ 1 := by
  constructor
  · intro e
    refine Nat.le_of_not_lt fun q => ?_
    have : f ∈ m := (h.mem f).2 ⟨f, List.mem_singleton.2 rfl, Rc.self (by omega)⟩
    rw [List.length_eq_zero_iff.1 e] at this; cases this
  · intro q
    cases m with
    | nil => rfl
    | cons x r =>
      obtain ⟨g, a, b⟩ := (h.mem x).1 (List.mem_cons_self ..)
      rw [List.mem_singleton.1 a] at b
      have := b.two; omega
/-- A cube's nodes: one for each of its bits. -/
theorem cube_nodes {ns : List Nd} (h : WF ns) : ∀ (l : List (Nat × Bool)) (f : Nat), l.Pairwise (fun a b => a.1 < b.1) → (∀ p ∈ l, p.1 < 104) → f < ns.length → (∀ e, ev ns e f = allB l e) →
    ∃ r : List Nat, r.Nodup ∧ r.length = l.length ∧ ∀ x, x ∈ r ↔ Rc ns f x
  | [], f, _, _, hf, he => by
    have : f = 1 := one_number h hf (by have := h.len; omega) (fun e => by rw [he, ev_one]; rfl)
    subst this
    exact ⟨[], List.nodup_nil, rfl, fun x => ⟨fun q => (by cases q), fun q => by have := q.two.1; omega⟩⟩
  | (v, b) :: r, f, hr, hb, hf, he => by
    obtain ⟨hr1, hr2⟩ := List.pairwise_cons.1 hr
    have hv := hb (v, b) (List.mem_cons_self ..)
    simp only at hv
    have hlit : ∀ (l : List (Nat × Bool)) (i : Nat) (c : Bool) (e : Nat → Bool), (∀ p ∈ l, p.1 ≠ i) → allB l (hld e i c) = allB l e := fun l i c e hl => by
      unfold allB
      rw [Bool.eq_iff_iff, List.all_eq_true, List.all_eq_true]
      exact ⟨fun q p hp => by have := q p hp; rwa [hld_ne _ _ (hl p hp)] at this, fun q p hp => by rw [hld_ne _ _ (hl p hp)]; exact q p hp⟩
    have hrv : ∀ p ∈ r, p.1 ≠ v := fun p hp => by have := hr1 p hp; simp only at this; omega
    have hcons : ∀ e, allB ((v, b) :: r) e = ((e v == b) && allB r e) := fun e => rfl
    have hfree : v ≤ lv ns f := lv_ge h hf (by omega) (fun e i c hi => by
      rw [he, he]
      exact hlit _ i c e (fun p hp => by
        rcases List.mem_cons.1 hp with rfl | hp
        · simp only; omega
        · have := hr1 p hp; simp only at this; omega))
    obtain ⟨e1, he1⟩ : ∃ e : Nat → Bool, allB r e = true := ⟨fun i => ((r.find? (fun p => p.1 == i)).map (·.2)).getD false, by
      unfold allB
      rw [List.all_eq_true]
      intro p hp
      have : r.find? (fun q => q.1 == p.1) = some p := by
        clear hlit hcons hfree hrv hr1 hr hb he
        induction r with
        | nil => cases hp
        | cons q s ih =>
          obtain ⟨s1, s2⟩ := List.pairwise_cons.1 hr2
          rcases List.mem_cons.1 hp with rfl | hp
          · simp
          · have := s1 p hp
            rw [List.find?_cons_of_neg (by simp; omega)]
            exact ih s2 hp
      simp [this]⟩
    have hlvf : lv ns f = v := by
      refine Nat.le_antisymm (Nat.le_of_not_lt fun q => ?_) hfree
      have a1 := ev_hld h e1 (i := v) b hf q
      have a2 := ev_hld h e1 (i := v) (!b) hf q
      rw [he, he, hcons, hcons, hld_same, hlit r v b e1 hrv, he1] at a1
      rw [he, he, hcons, hcons, hld_same, hlit r v (!b) e1 hrv, he1] at a2
      rw [← a1] at a2
      cases b <;> simp at a2
    have h2 : 2 ≤ f := lv_two h hf (by omega)
    obtain ⟨p1, p2, -⟩ := h.parts h2 hf
    have low : ∀ e, ev ns e (ns.getD f bot).l = ((false == b) && allB r e) := fun e => by rw [ev_low h e h2 hf, hlvf, he, hcons, hld_same, hlit r v _ e hrv]
    have high : ∀ e, ev ns e (ns.getD f bot).h = ((true == b) && allB r e) := fun e => by rw [ev_high h e h2 hf, hlvf, he, hcons, hld_same, hlit r v _ e hrv]
    have fin : ∀ g z, g < f → z = 0 → (∀ e, ev ns e g = allB r e) → (∀ x, Rc ns f x ↔ x = f ∨ Rc ns g x ∨ Rc ns z x) → ∃ r' : List Nat, r'.Nodup ∧ r'.length = ((v, b) :: r).length ∧ ∀ x, x ∈ r' ↔ Rc ns f x := fun g z hg hz hge hx => by
      obtain ⟨s, s1, s2, s3⟩ := cube_nodes h r g hr2 (fun p hp => hb p (List.mem_cons_of_mem _ hp)) (by omega) hge
      refine ⟨f :: s, List.nodup_cons.2 ⟨fun q => ?_, s1⟩, by simp [s2], fun x => ?_⟩
      · have := ((s3 f).1 q).le h (by omega); omega
      · rw [List.mem_cons, hx, s3, hz]
        exact ⟨fun q => q.imp id Or.inl, fun q => q.imp id (fun q => q.elim id (fun q => by have := q.two.1; omega))⟩
    cases b with
    | false =>
      refine fin (ns.getD f bot).l (ns.getD f bot).h p1 ?_ (fun e => by rw [low]; simp) (fun x => ⟨fun q => q.node, fun q => ?_⟩)
      · exact one_number h (by omega) (by omega) (fun e => by rw [high, ev_zero]; simp)
      · rcases q with rfl | q | q
        · exact Rc.self h2
        · exact Rc.low h2 q
        · exact Rc.high h2 q
    | true =>
      refine fin (ns.getD f bot).h (ns.getD f bot).l p2 ?_ (fun e => by rw [high]; simp) (fun x => ⟨fun q => ?_, fun q => ?_⟩)
      · exact one_number h (by omega) (by omega) (fun e => by rw [low, ev_zero]; simp)
      · rcases q.node with r | r | r
        · exact Or.inl r
        · exact Or.inr (Or.inr r)
        · exact Or.inr (Or.inl r)
      · rcases q with rfl | q | q
        · exact Rc.self h2
        · exact Rc.high h2 q
        · exact Rc.low h2 q
end Go.Proofs.Yteiemcnjcdjglaa
/- A visit: the walks. -/
namespace Go.Proofs.Yteiemcnjcdjglaa
open Go.RowKit
set_option linter.unusedVariables false
set_option linter.unusedSimpArgs false

set_option maxRecDepth 100000 in
theorem visit_end (p m : Value) (f : Int) (hf : f ≤ 1) (W : World) : Calls Try.prog 54 #[p, .int .i64 f, m] W fun e w' => e = .returned (.tuple #[]) ∧ W = w' := by
  go_enter Try.func54, Try.ntmps54
  go_wp2
  refine bodyPost_ret (v := .tuple #[]) (by simp [results, Try.results54]) rfl ?_
  exact ⟨rfl, rfl⟩
set_option maxRecDepth 100000 in
theorem visit_not (p m : Value) (f : Int) (W : World) (CH : Hid (Calls Try.prog 29 #[p, .int .i64 f] W fun e w' => e = .returned (.bool false) ∧ W = w')) :
    Calls Try.prog 54 #[p, .int .i64 f, m] W fun e w' => e = .returned (.tuple #[]) ∧ W = w' := by
  by_cases hf : f ≤ 1
  · exact visit_end p m f hf W
  · go_enter Try.func54, Try.ntmps54
    go_wp2_with fail
    refine CH.out.mono ?_
    rintro e w' ⟨rfl, rfl⟩
    clear CH
    go_wp2
    refine bodyPost_ret (v := .tuple #[]) (by simp [results, Try.results54]) rfl ?_
    exact ⟨rfl, rfl⟩
set_option maxRecDepth 100000 in
set_option maxHeartbeats 1000000 in
theorem visit_known (p : Value) (f db u : Nat) (Q1 : World → Prop) (W : World) (hf : ¬ (f : Int) ≤ 1)
    (CH : Hid (Calls Try.prog 29 #[p, .int .i64 (f : Nat)] W fun e w' => e = .returned (.bool true) ∧ W = w'))
    (hu : (1 : Int) ≤ (u : Int)) (hwu : (u : Int) ≤ 1000000000000)
    (LK : Hid ((Instr.lookup 101 (.map (some db)) (.int .i64 (f : Nat)) false).run Try.prog W = .ok (.int .i64 (u : Nat)) W ∧ ∃ w', (Instr.mapUpdate 101 (.map (some db)) (.int .i64 (f : Nat)) (.int .i64 ((u : Int) + 1))).run Try.prog W = .ok () w' ∧ Q1 w' ∧ Only db W w' ∧ (Instr.lookup 101 (.map (some db)) (.int .i64 (f : Nat)) false).run Try.prog w' = .ok (.int .i64 ((u : Int) + 1)) w')) :
    Calls Try.prog 54 #[p, .int .i64 (f : Nat), .map (some db)] W fun e w' => e = .returned (.tuple #[]) ∧ Q1 w' ∧ Only db W w' := by
  obtain ⟨l1, w1, l2, hQ, hO, l3⟩ := LK.out
  have HQ := Lib.hid hQ
  have HO := Lib.hid hO
  have c2 : (1 : Int) < (u : Int) + 1 := by omega
  clear hQ hO LK
  go_enter Try.func54, Try.ntmps54
  go_wp2_with fail
  refine CH.out.mono ?_
  rintro e w' ⟨rfl, rfl⟩
  clear CH
  go_wp2
  refine bodyPost_ret (v := .tuple #[]) (by simp [results, Try.results54]) rfl ?_
  exact ⟨rfl, HQ.out, HO.out⟩
set_option maxRecDepth 100000 in
set_option maxHeartbeats 4000000 in
theorem visit_new (p : Value) (f v l h db : Nat) (Q1 Q2 Q3 : World → Prop) (W : World) (hf : ¬ (f : Int) ≤ 1)
    (H1 : Hid (∀ w w', Q1 w → Below w.heap.size w w' → Q1 w')) (H2 : Hid (∀ w w', Q2 w → Below w.heap.size w w' → Q2 w'))
    (CH : Hid (Calls Try.prog 29 #[p, .int .i64 (f : Nat)] W fun e w' => e = .returned (.bool true) ∧ W = w'))
    (LK : Hid ((Instr.lookup 101 (.map (some db)) (.int .i64 (f : Nat)) false).run Try.prog W = .ok (.int .i64 0) W ∧ ∃ w', (Instr.mapUpdate 101 (.map (some db)) (.int .i64 (f : Nat)) (.int .i64 1)).run Try.prog W = .ok () w' ∧ Q1 w' ∧ Only db W w' ∧ (Instr.lookup 101 (.map (some db)) (.int .i64 (f : Nat)) false).run Try.prog w' = .ok (.int .i64 1) w'))
    (CL : Hid (∀ w, Q1 w → Calls Try.prog 42 #[p, .int .i64 (f : Nat)] w fun e w' => e = .returned (.int .i64 (v : Nat)) ∧ Below w.heap.size w w'))
    (CP : Hid (∀ w, Q1 w → Calls Try.prog 66 #[p, .int .i64 (f : Nat), .int .i64 (v : Nat)] w fun e w' => e = .returned (.agg #[.int .i64 (l : Nat), .int .i64 (h : Nat)]) ∧ Below w.heap.size w w'))
    (D1 : Hid (∀ w, Q1 w → Calls Try.prog 54 #[p, .int .i64 (l : Nat), .map (some db)] w fun e w' => e = .returned (.tuple #[]) ∧ Q2 w' ∧ Keep (fun i => i = db) w w'))
    (D2 : Hid (∀ w, Q2 w → Calls Try.prog 54 #[p, .int .i64 (h : Nat), .map (some db)] w fun e w' => e = .returned (.tuple #[]) ∧ Q3 w' ∧ Keep (fun i => i = db) w w')) :
    Calls Try.prog 54 #[p, .int .i64 (f : Nat), .map (some db)] W fun e w' => e = .returned (.tuple #[]) ∧ Q3 w' ∧ Keep (fun i => i = db) W w' := by
  obtain ⟨l1, w1, l2, hQ, hO, l3⟩ := LK.out
  have HQ := Lib.hid hQ
  have K1 := Lib.hid (show Keep (fun i => i = db) W w1 from (Keep.refl _ _).only hO (fun _ => rfl))
  have x0 : ∀ w : World, (Instr.index 94 (.agg #[.int .i64 (l : Nat), .int .i64 (h : Nat)]) (.int .i64 0)).run Try.prog w = .ok (.int .i64 (l : Nat)) w := fun _ => by kernel_rfl
  have x1 : ∀ w : World, (Instr.index 94 (.agg #[.int .i64 (l : Nat), .int .i64 (h : Nat)]) (.int .i64 1)).run Try.prog w = .ok (.int .i64 (h : Nat)) w := fun _ => by kernel_rfl
  clear hQ hO LK
  go_enter Try.func54, Try.ntmps54
  go_wp2_with fail
  refine CH.out.mono ?_
  rintro e w' ⟨rfl, rfl⟩
  clear CH
  go_wp2_with fail
  refine (CL.out w1 HQ.out).mono ?_
  rintro e w2 ⟨rfl, hb⟩
  have Q_2 := Lib.hid (H1.out _ _ HQ.out hb)
  have K2 := Lib.hid (kp_below K1.out hb)
  clear hb HQ K1 CL l1 l2 l3
  go_wp2_with fail
  refine (CP.out w2 Q_2.out).mono ?_
  rintro e w3 ⟨rfl, hb⟩
  have Q_3 := Lib.hid (H1.out _ _ Q_2.out hb)
  have K3 := Lib.hid (kp_below K2.out hb)
  clear hb Q_2 K2 CP
  go_wp2_with fail
  refine wp_loop_rounds 3 ?_
  rw [rounds_succ]
  go_wp2_with fail
  refine (D1.out w3 Q_3.out).mono ?_
  rintro e w4 ⟨rfl, hQ, hk⟩
  have Q_4 := Lib.hid hQ
  have K4 := Lib.hid (kp_trans K3.out hk)
  clear hQ hk Q_3 K3 D1
  go_wp2_with fail
  rw [rounds_succ]
  go_wp2_with fail
  refine (D2.out w4 Q_4.out).mono ?_
  rintro e w5 ⟨rfl, hQ, hk⟩
  have Q_5 := Lib.hid hQ
  have K5 := Lib.hid (kp_trans K4.out hk)
  clear hQ hk Q_4 K4 D2
  go_wp2_with fail
  rw [rounds_succ]
  go_wp2
  refine bodyPost_end (v := .tuple #[]) (by simp [results, Try.results54]) rfl ?_
  exact ⟨rfl, Q_5.out, K5.out⟩
set_option maxRecDepth 100000 in
set_option maxHeartbeats 4000000 in
/-- Nodes, over whatever a visit does. -/
theorem nodes_core (p : Value) (fs : Nat → Int) (n b cap N : Nat) (hn : n ≤ 1000000) (Q : Nat → Nat → World → Prop) (W : World)
    (hr : Hid (∀ i, i < n → W.cell? ⟨b, i, none⟩ = some (.int .i64 (fs i)))) (hbl : Hid (0 < n → b < W.heap.size))
    (HM : Hid (∀ w1, Below W.heap.size W w1 → Q w1.heap.size 0 (w1.alloc (.map #[] 0))))
    (HV : Hid (∀ db k w, k < n → Q db k w → Calls Try.prog 54 #[p, .int .i64 (fs k), .map (some db)] w fun e w' => e = .returned (.tuple #[]) ∧ Q db (k + 1) w' ∧ Keep (fun i => i = db) w w'))
    (HL : Hid (∀ db w, Q db n w → ∀ ty, (Builtin.len_ #[101] ty #[.map (some db)]).run Try.prog w = .ok (.int .i64 (N : Nat)) w)) :
    Calls Try.prog 27 #[p, .slice (some ⟨b, 0, none⟩) n cap] W fun e w' => e = .returned (.int .i64 (N : Nat)) ∧ Below W.heap.size W w' := by
  have hmm := @run_makeMap Try.prog
  go_enter Try.func27, Try.ntmps27
  go_upto_region 2 with fail
  have hM := HM.out W (Below.refl _ _)
  refine at_code (S := fun w => Q W.heap.size 0 w ∧ Below W.heap.size W w) ⟨hM, bel_al (Below.refl _ _) _⟩ (fun w1 hW => ?_)
  obtain ⟨hQ, hb⟩ := hW
  have Q1 := Lib.hid hQ
  have B1 := Lib.hid hb
  have HN := Lib.hid hn
  clear hM HM hQ hb
  go_wp2_with fail
  go_loopw [11] (fun iv' wr => ∃ (k : Nat), iv' = .int .i64 (k : Nat) ∧ k ≤ n ∧ Hid (Q W.heap.size k wr) ∧ Hid (Below W.heap.size W wr)) (fun iv' _ => n - (intOf iv').toNat)
  case atStart => exact ⟨0, rfl, Nat.zero_le _, Q1, B1⟩
  case round =>
    obtain ⟨k, rfl, hk, Qk, Bk⟩ := hrel
    clear Q1 B1
    by_cases hkn : k < n
    · have hwk : IntKind.i64.wrap ((k : Int) + 1) = ((k + 1 : Nat) : Int) := by rw [IntKind.wrap_i64]; omega
      have c_k : wr.cell? ⟨b, k, none⟩ = some (.int .i64 (fs k)) := (Bk.out.cell (p := ⟨b, k, none⟩) (hbl.out (by omega))).trans (hr.out k hkn)
      go_wp2_with fail
      refine (HV.out W.heap.size k wr hkn Qk.out).mono ?_
      rintro e w2 ⟨rfl, hQ, hkp⟩
      have Q2 := Lib.hid hQ
      have B2 := Lib.hid (Bk.out.trans (hkp.below (n := W.heap.size) (by exact Bk.out.size) (fun i hi e => by omega)))
      clear hQ hkp Qk Bk c_k
      go_wp2_with fail
      refine ⟨⟨k + 1, ?_, by omega, Q2, B2⟩, by simp [intOf] <;> omega⟩
      first | rfl | rw [hwk]
    · have hkn' : k = n := by omega
      subst hkn'
      have hl := fun ty => HL.out W.heap.size wr Qk.out ty
      go_wp2
      go_ret
      exact ⟨rfl, Bk.out⟩
end Go.Proofs.Yteiemcnjcdjglaa
