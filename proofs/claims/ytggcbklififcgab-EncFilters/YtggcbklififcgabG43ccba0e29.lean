/- Texts joined, in their order: AX, E7, H12, HM, HB, E1, P3, E2, E3. -/
import Derived.Test.YtggcbklififcgabG280be5a7bd
import Derived.Test.YtggcbklififcgabGa789b297eb
import Derived.Lib.Hide
import Derived.Laws.Bits64b
import Derived.Lib.EndianBits
import Derived.Test.YtggcbklififcgabGb914f46262
import Derived.Below
import Derived.Deep.DeepCutAuto
import Derived.Deep.RegionHeld3
import Derived.Laws.OwnMore
import Derived.LoopN
import Derived.Lib.BitFns
/- Calls on an arena that lies beside some blocks: what they answer; that the blocks stay. -/
namespace Go.Proofs.Ytggcbklififcgab
open Go.RowKit
set_option linter.unusedVariables false

/-- An arena at p, beside the blocks Z. -/
def Sta (Z : Nat → Prop) (p : Nat) (W : World) (most : Nat) (ns : List Nd) : Prop := ∃ a : AL, a.p = p ∧ Ar W a most ns ∧ WF ns ∧ (∀ k, a.has k → ¬ Z k) ∧ ∀ k, Z k → k < W.heap.size
/-- The blocks Z stay. -/
abbrev Hold (Z : Nat → Prop) (W w' : World) : Prop := Keep (fun k => ¬ Z k) W w'
theorem Sta.wf {Z : Nat → Prop} {p : Nat} {W : World} {most : Nat} {ns : List Nd} (h : Sta Z p W most ns) : WF ns := by obtain ⟨a, -, -, q, -⟩ := h; exact q
theorem Sta.len {Z : Nat → Prop} {p : Nat} {W : World} {most : Nat} {ns : List Nd} (h : Sta Z p W most ns) : ns.length ≤ 262144 := by obtain ⟨a, -, q, -⟩ := h; exact q.len
theorem Sta.on {Z : Nat → Prop} {p : Nat} {W W' : World} {most : Nat} {ns : List Nd} (h : Sta Z p W most ns) (hb : Below W.heap.size W W') : Sta Z p W' most ns := by
  obtain ⟨a, h1, h2, h3, h4, h5⟩ := h
  exact ⟨a, h1, h2.on hb, h3, h4, fun k hk => by have := h5 k hk; have := hb.size; omega⟩
/-- New blocks are none of its. -/
theorem Sta.grow {Z : Nat → Prop} {p : Nat} {W W' : World} {most : Nat} {ns : List Nd} (h : Sta Z p W most ns) (hb : Below W.heap.size W W') {Y : Nat → Prop} (hY : ∀ k, Y k → W.heap.size ≤ k ∧ k < W'.heap.size) : Sta (fun k => Z k ∨ Y k) p W' most ns := by
  obtain ⟨a, h1, h2, h3, h4, h5⟩ := h
  refine ⟨a, h1, h2.on hb, h3, fun k hk q => ?_, fun k hk => ?_⟩
  · rcases q with q | q
    · exact h4 k hk q
    · have := (hY k q).1
      have a1 := h2.pl
      have a2 := h2.ql
      have a3 := h2.ml
      rcases hk with e | e | e <;> omega
  · rcases hk with q | q
    · have := h5 k q; have := hb.size; omega
    · exact (hY k q).2
theorem Sta.less {Z Z' : Nat → Prop} {p : Nat} {W : World} {most : Nat} {ns : List Nd} (h : Sta Z p W most ns) (hz : ∀ k, Z' k → Z k) : Sta Z' p W most ns := by
  obtain ⟨a, h1, h2, h3, h4, h5⟩ := h
  exact ⟨a, h1, h2, h3, fun k hk q => h4 k hk (hz k q), fun k hk => h5 k (hz k hk)⟩
theorem Hold.below {Z : Nat → Prop} {W w' : World} (h : Hold Z W w') {n : Nat} (hn : n ≤ W.heap.size) (hz : ∀ k, k < n → Z k) : Below n W w' := Keep.below h hn (fun k hk q => q (hz k hk))
theorem Hold.of {Z : Nat → Prop} {W w' : World} (h : Below W.heap.size W w') : Hold Z W w' := Keep.of h
theorem Hold.trans {Z : Nat → Prop} {a b c : World} (h : Hold Z a b) (k : Hold Z b c) : Hold Z a c := Keep.trans h k (fun _ _ q => q)
theorem Hold.less {Z Z' : Nat → Prop} {W w' : World} (h : Hold Z W w') (hz : ∀ k, Z' k → Z k) : Hold Z' W w' := Keep.mono h (fun i _ q r => q (hz i r))
theorem Hold.cell {Z : Nat → Prop} {W w' : World} (h : Hold Z W w') {b o : Nat} (hz : Z b) {v : Value} (hc : W.cell? ⟨b, o, none⟩ = some v) : w'.cell? ⟨b, o, none⟩ = some v := by
  have e := h.block b (cell_lt (o := o) (by rw [hc]; rfl)) (fun q => q hz)
  exact (World.cell?_of_block (w := W) (a := ⟨b, o, none⟩) e).trans hc
theorem Hold.frozen {Z : Nat → Prop} {W w' : World} (h : Hold Z W w') {b o : Nat} (hz : Z b) {v : Value} (hc : W.cell? ⟨b, o, none⟩ = some v) : w'.frozen? ⟨b, o, none⟩ = W.frozen? ⟨b, o, none⟩ := by
  have e := h.block b (cell_lt (o := o) (by rw [hc]; rfl)) (fun q => q hz)
  exact World.frozen?_of_block (w := W) (a := ⟨b, o, none⟩) e
theorem Hold.blk {Z : Nat → Prop} {W w' : World} (h : Hold Z W w') {b : Nat} (hz : Z b) {c : Value} {cs : List Value} (hc : Blk W b (c :: cs)) : Blk w' b (c :: cs) := Keep.blk h hc (fun q => q hz)
/-- What a call answers, and that it leaves the arena and the blocks. -/
def Got2 (Z : Nat → Prop) (p most : Nat) (R : Option Nat × List Nd) (W : World) (e : Ending) (w' : World) : Prop :=
  e = .returned (.tuple #[.int .i64 (rv R.1 : Nat), .int .i64 (er R.1)]) ∧ Sta Z p w' most R.2 ∧ Hold Z W w'
theorem got2_of {Z : Nat → Prop} {most : Nat} {R : Option Nat × List Nd} {W : World} {a : AL} {e : Ending} {w' : World} (h4 : ∀ k, a.has k → ¬ Z k) (h5 : ∀ k, Z k → k < W.heap.size) (hw : WF R.2) (h : Ans most R W a e w') : Got2 Z a.p most R W e w' := by
  obtain ⟨rfl, a', hA, hT⟩ := h
  refine ⟨rfl, ⟨a', hT.m.1, hA, hw, fun k hk q => ?_, fun k hk => by have := h5 k hk; have := hT.k.size; omega⟩, hT.k.mono (fun i _ q => q.elim (fun r => h4 i r) (fun r => r.elim))⟩
  exact h4 k (hT.m.has (h5 k q) hk) q
section
variable {Z : Nat → Prop} {p most : Nat} {W : World} {ns : List Nd}
theorem sJoin (h : Sta Z p W most ns) (kind f g : Nat) (hk : kind ≤ 3) (hf : f < ns.length) (hg : g < ns.length) : Calls Try.prog 22 #[.pointer (some ⟨p, 0, none⟩), .int .i64 (kind : Nat), .int .i64 (f : Nat), .int .i64 (g : Nat)] W (Got2 Z p most (jF kind most ns f g) W) := by
  obtain ⟨a, rfl, h2, h3, h4, h5⟩ := h
  exact (joinJ_any kind most ns f g W a h2 h3 hk hf hg).mono fun _ _ => got2_of h4 h5 (got_join kind most h3 hf hg).wf
/-- Bits that lie in a block of Z. -/
theorem sCube (h : Sta Z p W most ns) (l : List (Nat × Bool)) (hr : Rise l) (b cap : Nat) (hl : LitC W b (natL l)) (hb : Z b) : Calls Try.prog 30 #[.pointer (some ⟨p, 0, none⟩), .slice (some ⟨b, 0, none⟩) l.length cap] W (Got2 Z p most (cF most ns l) W) := by
  obtain ⟨a, rfl, h2, h3, h4, h5⟩ := h
  exact (cubeJ_any a most ns l W h2 h3 hr b cap hl (h5 b hb) ⟨fun e => h4 b (Or.inl e) hb, fun e => h4 b (Or.inr (Or.inl e)) hb, fun e => h4 b (Or.inr (Or.inr e)) hb, fun q => q⟩).mono fun _ _ => got2_of h4 h5 (got_cube most h3 _ hr.1 hr.2).wf
theorem sCut (h : Sta Z p W most ns) (n : Int) : Calls Try.prog 57 #[.pointer (some ⟨p, 0, none⟩), .int .i64 n] W fun e w' => e = .returned (.tuple #[]) ∧ Sta Z p w' most (ns.take (max n.toNat 2)) ∧ Hold Z W w' := by
  obtain ⟨a, rfl, h2, h3, h4, h5⟩ := h
  refine (cut_any a most ns n W h2 h3).mono ?_
  rintro e w' ⟨rfl, hA, hT⟩
  exact ⟨rfl, ⟨a, rfl, hA, h3.take _ (by omega), h4, fun k hk => by have := h5 k hk; have := hT.k.size; omega⟩, hT.k.mono (fun i _ q => q.elim (fun r => h4 i r) (fun r => r.elim))⟩
theorem sLen (h : Sta Z p W most ns) : Calls Try.prog 20 #[.pointer (some ⟨p, 0, none⟩)] W fun e w' => e = .returned (.int .i64 (ns.length : Nat)) ∧ W = w' := by
  obtain ⟨a, rfl, h2, h3, h4, h5⟩ := h
  exact len_any a most ns W h2
theorem sHas (h : Sta Z p W most ns) (f : Int) : Calls Try.prog 33 #[.pointer (some ⟨p, 0, none⟩), .int .i64 f] W fun e w' => e = .returned (.bool (hasB ns.length f)) ∧ W = w' := by
  obtain ⟨a, rfl, h2, h3, h4, h5⟩ := h
  exact has_any a most ns f W h2
theorem sIn (h : Sta Z p W most ns) (f d s q x y : Nat) (hh : HB d s q x y) (hf : f < ns.length) : Calls Try.prog 12 #[.pointer (some ⟨p, 0, none⟩), .int .i64 (f : Nat), hv d s q x y] W fun e w' => e = .returned (.bool (ev ns (hE d s q x y) f)) ∧ Below W.heap.size W w' := by
  obtain ⟨a, rfl, h2, h3, h4, h5⟩ := h
  exact in_any a most ns f d s q x y hh W h2 h3 hf
end
/-- A new arena lies beside all that there was. -/
theorem sNew (most : Nat) (h2 : 2 ≤ most) (hm : most ≤ 262144) (w : World) : Calls Try.prog 8 #[.int .i64 (most : Nat)] w fun e w' => ∃ p, e = .returned (.tuple #[.pointer (some ⟨p, 0, none⟩), .int .i64 0]) ∧ Sta (fun k => k < w.heap.size) p w' most [bot, top] ∧ Below w.heap.size w w' := by
  refine (new_any most h2 hm w).mono ?_
  rintro e w' ⟨a, rfl, hA, hb, h1, h2, h3⟩
  exact ⟨a.p, rfl, ⟨a, rfl, hA, wf_new, fun k hk q => by rcases hk with e | e | e <;> omega, fun k hk => by have := hb.size; omega⟩, hb⟩
end Go.Proofs.Ytggcbklififcgab
/- What all sets have that are made, one behind the other: whole or not at all. -/
namespace Go.Proofs.Ytggcbklififcgab
open Go.RowKit
set_option linter.unusedVariables false

theorem got2_cases {Z : Nat → Prop} {p most : Nat} {R : Option Nat × List Nd} {W : World} {e : Ending} {w' : World} (h : Got2 Z p most R W e w') :
    (R.1 = none ∧ e = .returned (.tuple #[.int .i64 0, .int .i64 20]) ∧ Sta Z p w' most R.2 ∧ Hold Z W w') ∨ (∃ q, R.1 = some q ∧ e = .returned (.tuple #[.int .i64 (q : Nat), .int .i64 0]) ∧ Sta Z p w' most R.2 ∧ Hold Z W w') := by
  obtain ⟨h1, h2, h3⟩ := h
  cases hr : R.1 with
  | none => rw [hr] at h1; exact Or.inl ⟨rfl, h1, h2, h3⟩
  | some q => rw [hr] at h1; exact Or.inr ⟨q, rfl, h1, h2, h3⟩
/-- One maker's call, and the join behind it. -/
def MkStep (Z : Nat → Prop) (p most : Nat) (W : World) (A' : List Nd → Nat → Prop) (Full : Prop) (ns : List Nd) (f : Nat) (W' : World) (e : Ending) (w' : World) : Prop :=
  ∃ R, Got2 Z p most R W' e w' ∧ Ext ns R.2 ∧ (R.1 = none → Full) ∧ ∀ g, R.1 = some g → g < R.2.length ∧ f < R.2.length ∧ ((jF 0 most R.2 f g).1 = none → Full) ∧ ∀ q, (jF 0 most R.2 f g).1 = some q → A' (jF 0 most R.2 f g).2 q
def MeetRet (Z : Nat → Prop) (p most : Nat) (W : World) (A' : List Nd → Nat → Prop) (Full : Prop) (ns0 : List Nd) (e : Ending) (w' : World) : Prop :=
  ∃ R, Got2 Z p most R W e w' ∧ (R.1 = none → R.2 = ns0 ∧ Full) ∧ ∀ q, R.1 = some q → A' R.2 q
set_option maxRecDepth 100000 in
set_option maxHeartbeats 4000000 in
theorem meet_core {Z : Nat → Prop} {p most : Nat} {W : World} {ns0 : List Nd} (S0 : Sta Z p W most ns0) (n : Nat) (hn : n ≤ 10) (ms : Nat → Nat × Array Value) (b cap : Nat) (hb : Z b)
    (hC : ∀ i, i < n → W.cell? ⟨b, i, none⟩ = some (.func (.func (ms i).1) #[] (ms i).2)) (A : Nat → List Nd → Nat → Prop) (Full : Prop) (hA0 : A 0 ns0 1)
    (hAf : ∀ k ns f, A k ns f → Ext ns0 ns)
    (step : ∀ k, k < n → ∀ ns f W', A k ns f → Sta Z p W' most ns → Hold Z W W' → Calls Try.prog (ms k).1 (ms k).2 W' (MkStep Z p most W (A (k + 1)) Full ns f W'))
    (eg : ∀ k, k < n → ∀ args w, (callFunc (ms k).1 args).run Try.prog w = .ok (.enter (ms k).1 args) w) :
    Calls Try.prog 36 #[.pointer (some ⟨p, 0, none⟩), .slice (some ⟨b, 0, none⟩) n cap] W (MeetRet Z p most W (A n) Full ns0) := by
  have C0 := Lib.hid (sLen S0)
  have HS0 := Lib.hid S0
  have HC := Lib.hid hC
  have HF := Lib.hid hAf
  have H0 := Lib.hid hA0
  have ST := Lib.hid step
  have EG := Lib.hid eg
  have l0 : 2 ≤ ns0.length := S0.wf.len
  unfold MeetRet
  clear S0 hC hAf hA0 step eg
  go_enter Try.func36, Try.ntmps36
  go_wp2_with fail
  refine C0.out.mono ?_
  rintro e w' ⟨rfl, rfl⟩
  clear C0
  go_wp2_with fail
  go_loopw [7, 16] (fun fv iv wr => ∃ (k : Nat) (ns : List Nd) (f : Nat), fv = .int .i64 (f : Nat) ∧ iv = .int .i64 (k : Nat) ∧ k ≤ n ∧ Hid (A k ns f) ∧ Hid (Sta Z p wr most ns) ∧ Hid (Hold Z W wr)) (fun _ iv _ => n - (intOf iv).toNat)
  case atStart => exact ⟨0, ns0, 1, rfl, rfl, Nat.zero_le _, H0, HS0, Lib.hid (Keep.refl _ _)⟩
  case round =>
    obtain ⟨k, ns, f, rfl, rfl, hk, hA, hS, hH⟩ := hrel
    by_cases hkn : k < n
    · have c0 : wr.cell? ⟨b, k, none⟩ = some (.func (.func (ms k).1) #[] (ms k).2) := hH.out.cell hb (HC.out k hkn)
      have CS := Lib.hid (ST.out k hkn ns f wr hA.out hS.out hH.out)
      have eg := EG.out k hkn
      have HX := Lib.hid (HF.out k ns f hA.out)
      have hwk : IntKind.i64.wrap ((k : Int) + 1) = ((k + 1 : Nat) : Int) := by rw [IntKind.wrap_i64]; omega
      have hki : (k : Int) < (n : Int) := by omega
      unfold MkStep at CS
      generalize (ms k).1 = fn at c0 CS eg
      generalize (ms k).2 = cp at c0 CS
      clear ST
      go_wp2_with fail
      refine CS.out.mono ?_
      rintro e w2 ⟨R, hG, hx, hnone, hsome⟩
      have HX2 := Lib.hid (HX.out.trans hx)
      rcases got2_cases hG with ⟨hr, rfl, hS2, hH2⟩ | ⟨g, hr, rfl, hS2, hH2⟩
      · have FU := Lib.hid (hnone hr)
        have H2 := Lib.hid (hH.out.trans hH2)
        have CU := sCut hS2 (ns0.length : Nat)
        have htk : R.2.take (max ((ns0.length : Nat) : Int).toNat 2) = ns0 := by rw [show max ((ns0.length : Nat) : Int).toNat 2 = ns0.length by omega]; exact HX2.out.take
        rw [htk] at CU
        have CC := Lib.hid CU
        clear CS hG hx hnone hsome hr hS2 hH2 CU htk
        go_wp2_with fail
        refine CC.out.mono ?_
        rintro e w3 ⟨rfl, hS3, hH3⟩
        have F3 := Lib.hid (And.intro hS3 (H2.out.trans hH3))
        clear hS3 hH3
        go_wp2
        go_ret2
        exact ⟨(none, ns0), ⟨rfl, F3.out.1, F3.out.2⟩, fun _ => ⟨rfl, FU.out⟩, fun q hq => by cases hq⟩
      · obtain ⟨hg, hf, hjn, hjs⟩ := hsome g hr
        have H2 := Lib.hid (hH.out.trans hH2)
        have CJ := Lib.hid (sJoin hS2 0 f g (by omega) hf hg)
        have JN := Lib.hid hjn
        have JS := Lib.hid hjs
        obtain ⟨RJ, hRJ⟩ : ∃ RJ, jF 0 most R.2 f g = RJ := ⟨_, rfl⟩
        have hxj : Ext R.2 RJ.2 := by rw [← hRJ]; exact (got_join 0 most hS2.wf hf hg).ext
        have HX3 := Lib.hid (HX2.out.trans hxj)
        rw [hRJ] at CJ JN JS
        clear CS hG hx hnone hsome hr hS2 hH2 hg hf hjn hjs hRJ hxj
        go_wp2_with fail
        refine CJ.out.mono ?_
        rintro e w3 hG
        rcases got2_cases hG with ⟨hr, rfl, hS3, hH3⟩ | ⟨q, hr, rfl, hS3, hH3⟩
        · have FU := Lib.hid (JN.out hr)
          have H3 := Lib.hid (H2.out.trans hH3)
          have CU := sCut hS3 (ns0.length : Nat)
          have htk : RJ.2.take (max ((ns0.length : Nat) : Int).toNat 2) = ns0 := by rw [show max ((ns0.length : Nat) : Int).toNat 2 = ns0.length by omega]; exact HX3.out.take
          rw [htk] at CU
          have CC := Lib.hid CU
          clear CJ hG hr hS3 hH3 CU htk
          go_wp2_with fail
          refine CC.out.mono ?_
          rintro e w4 ⟨rfl, hS4, hH4⟩
          have F4 := Lib.hid (And.intro hS4 (H3.out.trans hH4))
          clear hS4 hH4
          go_wp2
          go_ret2
          exact ⟨(none, ns0), ⟨rfl, F4.out.1, F4.out.2⟩, fun _ => ⟨rfl, FU.out⟩, fun q hq => by cases hq⟩
        · have A3 := Lib.hid (JS.out q hr)
          have S3 := Lib.hid hS3
          have H3 := Lib.hid (H2.out.trans hH3)
          clear CJ hG hr hS3 hH3
          go_wp2_with fail
          refine ⟨⟨k + 1, RJ.2, q, rfl, ?_, by omega, A3, S3, H3⟩, by simp [intOf] <;> omega⟩
          first | rfl | rw [hwk]
    · have hkn' : k = n := by omega
      subst hkn'
      go_wp2
      go_ret2
      exact ⟨(some f, ns), ⟨rfl, hS.out, hH.out⟩, (fun q => by cases q), (fun q hq => by cases hq; exact hA.out)⟩
end Go.Proofs.Ytggcbklififcgab
/- The document's 'number': so many bits from a place on. -/
namespace Go.Proofs.Ytggcbklififcgab
open Go.RowKit
set_option linter.unusedVariables false

/-- So many bits from a place on, the highest first. -/
def numB (B : Nat → Bool) (p : Nat) : Nat → Nat
  | 0 => 0
  | k + 1 => numB B p k * 2 + (B (p + k)).toNat
theorem numB_lt (B : Nat → Bool) (p : Nat) : ∀ k, numB B p k < 2 ^ k
  | 0 => by simp [numB]
  | k + 1 => by
    have := numB_lt B p k
    have h : (B (p + k)).toNat ≤ 1 := Bool.toNat_le _
    rw [numB, Nat.pow_succ]; omega
theorem numB_lt32 (B : Nat → Bool) (p k : Nat) (h : k ≤ 31) : numB B p k < 2147483648 := by
  have := numB_lt B p k
  have h2 : 2 ^ k ≤ 2 ^ 31 := Nat.pow_le_pow_right (by decide) h
  rw [show (2 : Nat) ^ 31 = 2147483648 from by decide] at h2
  omega
end Go.Proofs.Ytggcbklififcgab
/- Plain: words of bits: one bit set, or not. No program in sight. -/
namespace Go.Proofs.Ytggcbklififcgab
set_option linter.unusedVariables false

/-- A word without a mask's bits; with or without them. -/
def clr (a m : Nat) : Nat := a ^^^ (a &&& m)
def wo (a m : Nat) (on : Bool) : Nat := if on then a ||| m else clr a m
theorem clr_bit (a m j : Nat) : (clr a m).testBit j = (a.testBit j && !m.testBit j) := by
  unfold clr; rw [Nat.testBit_xor, Nat.testBit_and]; cases a.testBit j <;> cases m.testBit j <;> rfl
theorem wo_bit (a m j : Nat) (on : Bool) : (wo a m on).testBit j = if m.testBit j then on else a.testBit j := by
  unfold wo; cases on
  · simp only [Bool.false_eq_true, if_false, clr_bit]; cases a.testBit j <;> cases m.testBit j <;> rfl
  · simp only [if_true, Nat.testBit_or]; cases a.testBit j <;> cases m.testBit j <;> rfl
theorem clr_or (a m : Nat) : clr a m ||| m = a ||| m := by
  apply Nat.eq_of_testBit_eq; intro j
  rw [Nat.testBit_or, Nat.testBit_or, clr_bit]; cases a.testBit j <;> cases m.testBit j <;> rfl
theorem wo_zero (a : Nat) (on : Bool) : wo a 0 on = a := by
  apply Nat.eq_of_testBit_eq; intro j
  rw [wo_bit, Nat.zero_testBit]; rfl
theorem wo_lt (a m j : Nat) (on : Bool) (ha : a < 2 ^ j) (hm : m < 2 ^ j) : wo a m on < 2 ^ j := by
  unfold wo; cases on
  · exact Nat.xor_lt_two_pow ha (Nat.lt_of_le_of_lt Nat.and_le_left ha)
  · exact Nat.or_lt_two_pow ha hm
theorem and_pow (a j : Nat) : decide ((a &&& 2 ^ j) ≠ 0) = a.testBit j := by
  cases hb : a.testBit j
  · have e : a &&& 2 ^ j = 0 := by
      apply Nat.eq_of_testBit_eq; intro q
      rw [Nat.testBit_and, Nat.testBit_two_pow, Nat.zero_testBit]
      by_cases h : j = q
      · subst h; rw [hb]; rfl
      · simp [h]
    rw [e]; rfl
  · refine decide_eq_true (fun e => ?_)
    have h := congrArg (fun n => Nat.testBit n j) e
    simp [hb] at h
/-- What is flipped once and again is what it was. -/
theorem wo_back (a m : Nat) (j : Nat) (hm : m = 2 ^ j) (on : Bool) : wo (wo a m on) m (a.testBit j) = a := by
  subst hm
  apply Nat.eq_of_testBit_eq; intro q
  rw [wo_bit, wo_bit, Nat.testBit_two_pow]
  by_cases h : j = q
  · subst h; simp
  · simp [h]
theorem wo_same (a j : Nat) : wo a (2 ^ j) (a.testBit j) = a := by
  apply Nat.eq_of_testBit_eq; intro q
  rw [wo_bit, Nat.testBit_two_pow]
  by_cases h : j = q
  · subst h; simp
  · simp [h]
theorem wo_at (a j : Nat) (on : Bool) : (wo a (2 ^ j) on).testBit j = on := by rw [wo_bit, Nat.testBit_two_pow_self]; rfl
theorem wo_up (a j : Nat) (h : a.testBit j = false) : a < wo a (2 ^ j) true := by
  have h1 : a ≤ wo a (2 ^ j) true := by unfold wo; exact Nat.left_le_or
  have h2 : a ≠ wo a (2 ^ j) true := fun e => by
    have := wo_at a j true
    rw [← e, h] at this; cases this
  omega
theorem wo_down (a j : Nat) (h : a.testBit j = true) : wo a (2 ^ j) false < a := by
  have e : wo (wo a (2 ^ j) false) (2 ^ j) true = a := by
    have := wo_back a (2 ^ j) j rfl false
    rwa [h] at this
  have h1 := wo_up (wo a (2 ^ j) false) j (wo_at a j false)
  rw [e] at h1
  exact h1
theorem bits_andNot_u64 (a m : Nat) (ha : a < 18446744073709551616) (hm : m < 18446744073709551616) : bits .andNot .u64 (a : Int) (m : Int) = (clr a m : Int) := by
  unfold bits
  have hc : clr a m < 18446744073709551616 := Nat.xor_lt_two_pow (n := 64) (by simpa using ha) (Nat.lt_of_le_of_lt Nat.and_le_left (by simpa using ha))
  have e : (BitVec.ofInt 64 (a : Int) &&& ~~~BitVec.ofInt 64 (m : Int)).toNat = clr a m := by
    rw [BitVec.ofInt_natCast, BitVec.ofInt_natCast]
    apply Nat.eq_of_testBit_eq; intro j
    rw [clr_bit, BitVec.testBit_toNat, BitVec.getLsbD_and, BitVec.getLsbD_not, BitVec.getLsbD_ofNat, BitVec.getLsbD_ofNat]
    by_cases h : j < 64
    · simp [h]
    · have : a.testBit j = false := Nat.testBit_lt_two_pow (Nat.lt_of_lt_of_le ha (by rw [show (18446744073709551616 : Nat) = 2 ^ 64 from by decide]; exact Nat.pow_le_pow_right (by omega) (by omega)))
      simp [h, this]
  show IntKind.u64.wrap (((BitVec.ofInt 64 (a : Int) &&& ~~~BitVec.ofInt 64 (m : Int)).toNat : Nat) : Int) = _
  rw [e]
  exact u64_wrap_id _ (by omega) (by omega)
end Go.Proofs.Ytggcbklififcgab
/- Headers by their two words and their bits. No program in sight. -/
namespace Go.Proofs.Ytggcbklififcgab
open Go.RowKit
set_option linter.unusedVariables false

/-- Two words that are a header's. -/
structure WB (a b : Nat) : Prop where
  a : a < 18446744073709551616
  b : b < 1099511627776
def fd (a : Nat) : Nat := a / 4294967296
def fs (a : Nat) : Nat := a % 4294967296
def fx (b : Nat) : Nat := b / 65536 % 65536
def fy (b : Nat) : Nat := b % 65536
/-- The header of two words. -/
abbrev hw (a b : Nat) : Value := hv (fd a) (fs a) (fd b) (fx b) (fy b)
theorem WB.hb {a b : Nat} (h : WB a b) : HB (fd a) (fs a) (fd b) (fx b) (fy b) := by
  obtain ⟨h1, h2⟩ := h
  exact ⟨by unfold fd; omega, by unfold fs; omega, by unfold fd; omega, by unfold fx; omega, by unfold fy; omega⟩
theorem pa_w (a : Nat) : pa (fd a) (fs a) = a := by unfold pa fd fs; omega
theorem pb_w (b : Nat) : pb (fd b) (fx b) (fy b) = b := by unfold pb fd fx fy; omega
theorem mb_lt40 (i : Int) : mb i < 1099511627776 := by
  unfold mb; split
  · have := Nat.pow_lt_pow_right (a := 2) (by omega) (show 103 - i.toNat < 40 by omega)
    rwa [show (2 : Nat) ^ 40 = 1099511627776 from by decide] at this
  · omega
theorem WB.wo {a b : Nat} (h : WB a b) (i : Int) (on : Bool) : WB (wo a (ma i) on) (wo b (mb i) on) :=
  ⟨wo_lt a _ 64 on (by simpa using h.a) (by simpa using ma_lt i), wo_lt b _ 40 on (by simpa using h.b) (by simpa using mb_lt40 i)⟩
/-- The bit of two words. -/
def tb (a b : Nat) (i : Int) : Bool := decide ((a &&& ma i) ≠ 0) || decide ((b &&& mb i) ≠ 0)
theorem ma_in (k : Nat) (h : k < 64) : ma k = 2 ^ (63 - k) := by unfold ma; rw [if_pos (by omega)]; rfl
theorem mb_in (k : Nat) (h : 64 ≤ k) (h' : k < 104) : mb k = 2 ^ (103 - k) := by unfold mb; rw [if_pos (by omega)]; rfl
theorem ma_out (k : Nat) (h : 64 ≤ k) : ma k = 0 := by unfold ma; rw [if_neg (by omega)]
theorem mb_out (k : Nat) (h : k < 64) : mb k = 0 := by unfold mb; rw [if_neg (by omega)]
theorem tb_lo (a b k : Nat) (h : k < 64) : tb a b k = a.testBit (63 - k) := by
  unfold tb; rw [ma_in k h, mb_out k h, and_pow, Nat.and_zero]; simp
theorem tb_hi (a b k : Nat) (h : 64 ≤ k) (h' : k < 104) : tb a b k = b.testBit (103 - k) := by
  unfold tb; rw [ma_out k h, mb_in k h h', and_pow, Nat.and_zero]; simp
theorem tb_flip (a b k : Nat) (h : k < 104) (on : Bool) : tb (wo a (ma k) on) (wo b (mb k) on) k = on := by
  by_cases c : k < 64
  · rw [tb_lo _ _ k c, ma_in k c, wo_at]
  · rw [tb_hi _ _ k (by omega) h, mb_in k (by omega) h, wo_at]
/-- The bits of a number, the highest first, as cells. -/
def bitVals (n : Nat) : Nat → List Value
  | 0 => []
  | k + 1 => .bool (n.testBit k) :: bitVals n k
theorem bitVals_length (n : Nat) : ∀ k, (bitVals n k).length = k
  | 0 => rfl
  | k + 1 => by simp [bitVals, bitVals_length n k]
theorem bitVals_get (n : Nat) : ∀ (k j : Nat), j < k → (bitVals n k)[j]? = some (.bool (n.testBit (k - 1 - j)))
  | 0, _, h => by omega
  | k + 1, 0, _ => by simp [bitVals]
  | k + 1, j + 1, h => by
    rw [bitVals, List.getElem?_cons_succ, bitVals_get n k j (by omega), show k + 1 - 1 - (j + 1) = k - 1 - j by omega]
theorem bit_div (n i : Nat) : n.testBit i = decide (n / 2 ^ i % 2 = 1) := Nat.testBit_eq_decide_div_mod_eq
/-- All cells of a header's bits. -/
def bitsW (a b : Nat) : List Value := bitVals (fd a) 32 ++ bitVals (fs a) 32 ++ bitVals (fd b) 8 ++ bitVals (fx b) 16 ++ bitVals (fy b) 16
theorem bitsW_length (a b : Nat) : (bitsW a b).length = 104 := by simp [bitsW, bitVals_length]
theorem bitsW_get (a b j : Nat) (hb : b < 1099511627776) (hj : j < 104) : (bitsW a b)[j]? = some (.bool (tb a b j)) := by
  unfold bitsW
  have p32 : (4294967296 : Nat) = 2 ^ 32 := by decide
  have p16 : (65536 : Nat) = 2 ^ 16 := by decide
  by_cases h1 : j < 32
  · rw [List.getElem?_append_left (by simp [bitVals_length]; omega), List.getElem?_append_left (by simp [bitVals_length]; omega), List.getElem?_append_left (by simp [bitVals_length]; omega), List.getElem?_append_left (by simp [bitVals_length]; omega)]
    rw [bitVals_get _ _ _ h1, tb_lo a b j (by omega)]
    unfold fd
    rw [p32, Nat.testBit_div_two_pow, show 32 - 1 - j + 32 = 63 - j by omega]
  · by_cases h2 : j < 64
    · rw [List.getElem?_append_left (by simp [bitVals_length]; omega), List.getElem?_append_left (by simp [bitVals_length]; omega), List.getElem?_append_left (by simp [bitVals_length]; omega), List.getElem?_append_right (by simp [bitVals_length]; omega)]
      rw [bitVals_length, bitVals_get _ _ _ (by omega), tb_lo a b j (by omega)]
      unfold fs
      rw [p32, Nat.testBit_mod_two_pow, show 32 - 1 - (j - 32) = 63 - j by omega, decide_eq_true (by omega), Bool.true_and]
    · by_cases h3 : j < 72
      · rw [List.getElem?_append_left (by simp [bitVals_length]; omega), List.getElem?_append_left (by simp [bitVals_length]; omega), List.getElem?_append_right (by simp [bitVals_length]; omega)]
        rw [List.length_append, bitVals_length, bitVals_length, bitVals_get _ _ _ (by omega), tb_hi a b j (by omega) (by omega)]
        unfold fd
        rw [p32, Nat.testBit_div_two_pow, show 8 - 1 - (j - (32 + 32)) + 32 = 103 - j by omega]
      · by_cases h4 : j < 88
        · rw [List.getElem?_append_left (by simp [bitVals_length]; omega), List.getElem?_append_right (by simp [bitVals_length]; omega)]
          rw [List.length_append, List.length_append, bitVals_length, bitVals_length, bitVals_length, bitVals_get _ _ _ (by omega), tb_hi a b j (by omega) (by omega)]
          unfold fx
          rw [p16, Nat.testBit_mod_two_pow, Nat.testBit_div_two_pow, show 16 - 1 - (j - (32 + 32 + 8)) + 16 = 103 - j by omega, decide_eq_true (by omega), Bool.true_and]
        · rw [List.getElem?_append_right (by simp [bitVals_length]; omega)]
          rw [List.length_append, List.length_append, List.length_append, bitVals_length, bitVals_length, bitVals_length, bitVals_length, bitVals_get _ _ _ (by omega), tb_hi a b j (by omega) (by omega)]
          unfold fy
          rw [p16, Nat.testBit_mod_two_pow, show 16 - 1 - (j - (32 + 32 + 8 + 16)) = 103 - j by omega, decide_eq_true (by omega), Bool.true_and]
theorem half (a n : Nat) : a / 2 ^ n = 2 * (a / 2 ^ (n + 1)) + (a.testBit n).toNat := by
  rw [Nat.pow_succ, ← Nat.div_div_eq_div_mul, bit_div]
  generalize a / 2 ^ n = x
  by_cases h : x % 2 = 1
  · rw [decide_eq_true h]; simp; omega
  · rw [decide_eq_false h]; simp; omega
/-- So many bits of a word, from a place on, are the word's part. -/
theorem numB_word (B : Nat → Bool) (a N p : Nat) : ∀ k, p + k ≤ N → (∀ j, j < k → B (p + j) = a.testBit (N - 1 - (p + j))) → numB B p k = a / 2 ^ (N - p - k) % 2 ^ k
  | 0, _, _ => by simp [numB, Nat.mod_one]
  | k + 1, h, hB => by
    rw [numB, numB_word B a N p k (by omega) (fun j hj => hB j (by omega)), hB k (by omega)]
    have e := half a (N - p - (k + 1))
    rw [show N - p - (k + 1) + 1 = N - p - k by omega] at e
    rw [e, show N - 1 - (p + k) = N - p - (k + 1) by omega, Nat.pow_succ, Nat.mul_comm (2 ^ k) 2]
    generalize a / 2 ^ (N - p - k) = x
    have hd : (a.testBit (N - p - (k + 1))).toNat ≤ 1 := Bool.toNat_le _
    generalize (a.testBit (N - p - (k + 1))).toNat = y at *
    have h2 : (2 * x + y) % (2 * 2 ^ k) = (2 * x + y) % 2 + 2 * ((2 * x + y) / 2 % 2 ^ k) := Nat.mod_mul
    rw [h2, show (2 * x + y) / 2 = x by omega]
    omega
/-- The five numbers of bits that are a header's. -/
theorem back_nums (B : Nat → Bool) (a b : Nat) (h : WB a b) (hB : ∀ j, j < 104 → B j = tb a b j) :
    numB B 0 32 = fd a ∧ numB B 32 32 = fs a ∧ numB B 64 8 = fd b ∧ numB B 72 16 = fx b ∧ numB B 88 16 = fy b := by
  obtain ⟨h1, h2⟩ := h
  have q32 : (2 : Nat) ^ 32 = 4294967296 := by decide
  have q16 : (2 : Nat) ^ 16 = 65536 := by decide
  have q8 : (2 : Nat) ^ 8 = 256 := by decide
  refine ⟨?_, ?_, ?_, ?_, ?_⟩
  · rw [numB_word B a 64 0 32 (by omega) (fun j hj => by rw [hB _ (by omega), tb_lo a b _ (by omega)])]
    unfold fd; rw [show 64 - 0 - 32 = 32 by omega, q32]; omega
  · rw [numB_word B a 64 32 32 (by omega) (fun j hj => by rw [hB _ (by omega), tb_lo a b _ (by omega)])]
    unfold fs; rw [show 64 - 32 - 32 = 0 by omega, q32, Nat.pow_zero, Nat.div_one]
  · rw [numB_word B b 104 64 8 (by omega) (fun j hj => by rw [hB _ (by omega), tb_hi a b _ (by omega) (by omega)])]
    unfold fd; rw [show 104 - 64 - 8 = 32 by omega, q32, q8]; omega
  · rw [numB_word B b 104 72 16 (by omega) (fun j hj => by rw [hB _ (by omega), tb_hi a b _ (by omega) (by omega)])]
    unfold fx; rw [show 104 - 72 - 16 = 16 by omega, q16]
  · rw [numB_word B b 104 88 16 (by omega) (fun j hj => by rw [hB _ (by omega), tb_hi a b _ (by omega) (by omega)])]
    unfold fy; rw [show 104 - 88 - 16 = 0 by omega, q16, Nat.pow_zero, Nat.div_one]
/-- With bit i set, or not: the other bits are as they were. -/
theorem tb_wo (a b i j : Nat) (on : Bool) (hi : i < 104) (hj : j < 104) : tb (wo a (ma i) on) (wo b (mb i) on) j = if j = i then on else tb a b j := by
  by_cases e : j = i
  · subst e; rw [if_pos rfl, tb_flip a b j hj]
  · rw [if_neg e]
    by_cases c : j < 64
    · rw [tb_lo _ _ j c, tb_lo _ _ j c, wo_bit]
      by_cases d : i < 64
      · rw [ma_in i d, Nat.testBit_two_pow, decide_eq_false (by omega)]; rfl
      · rw [ma_out i (by omega), Nat.zero_testBit]; rfl
    · rw [tb_hi _ _ j (by omega) hj, tb_hi _ _ j (by omega) hj, wo_bit]
      by_cases d : i < 64
      · rw [mb_out i d, Nat.zero_testBit]; rfl
      · rw [mb_in i (by omega) hi, Nat.testBit_two_pow, decide_eq_false (by omega)]; rfl
end Go.Proofs.Ytggcbklififcgab
/- The first bits of a header, as they are set. -/
namespace Go.Proofs.Ytggcbklififcgab
open Go.RowKit
set_option linter.unusedVariables false

/-- The cells of bits. -/
def litCells (l : List (Int × Bool)) : List Value := l.flatMap fun p => [.int .i64 p.1, .bool p.2]
theorem litCells_append (a b : List (Int × Bool)) : litCells (a ++ b) = litCells a ++ litCells b := by unfold litCells; rw [List.flatMap_append]
theorem litCells_get : ∀ (L : List (Int × Bool)) (i : Nat) (x : Int × Bool), L[i]? = some x → (litCells L)[i * 2]? = some (.int .i64 x.1) ∧ (litCells L)[i * 2 + 1]? = some (.bool x.2)
  | [], i, x, h => by simp at h
  | y :: r, 0, x, h => by simp at h; subst h; simp [litCells]
  | y :: r, i + 1, x, h => by
    have := litCells_get r i x (by simpa using h)
    rw [show (i + 1) * 2 = i * 2 + 1 + 1 by omega, show i * 2 + 1 + 1 + 1 = (i * 2 + 1) + 1 + 1 by omega]
    simpa [litCells] using this
/-- So many bits of a header from one on. -/
def fl (d s p x y a n : Nat) : List (Nat × Bool) := (List.range n).map fun i => (a + i, bt d s p x y ((a + i : Nat) : Int))
theorem fl_len (d s p x y a n : Nat) : (fl d s p x y a n).length = n := by simp [fl]
theorem fl_succ (d s p x y a n : Nat) : fl d s p x y a (n + 1) = fl d s p x y a n ++ [(a + n, bt d s p x y ((a + n : Nat) : Int))] := by simp [fl, List.range_succ]
theorem fl_rise (d s p x y a n : Nat) (h : a + n ≤ 104) : Rise (fl d s p x y a n) := by
  constructor
  · unfold fl
    rw [List.pairwise_map]
    exact List.pairwise_lt_range.imp (fun {i j} q => by show a + i < a + j; omega)
  · intro q hq
    unfold fl at hq
    obtain ⟨i, hi, rfl⟩ := List.mem_map.1 hq
    rw [List.mem_range] at hi
    show a + i < 104
    omega
theorem natL_append (a b : List (Nat × Bool)) : natL (a ++ b) = natL a ++ natL b := by simp [natL]
/-- What lies in a row lies as bits. -/
theorem litC_of {w : World} {base : Nat} {v : Value} {l : List (Int × Bool)} {n : Nat} (h : w.ownsRow base 104 2 v n (litCells l)) (hn : n = l.length) (h0 : 0 < n) : ∃ g cap, v = .slice (some ⟨g, 0, none⟩) n cap ∧ base ≤ g ∧ g < w.heap.size ∧ LitC w g l := by
  subst hn
  rcases h.2 with ⟨e, q⟩ | ⟨g, cap, cur, e, q1, q2, q3⟩
  · omega
  · refine ⟨g, cap, e, q1, ?_, fun i x hx => ?_⟩
    · rcases Nat.lt_or_ge g w.heap.size with r | r
      · exact r
      · rw [Array.getElem?_eq_none r] at q2; cases q2
    · subst e
      have hi := lt_of_get hx
      obtain ⟨c1, c2⟩ := litCells_get l i x hx
      exact ⟨(World.ownsRow.cellAt h (i * 2) (by omega)).trans c1, (World.ownsRow.cellAt h (i * 2 + 1) (by omega)).trans c2⟩
theorem erow_on {w w' : World} {base : Nat} {t : TypeId} {sz n : Nat} {v : Value} {xs : List Value} (h : w.ownsRow base t sz v n xs) (hb : Below w.heap.size w w') : w'.ownsRow base t sz v n xs := by
  refine ⟨h.1, ?_⟩
  rcases h.2 with q | ⟨g, cap, cur, e, q1, q2, q3⟩
  · exact Or.inl q
  · have hg : g < w.heap.size := by
      rcases Nat.lt_or_ge g w.heap.size with r | r
      · exact r
      · rw [Array.getElem?_eq_none r] at q2; cases q2
    exact Or.inr ⟨g, cap, cur, e, q1, (hb.block g hg).trans q2, q3⟩
theorem erow_drew {w : World} {base : Nat} {t : TypeId} {sz n : Nat} {v : Value} {xs : List Value} (h : w.ownsRow base t sz v n xs) : w.drew.ownsRow base t sz v n xs := h
theorem infoLit : (Try.prog.info? 104).map (fun i => (i.zero, i.size, i.bytes)) = some (some (.agg #[.int .i64 0, .bool false]), 2, 16) := by kernel_rfl
theorem einfo_parts {o : Option TypeInfo} {z : Option Value} {s b : Nat} (h : o.map (fun i => (i.zero, i.size, i.bytes)) = some (z, s, b)) : ∃ i, o = some i ∧ i.zero = z ∧ i.size = s ∧ i.bytes = b := by
  cases o with
  | none => cases h
  | some i => simp at h; exact ⟨i, rfl, h.1, h.2.1, h.2.2⟩
/-- What first leaves. -/
def LitRet (w : World) (l : List (Nat × Bool)) (e : Ending) (w' : World) : Prop := ∃ v, e = .returned v ∧ Below w.heap.size w w' ∧ w'.ownsRow (w.heap.size + 1) 104 2 v l.length (litCells (natL l))
set_option maxRecDepth 100000 in
set_option maxHeartbeats 4000000 in
theorem first_any (d s p x y : Nat) (hh : HB d s p x y) (a n : Nat) (h104 : a + n ≤ 104) (w : World) :
    Calls Try.prog 31 #[hv d s p x y, .int .i64 (a : Nat), .int .i64 (n : Nat)] w (LitRet w (fl d s p x y a n)) := by
  have CB := Lib.hid (fun (i : Int) (W : World) => bit_any d s p x y i hh W)
  unfold LitRet
  go_enter Try.func31, Try.ntmps31
  go_upto_region 1 with fail
  refine at_code (S := fun W => Blk W w.heap.size [.int .u32 (d : Nat), .int .u32 (s : Nat), .int .u8 (p : Nat), .int .u16 (x : Nat), .int .u16 (y : Nat)] ∧ Below w.heap.size w W ∧ W.heap.size = w.heap.size + 1) ⟨Blk.new _ _ _, bel_al (Below.refl _ _) _, by simp⟩ (fun W1 hW => ?_)
  obtain ⟨hX, hb, hsz⟩ := hW
  have X1 := Lib.hid hX
  have B1 := Lib.hid hb
  clear hX hb
  go_wp2_with fail
  go_loopw [7, 10] (fun sv iv wr => ∃ (v : Value) (k : Nat), sv = v ∧ iv = .int .i64 (k : Nat) ∧ k ≤ n ∧ Hid (Below W1.heap.size W1 wr) ∧ Hid (wr.ownsRow (w.heap.size + 1) 104 2 v k (litCells (natL (fl d s p x y a k))))) (fun _ iv _ => n - (intOf iv).toNat)
  case atStart =>
    exact ⟨.slice none 0 0, 0, rfl, rfl, Nat.zero_le _, Lib.hid (Below.refl _ _), Lib.hid (World.ownsRow_nil _ _ _ _)⟩
  case round =>
    obtain ⟨v, k, rfl, rfl, hk, hB, hO⟩ := hrel
    have X2 := Lib.hid (X1.out.on hB.out)
    by_cases hkn : k < n
    · obtain ⟨x_0, x_1, x_2, x_3, x_4⟩ : _ ∧ _ ∧ _ ∧ _ ∧ _ := ⟨X2.out.1 0 _ rfl, X2.out.1 1 _ rfl, X2.out.1 2 _ rfl, X2.out.1 3 _ rfl, X2.out.1 4 _ rfl⟩
      have hwa : IntKind.i64.wrap ((a : Int) + (k : Int)) = ((a + k : Nat) : Int) := by rw [IntKind.wrap_i64]; omega
      have hwk : IntKind.i64.wrap ((k : Int) + 1) = ((k + 1 : Nat) : Int) := by rw [IntKind.wrap_i64]; omega
      have hki : (k : Int) < (n : Int) := by omega
      have CC := Lib.hid (fun W => CB.out ((a + k : Nat) : Int) W)
      obtain ⟨on, hon⟩ : ∃ on, bt d s p x y ((a + k : Nat) : Int) = on := ⟨_, rfl⟩
      rw [hon] at CC
      have HON := Lib.hid hon
      clear hon
      go_wp2_with fail
      refine (CC.out _).mono ?_
      rintro e w2 ⟨rfl, hb⟩
      have B2 := Lib.hid hb
      obtain ⟨i0, hi0, hz0, hz1, hz2⟩ := einfo_parts infoLit
      have hz : w.heap.size + 1 ≤ wr.heap.size := by have := hB.out.size; omega
      have hown := erow_on hO.out B2.out
      go_wp2_with (at_builtin; refine wpList_append_own _ rfl _ _ 78 rfl (w.heap.size + 1) 104 i0 (.agg #[.int .i64 0, .bool false]) 2 16 Try.underlying78 hi0 hz0 hz1 hz2 rfl (by decide) _ _ _ rfl (hown.alloc _) ⟨w2.heap.size, 0, none⟩ 1 1 [.int .i64 ((a + k : Nat) : Int), .bool on] rfl rfl ?c1 ?c2 ?c3 ?c4 ?c5 ?_)
      case c1 =>
        intro j x hj
        match j, hj with
        | 0, hj => simp at hj; subst hj; simp [Addr.add, go_sem]
        | 1, hj => simp at hj; subst hj; simp [Addr.add, go_sem]
      case c2 => intro x hx; simp at hx; rcases hx with rfl | rfl <;> rfl
      case c3 => unfold maxLen; omega
      case c4 => have := B2.out.size; omega
      case c5 => have := B2.out.size; simp; omega
      · intro v' w3 hown' hgrow _
        have HO' := Lib.hid hown'
        have HG := Lib.hid hgrow
        clear hown' hgrow hown
        go_wp2_with fail
        have hB2 : Below W1.heap.size W1 w3 := (bel_al (bel_on' hB.out B2.out) _).grown HG.out (by have := hB.out.size; have := B2.out.size; simp; omega) (fun g e => by have := (World.ownsRow.lt hO.out g e).1; omega)
        refine ⟨⟨v', k + 1, rfl, by first | rfl | rw [hwk], by omega, Lib.hid hB2, Lib.hid ?_⟩, by simp [intOf] <;> omega⟩
        rw [fl_succ, natL_append, litCells_append, HON.out]
        exact HO'.out
    · have hkn' : k = n := by omega
      subst hkn'
      go_wp2
      go_ret
      exact ⟨_, rfl, bel_on' B1.out hB.out, by rw [fl_len]; exact hO.out⟩
end Go.Proofs.Ytggcbklififcgab
/- Ranges by their bits: what is asked of the last bits of a port. No program in sight. -/
namespace Go.Proofs.Ytggcbklififcgab
set_option linter.unusedVariables false

/-- The number of the last n bits of sixteen. -/
def pval (e : Env) (a : Nat) : Nat → Nat
  | 0 => 0
  | n + 1 => pval e a n + (if e (a + 15 - n) then 2 ^ n else 0)
theorem pval_succ (e : Env) (a n : Nat) : pval e a (n + 1) = pval e a n + (if e (a + 15 - n) then 2 ^ n else 0) := rfl
theorem pval_lt (e : Env) (a : Nat) : ∀ n, pval e a n < 2 ^ n
  | 0 => by simp [pval]
  | n + 1 => by
    have := pval_lt e a n
    unfold pval
    rw [Nat.pow_succ]
    split <;> omega
theorem pval_hld (e : Env) (a : Nat) (i : Nat) (b : Bool) : ∀ n, n ≤ 16 → i < a + 16 - n → pval (hld e i b) a n = pval e a n
  | 0, _, _ => rfl
  | n + 1, h16, h => by
    unfold pval
    rw [pval_hld e a i b n (by omega) (by omega), hld_ne e b (by omega)]
/-- The last n bits are no less than a bound's, or no more. -/
def bdP (a port : Nat) (on : Bool) (n : Nat) (e : Env) : Bool := if on then decide (port % 2 ^ n ≤ pval e a n) else decide (pval e a n ≤ port % 2 ^ n)
theorem bdP_zero (a port : Nat) (on : Bool) (e : Env) : bdP a port on 0 e = true := by
  unfold bdP pval
  rw [Nat.pow_zero, Nat.mod_one]
  cases on <;> rfl
theorem bdP_hld (a port : Nat) (on : Bool) (n : Nat) (e : Env) (i : Nat) (b : Bool) (hn : n ≤ 16) (hi : i < a + 16 - n) : bdP a port on n (hld e i b) = bdP a port on n e := by
  unfold bdP; rw [pval_hld e a i b n hn hi]
def bdK (port : Nat) (on : Bool) (n : Nat) : Nat := if port.testBit n == on then 0 else 1
theorem bdK_le (port : Nat) (on : Bool) (n : Nat) : bdK port on n ≤ 1 := by unfold bdK; split <;> omega
theorem mod_succ (port n : Nat) : port % 2 ^ (n + 1) = port % 2 ^ n + (if port.testBit n then 2 ^ n else 0) := by
  have := Nat.mod_lt (port / 2 ^ n) (show 0 < 2 by omega)
  rw [Nat.pow_succ, Nat.mod_mul, Nat.testBit_eq_decide_div_mod_eq]
  by_cases h : port / 2 ^ n % 2 = 1
  · rw [h]; simp
  · rw [show port / 2 ^ n % 2 = 0 by omega]; simp
theorem bdP_succ (a port : Nat) (on : Bool) (n : Nat) (e : Env) : bdP a port on (n + 1) e = opB (bdK port on n) (e (a + 15 - n) == on) (bdP a port on n e) := by
  have h1 := mod_succ port n
  have h2 := pval_lt e a n
  have h3 : port % 2 ^ n < 2 ^ n := Nat.mod_lt _ (Nat.two_pow_pos n)
  have o0 : ∀ a b, opB 0 a b = (a && b) := fun _ _ => rfl
  have o1 : ∀ a b, opB 1 a b = (a || b) := fun _ _ => rfl
  unfold bdP bdK
  rw [h1, pval_succ]
  cases on <;> cases hb : port.testBit n <;> cases he : e (a + 15 - n) <;> simp [o0, o1] <;> omega
/-- What a range asks of the last bits. -/
def rsP (a lo hi n : Nat) (e : Env) : Bool := bdP a lo true n e && bdP a hi false n e
theorem rsP_hld (a lo hi n : Nat) (e : Env) (i : Nat) (b : Bool) (hn : n ≤ 16) (hi' : i < a + 16 - n) : rsP a lo hi n (hld e i b) = rsP a lo hi n e := by
  unfold rsP; rw [bdP_hld _ _ _ _ _ _ _ hn hi', bdP_hld _ _ _ _ _ _ _ hn hi']
/-- A port's value. -/
theorem pval_val (e : Env) (a x : Nat) (hx : ∀ i, i < 16 → e (a + i) = x.testBit (15 - i)) : ∀ n, n ≤ 16 → pval e a n = x % 2 ^ n
  | 0, _ => by rw [Nat.pow_zero, Nat.mod_one]; rfl
  | n + 1, h => by
    unfold pval
    rw [pval_val e a x hx n (by omega), mod_succ, show a + 15 - n = a + (15 - n) by omega, hx (15 - n) (by omega), show 15 - (15 - n) = n by omega]
theorem bits_div {x y k n : Nat} (hx : x < 2 ^ (k + n)) (hy : y < 2 ^ (k + n)) : (∀ i, i < k → x.testBit (k + n - 1 - i) = y.testBit (k + n - 1 - i)) ↔ x / 2 ^ n = y / 2 ^ n := by
  constructor
  · intro h
    apply Nat.eq_of_testBit_eq
    intro j
    rw [Nat.testBit_div_two_pow, Nat.testBit_div_two_pow]
    by_cases hj : j < k
    · have := h (k - 1 - j) (by omega)
      rw [show k + n - 1 - (k - 1 - j) = j + n by omega] at this
      exact this
    · rw [Nat.testBit_lt_two_pow (Nat.lt_of_lt_of_le hx (Nat.pow_le_pow_right (by omega) (by omega))), Nat.testBit_lt_two_pow (Nat.lt_of_lt_of_le hy (Nat.pow_le_pow_right (by omega) (by omega)))]
  · intro h i hi
    have := congrArg (fun z => z.testBit (k - 1 - i)) h
    simp only [Nat.testBit_div_two_pow] at this
    rw [show k + n - 1 - i = k - 1 - i + n by omega]
    exact this
/-- The first bits of a port, and the last ones within: just the ports of the range. -/
theorem rs_port {lo hi x n : Nat} (hl : lo < 65536) (hh : hi < 65536) (hx : x < 65536) (hn : n ≤ 16) (hd : lo / 2 ^ n = hi / 2 ^ n) :
    (lo % 2 ^ n ≤ x % 2 ^ n ∧ x % 2 ^ n ≤ hi % 2 ^ n ∧ x / 2 ^ n = lo / 2 ^ n) ↔ (lo ≤ x ∧ x ≤ hi) := by
  have a := Nat.div_add_mod lo (2 ^ n)
  have b := Nat.div_add_mod hi (2 ^ n)
  have c := Nat.div_add_mod x (2 ^ n)
  have p := Nat.two_pow_pos n
  have m1 := Nat.mod_lt lo p
  have m2 := Nat.mod_lt hi p
  have m3 := Nat.mod_lt x p
  constructor
  · rintro ⟨h1, h2, h3⟩
    rw [h3] at c
    rw [← hd] at b
    omega
  · rintro ⟨h1, h2⟩
    have e1 : lo / 2 ^ n ≤ x / 2 ^ n := Nat.div_le_div_right h1
    have e2 : x / 2 ^ n ≤ hi / 2 ^ n := Nat.div_le_div_right h2
    have e3 : x / 2 ^ n = lo / 2 ^ n := by omega
    rw [e3] at c
    rw [← hd] at b
    exact ⟨by omega, by omega, e3⟩
/-- How many bits two ports have unlike, at most: the last ones. -/
def rn (lo hi : Nat) : Nat := Go.Lib.bitLen (lo ^^^ hi)
theorem lt_bitLenAux : ∀ f x : Nat, x < 2 ^ f → x < 2 ^ Go.Lib.bitLenAux f x
  | 0, x, h => by simpa [Go.Lib.bitLenAux] using h
  | f + 1, x, h => by
    unfold Go.Lib.bitLenAux
    split
    · omega
    · have := lt_bitLenAux f (x / 2) (by rw [Nat.pow_succ] at h; omega)
      rw [Nat.add_comm, Nat.pow_succ]; omega
theorem rn_le {lo hi : Nat} (hl : lo < 65536) (hh : hi < 65536) : rn lo hi ≤ 16 := Go.Lib.bitLen_le _ 16 (by omega) (Nat.xor_lt_two_pow (n := 16) hl hh)
theorem rn_div {lo hi : Nat} (hl : lo < 65536) (hh : hi < 65536) : lo / 2 ^ rn lo hi = hi / 2 ^ rn lo hi := by
  have hx : lo ^^^ hi < 2 ^ 16 := Nat.xor_lt_two_pow (n := 16) hl hh
  have h : lo ^^^ hi < 2 ^ rn lo hi := lt_bitLenAux 64 _ (Nat.lt_of_lt_of_le hx (Nat.pow_le_pow_right (by omega) (by omega)))
  apply Nat.eq_of_testBit_eq
  intro j
  rw [Nat.testBit_div_two_pow, Nat.testBit_div_two_pow]
  have := Nat.testBit_lt_two_pow (Nat.lt_of_lt_of_le h (Nat.pow_le_pow_right (by omega) (Nat.le_add_left _ j)) : lo ^^^ hi < 2 ^ (j + rn lo hi))
  rw [Nat.testBit_xor] at this
  revert this
  cases lo.testBit (j + rn lo hi) <;> cases hi.testBit (j + rn lo hi) <;> simp
/-- Headers' bits, field by field. -/
theorem bt_tb3 (d s p x y : Nat) (i : Int) : bt d s p x y i = tb (pa d s) (pb p x y) i := rfl
theorem tb_two {a b i : Nat} {n : Nat} (hb : b < 2 ^ n) (j : Nat) : (a * 2 ^ n + b).testBit j = if j < n then b.testBit j else a.testBit (j - n) := by
  rw [Nat.mul_comm, Nat.testBit_two_pow_mul_add a hb]
theorem bt_dst {d s p x y : Nat} (h : HB d s p x y) {i : Nat} (hi : i < 32) : bt d s p x y (i : Nat) = d.testBit (31 - i) := by
  rw [bt_tb3, tb_lo _ _ _ (by omega)]
  have e : pa d s = d * 2 ^ 32 + s := by unfold pa; omega
  rw [e, tb_two (i := i) (by have := h.s; omega), if_neg (by omega), show 63 - i - 32 = 31 - i by omega]
theorem bt_src {d s p x y : Nat} (h : HB d s p x y) {i : Nat} (hi : i < 32) : bt d s p x y ((32 + i : Nat) : Int) = s.testBit (31 - i) := by
  rw [bt_tb3, tb_lo _ _ _ (by omega)]
  have e : pa d s = d * 2 ^ 32 + s := by unfold pa; omega
  rw [e, tb_two (i := i) (by have := h.s; omega), if_pos (by omega), show 63 - (32 + i) = 31 - i by omega]
theorem bt_pro {d s p x y : Nat} (h : HB d s p x y) {i : Nat} (hi : i < 8) : bt d s p x y ((64 + i : Nat) : Int) = p.testBit (7 - i) := by
  rw [bt_tb3, tb_hi _ _ _ (by omega) (by omega)]
  have e : pb p x y = p * 2 ^ 32 + (x * 2 ^ 16 + y) := by unfold pb; omega
  have := h.x; have := h.y
  rw [e, tb_two (i := i) (by omega), if_neg (by omega), show 103 - (64 + i) - 32 = 7 - i by omega]
theorem bt_sp {d s p x y : Nat} (h : HB d s p x y) {i : Nat} (hi : i < 16) : bt d s p x y ((72 + i : Nat) : Int) = x.testBit (15 - i) := by
  rw [bt_tb3, tb_hi _ _ _ (by omega) (by omega)]
  have e : pb p x y = p * 2 ^ 32 + (x * 2 ^ 16 + y) := by unfold pb; omega
  have := h.x; have := h.y
  rw [e, tb_two (i := i) (by omega), if_pos (by omega), tb_two (i := i) (by omega), if_neg (by omega), show 103 - (72 + i) - 16 = 15 - i by omega]
theorem bt_dp {d s p x y : Nat} (h : HB d s p x y) {i : Nat} (hi : i < 16) : bt d s p x y ((88 + i : Nat) : Int) = y.testBit (15 - i) := by
  rw [bt_tb3, tb_hi _ _ _ (by omega) (by omega)]
  have e : pb p x y = p * 2 ^ 32 + (x * 2 ^ 16 + y) := by unfold pb; omega
  have := h.x; have := h.y
  rw [e, tb_two (i := i) (by omega), if_pos (by omega), tb_two (i := i) (by omega), if_pos (by omega), show 103 - (88 + i) = 15 - i by omega]
end Go.Proofs.Ytggcbklififcgab
/- The set of a header. -/
namespace Go.Proofs.Ytggcbklififcgab
open Go.RowKit
set_option linter.unusedVariables false

set_option maxHeartbeats 1000000 in
theorem cube_none (a : AL) (most : Nat) (ns : List Nd) (w : World) (h : Ar w a most ns) :
    Calls Try.prog 53 #[.pointer (some ⟨a.p, 0, none⟩), .slice none 0 0] w (Ans most (some 1, ns) w a) := by
  unfold Ans
  go_enter Try.func53, Try.ntmps53
  go_wp2_with fail
  go_loopw [6, 7] (fun fv iv wr => fv = .int .i64 1 ∧ iv = .int .i64 (-1) ∧ w = wr) (fun _ iv _ => 0)
  case atStart => exact ⟨rfl, rfl, rfl⟩
  case round =>
    obtain ⟨rfl, rfl, rfl⟩ := hrel
    go_wp2
    go_ret2
    exact ⟨rfl, a, h, Tr.refl _ _ _⟩
set_option maxRecDepth 100000 in
set_option maxHeartbeats 2000000 in
theorem header_any {Z : Nat → Prop} {p most : Nat} {W : World} {ns : List Nd} (h : Sta Z p W most ns) (d s q x y : Nat) (hh : HB d s q x y) :
    Calls Try.prog 21 #[.pointer (some ⟨p, 0, none⟩), hv d s q x y] W (Got2 Z p most (cF most ns (fl d s q x y 0 104)) W) := by
  have CF := Lib.hid (fun w => first_any d s q x y hh 0 104 (by omega) w)
  unfold LitRet at CF
  have S0 := Lib.hid h
  unfold Got2
  obtain ⟨R, hR⟩ : ∃ R, cF most ns (fl d s q x y 0 104) = R := ⟨_, rfl⟩
  have CC : Hid (∀ (Z' : Nat → Prop) (w : World) (h' : Sta Z' p w most ns) (b cap : Nat), LitC w b (natL (fl d s q x y 0 104)) → Z' b → Calls Try.prog 30 #[.pointer (some ⟨p, 0, none⟩), .slice (some ⟨b, 0, none⟩) 104 cap] w (Got2 Z' p most R w)) := fun Z' w h' b cap hl hb => by
    have k := sCube h' (fl d s q x y 0 104) (fl_rise d s q x y 0 104 (by omega)) b cap hl hb
    rw [fl_len, hR] at k
    exact k
  unfold Got2 at CC
  rw [hR]
  obtain ⟨r, hr⟩ : ∃ r : Int, ((rv R.1 : Nat) : Int) = r := ⟨_, rfl⟩
  obtain ⟨er', her⟩ : ∃ x : Int, er R.1 = x := ⟨_, rfl⟩
  rw [hr, her] at CC ⊢
  clear hR hr her h
  go_enter Try.func21, Try.ntmps21
  go_upto_region 3 with fail
  refine at_code (S := fun w => Blk w W.heap.size [.int .u32 (d : Nat), .int .u32 (s : Nat), .int .u8 (q : Nat), .int .u16 (x : Nat), .int .u16 (y : Nat)] ∧ Below W.heap.size W w) ⟨Blk.new _ _ _, bel_al (Below.refl _ _) _⟩ (fun W1 hW => ?_)
  obtain ⟨hX, hb⟩ := hW
  obtain ⟨x_0, x_1, x_2, x_3, x_4⟩ : _ ∧ _ ∧ _ ∧ _ ∧ _ := ⟨hX.1 0 _ rfl, hX.1 1 _ rfl, hX.1 2 _ rfl, hX.1 3 _ rfl, hX.1 4 _ rfl⟩
  have B1 := Lib.hid hb
  clear hX hb
  go_wp2_with fail
  refine (CF.out _).mono ?_
  rintro e w2 ⟨v, rfl, hb2, hO⟩
  rw [fl_len] at hO
  obtain ⟨g, cap, rfl, hg1, hg2, hL⟩ := litC_of hO (by rw [natL_len, fl_len]) (by omega)
  have hb3 : Below W.heap.size W w2 := bel_on' B1.out hb2
  have hS2 := S0.out.grow hb3 (Y := fun k => k = g) (fun k hk => by subst hk; exact ⟨by have := B1.out.size; omega, hg2⟩)
  have C2 := Lib.hid (CC.out _ w2 hS2 g cap hL (Or.inr rfl))
  have B2 := Lib.hid hb3
  clear hb2 hO hL hb3 hS2 CC CF x_0 x_1 x_2 x_3 x_4
  go_wp2_with fail
  refine C2.out.mono ?_
  rintro e w3 ⟨rfl, hS, hH⟩
  have S3 := Lib.hid (hS.less (fun k hk => Or.inl hk) : Sta Z p w3 most R.2)
  have H3 := Lib.hid ((Hold.of B2.out).trans (hH.less (fun k hk => Or.inl hk)) : Hold Z W w3)
  clear hS hH
  go_wp2
  go_ret2
  exact ⟨rfl, S3.out, H3.out⟩
end Go.Proofs.Ytggcbklififcgab
/- Cube of no bits. -/
namespace Go.Proofs.Ytggcbklififcgab
open Go.RowKit
set_option linter.unusedVariables false

set_option maxRecDepth 100000 in
set_option maxHeartbeats 2000000 in
theorem cubeJ_none (a : AL) (most : Nat) (ns : List Nd) (w : World) (h : Ar w a most ns) (hw : WF ns) :
    Calls Try.prog 30 #[.pointer (some ⟨a.p, 0, none⟩), .slice none 0 0] w (Ans most (some 1, ns) w a) := by
  have HH : Hid (∀ W, Below w.heap.size w W → W.cell? ⟨w.heap.size, 0, none⟩ = some (.pointer (some ⟨a.p, 0, none⟩)) → W.cell? ⟨w.heap.size + 1, 0, none⟩ = some (.slice none 0 0) → Calls Try.prog 42 #[.pointer (some ⟨a.p, 0, none⟩), .func (.func 52) #[] #[.pointer (some ⟨w.heap.size, 0, none⟩), .pointer (some ⟨w.heap.size + 1, 0, none⟩)]] W (Ans most (some 1, ns) w a)) := fun W hB c0 c1 => by
    have hA := h.on hB
    have C := whole_core most ns ns (some 1) 52 _ W a hA hw hw (Ext.refl _) Try.call52 (cubeL_any most (some 1, ns) W a _ _ _ c0 c1 (Lib.hid (cube_none a most ns W hA)))
    exact C.mono fun _ _ q => ans_of (of_ans hB q)
  unfold Ans at HH ⊢
  clear h hw
  have hmf : ∀ (fn : Fn) (first cap : Array Value) (w : World), (Instr.makeFunc fn first cap).run Try.prog w = .ok (.func fn first cap) w := fun _ _ _ _ => rfl
  go_enter Try.func30, Try.ntmps30
  go_upto_region 1 with fail
  refine at_code (S := fun W => Blk W w.heap.size [.pointer (some ⟨a.p, 0, none⟩)] ∧ Blk W (w.heap.size + 1) [.slice none 0 0] ∧ Below w.heap.size w W) ⟨?_, ?_, bel_al (bel_al (Below.refl _ _) _) _⟩ (fun W0 hW => ?_)
  · exact (Blk.new w _ [.pointer (some ⟨a.p, 0, none⟩)]).on (bel_al (Below.refl _ _) _)
  · have k := Blk.new (w.alloc (.cells #[.pointer (some ⟨a.p, 0, none⟩)] 30)) 78 [.slice none 0 0]
    rw [World.size_alloc] at k
    exact k
  obtain ⟨hp, hs, hb⟩ := hW
  have B0 := Lib.hid hb
  have p_0 := hp.1 0 _ rfl
  have s_0 := hs.1 0 _ rfl
  clear hp hs hb
  go_wp2_with fail
  go_loopw [12] (fun iv wr => iv = .int .i64 0 ∧ W0 = wr) (fun _ _ => 0)
  case atStart => exact ⟨rfl, rfl⟩
  case round =>
    obtain ⟨rfl, rfl⟩ := hrel
    have CC := Lib.hid (HH.out W0 B0.out p_0 s_0)
    go_wp2_with fail
    refine CC.out.mono ?_
    rintro e w3 ⟨rfl, hP⟩
    have HP := Lib.hid hP
    clear hP
    go_wp2
    go_ret2
    exact ⟨rfl, HP.out⟩
theorem sCubeNone {Z : Nat → Prop} {p most : Nat} {W : World} {ns : List Nd} (h : Sta Z p W most ns) : Calls Try.prog 30 #[.pointer (some ⟨p, 0, none⟩), .slice none 0 0] W (Got2 Z p most (some 1, ns) W) := by
  obtain ⟨a, rfl, h2, h3, h4, h5⟩ := h
  exact (cubeJ_none a most ns W h2 h3).mono fun _ _ => got2_of h4 h5 h3
end Go.Proofs.Ytggcbklififcgab
