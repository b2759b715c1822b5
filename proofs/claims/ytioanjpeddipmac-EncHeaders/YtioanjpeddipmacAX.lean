/- Calls on an arena that lies beside some blocks: what they answer; that the blocks stay. -/
import Derived.Test.YtioanjpeddipmacAI
import Derived.Test.YtioanjpeddipmacAU2
import Derived.Test.YtioanjpeddipmacAV
import Derived.Test.YtioanjpeddipmacAW2
namespace Go.Proofs.Ytioanjpeddipmac
open Go.RowKit
set_option linter.unusedVariables false

/-- An arena at p, beside the blocks Z. -/
def Sta (Z : Nat → Prop) (p : Nat) (W : World) (most : Nat) (ns : List Nd) : Prop := ∃ a : AL, a.p = p ∧ Ar W a most ns ∧ WF ns ∧ (∀ k, a.has k → ¬ Z k) ∧ ∀ k, Z k → k < W.heap.size
/-- The blocks Z stay. -/
abbrev Hold (Z : Nat → Prop) (W w' : World) : Prop := Keep (fun k => ¬ Z k) W w'
theorem Sta.wf {Z : Nat → Prop} {p : Nat} {W : World} {most : Nat} {ns : List Nd} (h : Sta Z p W most ns) : WF ns := by obtain ⟨a, -, -, q, -⟩ := h; exact q
theorem Sta.len {Z : Nat → Prop} {p : Nat} {W : World} {most : Nat} {ns : List Nd} (h : Sta Z p W most ns) : ns.length ≤ 262144 := by obtain ⟨a, -, q, -⟩ := h; exact q.len
theorem Sta.on {Z : Nat → Prop} {p : Nat} {W W' : World} {most : Nat} {ns : List Nd} (h : Sta Z p W most ns) (hb : Below W.heap.size W W') : Sta Z p W' most ns := by
  obtain ⟨a, h1, h2, h3, h4, h5⟩ := h
  exact ⟨a, h1, h2.on hb, h3, h4, fun k hk => by have := h5 k hk; have := hb.size; omega⟩
/-- New blocks are none of its. -/
theorem Sta.grow {Z : Nat → Prop} {p : Nat} {W W' : World} {most : Nat} {ns : List Nd} (h : Sta Z p W most ns) (hb : Below W.heap.size W W') {Y : Nat → Prop} (hY : ∀ k, Y k → W.heap.size ≤ k ∧ k < W'.heap.size) : Sta (fun k => Z k ∨ Y k) p W' most ns := by
  obtain ⟨a, h1, h2, h3, h4, h5⟩ := h
  refine ⟨a, h1, h2.on hb, h3, fun k hk q => ?_, fun k hk => ?_⟩
  · rcases q with q | q
    · exact h4 k hk q
    · have := (hY k q).1
      have a1 := h2.pl
      have a2 := h2.ql
      have a3 := h2.ml
      rcases hk with e | e | e <;> omega
  · rcases hk with q | q
    · have := h5 k q; have := hb.size; omega
    · exact (hY k q).2
theorem Sta.less {Z Z' : Nat → Prop} {p : Nat} {W : World} {most : Nat} {ns : List Nd} (h : Sta Z p W most ns) (hz : ∀ k, Z' k → Z k) : Sta Z' p W most ns := by
  obtain ⟨a, h1, h2, h3, h4, h5⟩ := h
  exact ⟨a, h1, h2, h3, fun k hk q => h4 k hk (hz k q), fun k hk => h5 k (hz k hk)⟩
theorem Hold.below {Z : Nat → Prop} {W w' : World} (h : Hold Z W w') {n : Nat} (hn : n ≤ W.heap.size) (hz : ∀ k, k < n → Z k) : Below n W w' := Keep.below h hn (fun k hk q => q (hz k hk))
theorem Hold.of {Z : Nat → Prop} {W w' : World} (h : Below W.heap.size W w') : Hold Z W w' := Keep.of h
theorem Hold.trans {Z : Nat → Prop} {a b c : World} (h : Hold Z a b) (k : Hold Z b c) : Hold Z a c := Keep.trans h k (fun _ _ q => q)
theorem Hold.less {Z Z' : Nat → Prop} {W w' : World} (h : Hold Z W w') (hz : ∀ k, Z' k → Z k) : Hold Z' W w' := Keep.mono h (fun i _ q r => q (hz i r))
theorem Hold.cell {Z : Nat → Prop} {W w' : World} (h : Hold Z W w') {b o : Nat} (hz : Z b) {v : Value} (hc : W.cell? ⟨b, o, none⟩ = some v) : w'.cell? ⟨b, o, none⟩ = some v := by
  have e := h.block b (cell_lt (o := o) (by rw [hc]; rfl)) (fun q => q hz)
  exact (World.cell?_of_block (w := W) (a := ⟨b, o, none⟩) e).trans hc
theorem Hold.frozen {Z : Nat → Prop} {W w' : World} (h : Hold Z W w') {b o : Nat} (hz : Z b) {v : Value} (hc : W.cell? ⟨b, o, none⟩ = some v) : w'.frozen? ⟨b, o, none⟩ = W.frozen? ⟨b, o, none⟩ := by
  have e := h.block b (cell_lt (o := o) (by rw [hc]; rfl)) (fun q => q hz)
  exact World.frozen?_of_block (w := W) (a := ⟨b, o, none⟩) e
theorem Hold.blk {Z : Nat → Prop} {W w' : World} (h : Hold Z W w') {b : Nat} (hz : Z b) {c : Value} {cs : List Value} (hc : Blk W b (c :: cs)) : Blk w' b (c :: cs) := Keep.blk h hc (fun q => q hz)
/-- What a call answers, and that it leaves the arena and the blocks. -/
def Got2 (Z : Nat → Prop) (p most : Nat) (R : Option Nat × List Nd) (W : World) (e : Ending) (w' : World) : Prop :=
  e = .returned (.tuple #[.int .i64 (rv R.1 : Nat), .int .i64 (er R.1)]) ∧ Sta Z p w' most R.2 ∧ Hold Z W w'
theorem got2_of {Z : Nat → Prop} {most : Nat} {R : Option Nat × List Nd} {W : World} {a : AL} {e : Ending} {w' : World} (h4 : ∀ k, a.has k → ¬ Z k) (h5 : ∀ k, Z k → k < W.heap.size) (hw : WF R.2) (h : Ans most R W a e w') : Got2 Z a.p most R W e w' := by
  obtain ⟨rfl, a', hA, hT⟩ := h
  refine ⟨rfl, ⟨a', hT.m.1, hA, hw, fun k hk q => ?_, fun k hk => by have := h5 k hk; have := hT.k.size; omega⟩, hT.k.mono (fun i _ q => q.elim (fun r => h4 i r) (fun r => r.elim))⟩
  exact h4 k (hT.m.has (h5 k q) hk) q
section
variable {Z : Nat → Prop} {p most : Nat} {W : World} {ns : List Nd}
theorem sJoin (h : Sta Z p W most ns) (kind f g : Nat) (hk : kind ≤ 3) (hf : f < ns.length) (hg : g < ns.length) : Calls Try.prog 23 #[.pointer (some ⟨p, 0, none⟩), .int .i64 (kind : Nat), .int .i64 (f : Nat), .int .i64 (g : Nat)] W (Got2 Z p most (jF kind most ns f g) W) := by
  obtain ⟨a, rfl, h2, h3, h4, h5⟩ := h
  exact (joinJ_any kind most ns f g W a h2 h3 hk hf hg).mono fun _ _ => got2_of h4 h5 (got_join kind most h3 hf hg).wf
/-- Bits that lie in a block of Z. -/
theorem sCube (h : Sta Z p W most ns) (l : List (Nat × Bool)) (hr : Rise l) (b cap : Nat) (hl : LitC W b (natL l)) (hb : Z b) : Calls Try.prog 31 #[.pointer (some ⟨p, 0, none⟩), .slice (some ⟨b, 0, none⟩) l.length cap] W (Got2 Z p most (cF most ns l) W) := by
  obtain ⟨a, rfl, h2, h3, h4, h5⟩ := h
  exact (cubeJ_any a most ns l W h2 h3 hr b cap hl (h5 b hb) ⟨fun e => h4 b (Or.inl e) hb, fun e => h4 b (Or.inr (Or.inl e)) hb, fun e => h4 b (Or.inr (Or.inr e)) hb, fun q => q⟩).mono fun _ _ => got2_of h4 h5 (got_cube most h3 _ hr.1 hr.2).wf
theorem sCut (h : Sta Z p W most ns) (n : Int) : Calls Try.prog 58 #[.pointer (some ⟨p, 0, none⟩), .int .i64 n] W fun e w' => e = .returned (.tuple #[]) ∧ Sta Z p w' most (ns.take (max n.toNat 2)) ∧ Hold Z W w' := by
  obtain ⟨a, rfl, h2, h3, h4, h5⟩ := h
  refine (cut_any a most ns n W h2 h3).mono ?_
  rintro e w' ⟨rfl, hA, hT⟩
  exact ⟨rfl, ⟨a, rfl, hA, h3.take _ (by omega), h4, fun k hk => by have := h5 k hk; have := hT.k.size; omega⟩, hT.k.mono (fun i _ q => q.elim (fun r => h4 i r) (fun r => r.elim))⟩
theorem sLen (h : Sta Z p W most ns) : Calls Try.prog 22 #[.pointer (some ⟨p, 0, none⟩)] W fun e w' => e = .returned (.int .i64 (ns.length : Nat)) ∧ W = w' := by
  obtain ⟨a, rfl, h2, h3, h4, h5⟩ := h
  exact len_any a most ns W h2
theorem sHas (h : Sta Z p W most ns) (f : Int) : Calls Try.prog 34 #[.pointer (some ⟨p, 0, none⟩), .int .i64 f] W fun e w' => e = .returned (.bool (hasB ns.length f)) ∧ W = w' := by
  obtain ⟨a, rfl, h2, h3, h4, h5⟩ := h
  exact has_any a most ns f W h2
theorem sIn (h : Sta Z p W most ns) (f d s q x y : Nat) (hh : HB d s q x y) (hf : f < ns.length) : Calls Try.prog 13 #[.pointer (some ⟨p, 0, none⟩), .int .i64 (f : Nat), hv d s q x y] W fun e w' => e = .returned (.bool (ev ns (hE d s q x y) f)) ∧ Below W.heap.size W w' := by
  obtain ⟨a, rfl, h2, h3, h4, h5⟩ := h
  exact in_any a most ns f d s q x y hh W h2 h3 hf
end
/-- A new arena lies beside all that there was. -/
theorem sNew (most : Nat) (h2 : 2 ≤ most) (hm : most ≤ 262144) (w : World) : Calls Try.prog 9 #[.int .i64 (most : Nat)] w fun e w' => ∃ p, e = .returned (.tuple #[.pointer (some ⟨p, 0, none⟩), .int .i64 0]) ∧ Sta (fun k => k < w.heap.size) p w' most [bot, top] ∧ Below w.heap.size w w' := by
  refine (new_any most h2 hm w).mono ?_
  rintro e w' ⟨a, rfl, hA, hb, h1, h2, h3⟩
  exact ⟨a.p, rfl, ⟨a, rfl, hA, wf_new, fun k hk q => by rcases hk with e | e | e <;> omega, fun k hk => by have := hb.size; omega⟩, hb⟩
end Go.Proofs.Ytioanjpeddipmac
