/- A world that is another but for some blocks, and what is new; blocks that stay. No program in sight. -/
import Derived.Test.YtgcbngephokegaaMG
import Derived.Maps.AppendAt
namespace Go.Proofs.Ytgcbngephokegaa
open Go.RowKit Go.Maps Go.MapKept Go.ChangeMaps Go.WideElems Go.Joins
set_option linter.unusedVariables false

theorem bel_al {W w : World} (h : Below W.heap.size W w) (o : Obj) : Below W.heap.size W (w.alloc o) := h.alloc h.size o
theorem bel_on {W w w' : World} {n : Nat} (h : Below n W w) (hb : Below w.heap.size w w') (hn : n ≤ W.heap.size) : Below n W w' := h.trans (hb.mono (by have := h.size; omega))
theorem bel_on' {W w w' : World} (h : Below W.heap.size W w) (hb : Below w.heap.size w w') : Below W.heap.size W w' := bel_on h hb (Nat.le_refl _)
/-- What was there is there. -/
theorem bkeep {W w : World} (h : Below W.heap.size W w) : Below W.heap.size W w ∧ ∀ b o, (W.cell? ⟨b, o, none⟩).isSome = true → w.cell? ⟨b, o, none⟩ = W.cell? ⟨b, o, none⟩ :=
  ⟨h, fun b o hc => h.cell (p := ⟨b, o, none⟩) (cell_lt hc)⟩
/-- w' is w but for some blocks, and what is new. -/
structure Keep (S : Nat → Prop) (w w' : World) : Prop where
  os : w'.os = w.os
  tape : w'.tape = w.tape
  output : w'.output = w.output
  size : w.heap.size ≤ w'.heap.size
  block : ∀ k, k < w.heap.size → ¬ S k → w'.heap[k]? = w.heap[k]?
theorem Keep.refl (S : Nat → Prop) (w : World) : Keep S w w := ⟨rfl, rfl, rfl, Nat.le_refl _, fun _ _ _ => rfl⟩
theorem Keep.trans {S S' : Nat → Prop} {a b c : World} (h : Keep S a b) (k : Keep S' b c) (hs : ∀ i, i < a.heap.size → S' i → S i) : Keep S a c :=
  ⟨k.os.trans h.os, k.tape.trans h.tape, k.output.trans h.output, Nat.le_trans h.size k.size, fun i hi hn => (k.block i (Nat.lt_of_lt_of_le hi h.size) (fun q => hn (hs i hi q))).trans (h.block i hi hn)⟩
theorem Keep.of {S : Nat → Prop} {w w' : World} (h : Below w.heap.size w w') : Keep S w w' := ⟨h.os, h.tape, h.output, h.size, fun k hk _ => h.block k hk⟩
theorem Keep.below {S : Nat → Prop} {w w' : World} (h : Keep S w w') {n : Nat} (hn : n ≤ w.heap.size) (hs : ∀ k, k < n → ¬ S k) : Below n w w' := ⟨h.os, h.tape, h.output, h.size, fun k hk => h.block k (by omega) (hs k hk)⟩
theorem Keep.only {S : Nat → Prop} {a b c : World} {x : Nat} (h : Keep S a b) (k : Only x b c) (hs : x < a.heap.size → S x) : Keep S a c :=
  ⟨k.os.trans h.os, k.tape.trans h.tape, k.out.trans h.output, by rw [k.size]; exact h.size, fun i hi hn => (k.blk i (fun e => hn (by subst e; exact hs hi))).trans (h.block i hi hn)⟩
theorem Keep.set {S : Nat → Prop} {a b : World} (h : Keep S a b) (p : Addr) (u : Value) (hs : p.block < a.heap.size → S p.block) : Keep S a (b.setCell p u) :=
  h.trans (S' := fun i => i = p.block) ⟨rfl, rfl, rfl, by simp [World.setCell], fun k hk hn => Below.heap_setCell _ _ _ _ hn⟩ (fun i hi e => by subst e; exact hs hi)
theorem Keep.grown {S : Nat → Prop} {a b c : World} {row : Option Nat} (h : Keep S a b) (hg : b.grownBy c row) (hs : ∀ k, row = some k → k < a.heap.size → S k) : Keep S a c :=
  h.trans (S' := fun i => row = some i) ⟨hg.os, hg.tape, hg.output, hg.size, fun k hk hn => hg.block k hk (fun e => hn e.symm)⟩ (fun i hi e => hs i e hi)
theorem Keep.drew {S : Nat → Prop} {a b : World} (h : Keep S a b) : Keep S a b.drew := ⟨h.os, h.tape, h.output, h.size, h.block⟩
theorem Keep.al {S : Nat → Prop} {a b : World} (h : Keep S a b) (o : Obj) : Keep S a (b.alloc o) := h.trans (S' := fun _ => False) (Keep.of (bel_al (Below.refl _ _) _)) (fun _ _ q => q.elim)
theorem Keep.mono {S S' : Nat → Prop} {w w' : World} (h : Keep S w w') (hs : ∀ i, i < w.heap.size → S i → S' i) : Keep S' w w' := ⟨h.os, h.tape, h.output, h.size, fun k hk hn => h.block k hk (fun q => hn (hs k hk q))⟩
theorem Keep.blk {S : Nat → Prop} {w w' : World} {b : Nat} {c : Value} {cs : List Value} (h : Keep S w w') (hb : Blk w b (c :: cs)) (hs : ¬ S b) : Blk w' b (c :: cs) := by
  have e := h.block b hb.lt hs
  exact ⟨fun i v hv => (World.cell?_of_block (w := w) (a := ⟨b, i, none⟩) e).trans (hb.1 i v hv), fun i v hv => (World.frozen?_of_block (w := w) (a := ⟨b, i, none⟩) e).trans (hb.2 i v hv)⟩
/-- The blocks Z stay. -/
abbrev Hold (Z : Nat → Prop) (W w' : World) : Prop := Keep (fun k => ¬ Z k) W w'
theorem Hold.below {Z : Nat → Prop} {W w' : World} (h : Hold Z W w') {n : Nat} (hn : n ≤ W.heap.size) (hz : ∀ k, k < n → Z k) : Below n W w' := Keep.below h hn (fun k hk q => q (hz k hk))
theorem Hold.of {Z : Nat → Prop} {W w' : World} (h : Below W.heap.size W w') : Hold Z W w' := Keep.of h
theorem Hold.trans {Z : Nat → Prop} {a b c : World} (h : Hold Z a b) (k : Hold Z b c) : Hold Z a c := Keep.trans h k (fun _ _ q => q)
theorem Hold.less {Z Z' : Nat → Prop} {W w' : World} (h : Hold Z W w') (hz : ∀ k, Z' k → Z k) : Hold Z' W w' := Keep.mono h (fun i _ q r => q (hz i r))
theorem Hold.cell {Z : Nat → Prop} {W w' : World} (h : Hold Z W w') {b o : Nat} (hz : Z b) {v : Value} (hc : W.cell? ⟨b, o, none⟩ = some v) : w'.cell? ⟨b, o, none⟩ = some v := by
  have e := h.block b (cell_lt (o := o) (by rw [hc]; rfl)) (fun q => q hz)
  exact (World.cell?_of_block (w := W) (a := ⟨b, o, none⟩) e).trans hc
theorem Hold.frozen {Z : Nat → Prop} {W w' : World} (h : Hold Z W w') {b o : Nat} (hz : Z b) {v : Value} (hc : W.cell? ⟨b, o, none⟩ = some v) : w'.frozen? ⟨b, o, none⟩ = W.frozen? ⟨b, o, none⟩ := by
  have e := h.block b (cell_lt (o := o) (by rw [hc]; rfl)) (fun q => q hz)
  exact World.frozen?_of_block (w := W) (a := ⟨b, o, none⟩) e
theorem Hold.blk {Z : Nat → Prop} {W w' : World} (h : Hold Z W w') {b : Nat} (hz : Z b) {c : Value} {cs : List Value} (hc : Blk W b (c :: cs)) : Blk w' b (c :: cs) := Keep.blk h hc (fun q => q hz)
end Go.Proofs.Ytgcbngephokegaa
