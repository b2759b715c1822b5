/- Texts joined, in their order: AR, At, Along, Along2, AlongT. -/
import Derived.Test.YtgcbngephokegabGe31e430b94
import Derived.Maps.AppendAt
import Derived.Calls
import Derived.Control
import Derived.Deep.RegionHeld3
/- How an arena lies in memory; what calls that turn it keep. -/
namespace Go.Proofs.Ytgcbngephokegab
open Go.RowKit Go.Maps Go.MapKept Go.ChangeMaps Go.WideElems Go.Joins
open Go.WideMaps (KeyLaw)
set_option linter.unusedVariables false

theorem bel_al {W w : World} (h : Below W.heap.size W w) (o : Obj) : Below W.heap.size W (w.alloc o) := h.alloc h.size o
theorem bel_on {W w w' : World} {n : Nat} (h : Below n W w) (hb : Below w.heap.size w w') (hn : n ≤ W.heap.size) : Below n W w' := h.trans (hb.mono (by have := h.size; omega))
theorem bel_on' {W w w' : World} (h : Below W.heap.size W w) (hb : Below w.heap.size w w') : Below W.heap.size W w' := bel_on h hb (Nat.le_refl _)
/-- What was there is there. -/
theorem bkeep {W w : World} (h : Below W.heap.size W w) : Below W.heap.size W w ∧ ∀ b o, (W.cell? ⟨b, o, none⟩).isSome = true → w.cell? ⟨b, o, none⟩ = W.cell? ⟨b, o, none⟩ :=
  ⟨h, fun b o hc => h.cell (p := ⟨b, o, none⟩) (cell_lt hc)⟩
theorem Blk.put3 {w : World} {b : Nat} {x y z : Value} (h : Blk w b [x, y, z]) (x' y' z' : Value) : Blk (((w.setCell ⟨b, 0, none⟩ x').setCell ⟨b, 1, none⟩ y').setCell ⟨b, 2, none⟩ z') b [x', y', z'] :=
  ((h.set 0 x' (by simp)).set 1 y' (by simp)).set 2 z' (by simp)
theorem Blk.far3 {w : World} {b c : Nat} {cs : List Value} (h : Blk w b cs) (hne : c ≠ b) (x' y' z' : Value) : Blk (((w.setCell ⟨c, 0, none⟩ x').setCell ⟨c, 1, none⟩ y').setCell ⟨c, 2, none⟩ z') b cs :=
  ((h.far _ _ hne).far _ _ hne).far _ _ hne
theorem bel_put3 {W w : World} {n c : Nat} (h : Below n W w) (hn : n ≤ c) (x' y' z' : Value) : Below n W (((w.setCell ⟨c, 0, none⟩ x').setCell ⟨c, 1, none⟩ y').setCell ⟨c, 2, none⟩ z') :=
  ((h.setCell hn _).setCell hn _).setCell hn _
/-- A node's cells, and its value. -/
def nc (n : Nd) : List Value := [.int .i64 (n.v : Nat), .int .i64 (n.l : Nat), .int .i64 (n.h : Nat)]
def nv (n : Nd) : Value := .agg #[.int .i64 (n.v : Nat), .int .i64 (n.l : Nat), .int .i64 (n.h : Nat)]
theorem nv_inj (a b : Nd) (h : nv a = nv b) : a = b := by
  obtain ⟨a1, a2, a3⟩ := a
  obtain ⟨b1, b2, b3⟩ := b
  simp [nv] at h
  simp; omega
theorem wf64 (a : Nat) (h : a ≤ 9223372036854775807) : (Lit.int .i64 (a : Int)).wf = true := by
  rw [Lit.wf, Bool.and_eq_true, decide_eq_true_eq, decide_eq_true_eq, show IntKind.i64.min = -9223372036854775808 from rfl, show IntKind.i64.max = 9223372036854775807 from rfl]; omega
set_option maxRecDepth 100000 in
theorem wideNode : (match Try.prog.underlying 53 with | some (.array _ _) | some (.struct _) => true | _ => false) = true := by rw [Try.underlying53]
set_option maxRecDepth 100000 in
theorem lawNode : KeyLaw Try.prog 53 := deep_law_laid laidOutA (m := 2) (by omega) (of_decide_eq_true (by kernel_rfl)) (by kernel_rfl) wideNode
theorem keyedNode : Keyed Try.prog 53 := Keyed.of_law lawNode
set_option maxRecDepth 100000 in
theorem zeroInt (w : World) : (zeroValue 3).run Try.prog w = .ok (.int .i64 0) w := by kernel_rfl
/-- A node's numbers are of their type. -/
def Nd.Ok (n : Nd) : Prop := n.v ≤ 9223372036854775807 ∧ n.l ≤ 9223372036854775807 ∧ n.h ≤ 9223372036854775807
set_option maxRecDepth 100000 in
theorem key_node (n : Nd) (h : n.Ok) : ∃ l, keyOf Try.prog 53 (nv n) = some l := by
  have ht : DataW.Trod (fun _ => ()) Try.prog default 0 (fun _ => true) true 53 (nv n) _ _ := shut_agg3 (y0 := (.lit (.int .i64 (n.v : Nat)), [])) (y1 := (.lit (.int .i64 (n.l : Nat)), [])) (y2 := (.lit (.int .i64 (n.h : Nat)), [])) Try.underlying53 (by kernel_rfl) (by kernel_rfl) ⟨1, by simp [DataW.trod, Try.underlying3, wf64 _ h.1]⟩ ⟨1, by simp [DataW.trod, Try.underlying3, wf64 _ h.2.1]⟩ ⟨1, by simp [DataW.trod, Try.underlying3, wf64 _ h.2.2]⟩
  exact ⟨_, (keyOf_asKey (by kernel_rfl) wideNode (by simp [nv, Value.formed, Try.underlying53]; kernel_rfl) ht).1⟩
set_option maxRecDepth 100000 in
theorem infoNode : (Try.prog.info? 53).map (fun i => (i.zero, i.size, i.bytes)) = some (some (.agg #[.int .i64 0, .int .i64 0, .int .i64 0]), 3, 24) := by kernel_rfl
/-- What the map of numbers holds. -/
def numL (ns : List Nd) : List (Nd × Nat) := ns.zipIdx.drop 2
theorem mem_numL {ns : List Nd} {n : Nd} {f : Nat} : (n, f) ∈ numL ns ↔ 2 ≤ f ∧ ns[f]? = some n := by
  unfold numL
  constructor
  · intro h
    obtain ⟨i, hi⟩ := List.getElem?_of_mem h
    rw [List.getElem?_drop, List.getElem?_zipIdx] at hi
    cases hg : ns[2 + i]? with
    | none => rw [hg] at hi; cases hi
    | some m => rw [hg] at hi; simp at hi; obtain ⟨rfl, rfl⟩ := hi; exact ⟨by omega, hg⟩
  · rintro ⟨h2, hf⟩
    refine List.mem_of_getElem? (i := f - 2) ?_
    rw [List.getElem?_drop, List.getElem?_zipIdx, show 2 + (f - 2) = f by omega, hf]
    simp
theorem numL_len (ns : List Nd) : (numL ns).length ≤ ns.length := by unfold numL; simp
theorem numL_one {ns : List Nd} (h : WF ns) : ((numL ns).map (·.1)).Nodup := by
  have hn : ns.Nodup := by
    unfold List.Nodup
    rw [List.pairwise_iff_getElem]
    intro i j hi hj hij e
    have := h.inj i j ns[i] (List.getElem?_eq_getElem hi) (by rw [e]; exact List.getElem?_eq_getElem hj)
    omega
  unfold numL
  rw [List.map_drop]
  have e : ns.zipIdx.map (·.1) = ns := by simp
  rw [e]
  exact List.Pairwise.sublist (List.drop_sublist _ _) hn
/-- w' is w but for some blocks, and what is new. -/
structure Keep (S : Nat → Prop) (w w' : World) : Prop where
  os : w'.os = w.os
  tape : w'.tape = w.tape
  output : w'.output = w.output
  size : w.heap.size ≤ w'.heap.size
  block : ∀ k, k < w.heap.size → ¬ S k → w'.heap[k]? = w.heap[k]?
theorem Keep.refl (S : Nat → Prop) (w : World) : Keep S w w := ⟨rfl, rfl, rfl, Nat.le_refl _, fun _ _ _ => rfl⟩
theorem Keep.trans {S S' : Nat → Prop} {a b c : World} (h : Keep S a b) (k : Keep S' b c) (hs : ∀ i, i < a.heap.size → S' i → S i) : Keep S a c :=
  ⟨k.os.trans h.os, k.tape.trans h.tape, k.output.trans h.output, Nat.le_trans h.size k.size, fun i hi hn => (k.block i (Nat.lt_of_lt_of_le hi h.size) (fun q => hn (hs i hi q))).trans (h.block i hi hn)⟩
theorem Keep.of {S : Nat → Prop} {w w' : World} (h : Below w.heap.size w w') : Keep S w w' := ⟨h.os, h.tape, h.output, h.size, fun k hk _ => h.block k hk⟩
theorem Keep.below {S : Nat → Prop} {w w' : World} (h : Keep S w w') {n : Nat} (hn : n ≤ w.heap.size) (hs : ∀ k, k < n → ¬ S k) : Below n w w' := ⟨h.os, h.tape, h.output, h.size, fun k hk => h.block k (by omega) (hs k hk)⟩
theorem Keep.only {S : Nat → Prop} {a b c : World} {x : Nat} (h : Keep S a b) (k : Only x b c) (hs : x < a.heap.size → S x) : Keep S a c :=
  ⟨k.os.trans h.os, k.tape.trans h.tape, k.out.trans h.output, by rw [k.size]; exact h.size, fun i hi hn => (k.blk i (fun e => hn (by subst e; exact hs hi))).trans (h.block i hi hn)⟩
theorem Keep.set {S : Nat → Prop} {a b : World} (h : Keep S a b) (p : Addr) (u : Value) (hs : p.block < a.heap.size → S p.block) : Keep S a (b.setCell p u) :=
  h.trans (S' := fun i => i = p.block) ⟨rfl, rfl, rfl, by simp [World.setCell], fun k hk hn => Below.heap_setCell _ _ _ _ hn⟩ (fun i hi e => by subst e; exact hs hi)
theorem Keep.grown {S : Nat → Prop} {a b c : World} {row : Option Nat} (h : Keep S a b) (hg : b.grownBy c row) (hs : ∀ k, row = some k → k < a.heap.size → S k) : Keep S a c :=
  h.trans (S' := fun i => row = some i) ⟨hg.os, hg.tape, hg.output, hg.size, fun k hk hn => hg.block k hk (fun e => hn e.symm)⟩ (fun i hi e => hs i e hi)
theorem Keep.drew {S : Nat → Prop} {a b : World} (h : Keep S a b) : Keep S a b.drew := ⟨h.os, h.tape, h.output, h.size, h.block⟩
theorem Keep.al {S : Nat → Prop} {a b : World} (h : Keep S a b) (o : Obj) : Keep S a (b.alloc o) := h.trans (S' := fun _ => False) (Keep.of (bel_al (Below.refl _ _) _)) (fun _ _ q => q.elim)
theorem Keep.mono {S S' : Nat → Prop} {w w' : World} (h : Keep S w w') (hs : ∀ i, i < w.heap.size → S i → S' i) : Keep S' w w' := ⟨h.os, h.tape, h.output, h.size, fun k hk hn => h.block k hk (fun q => hn (hs k hk q))⟩
theorem Keep.blk {S : Nat → Prop} {w w' : World} {b : Nat} {c : Value} {cs : List Value} (h : Keep S w w') (hb : Blk w b (c :: cs)) (hs : ¬ S b) : Blk w' b (c :: cs) := by
  have e := h.block b hb.lt hs
  exact ⟨fun i v hv => (World.cell?_of_block (w := w) (a := ⟨b, i, none⟩) e).trans (hb.1 i v hv), fun i v hv => (World.frozen?_of_block (w := w) (a := ⟨b, i, none⟩) e).trans (hb.2 i v hv)⟩
/-- Where an arena lies: itself, its nodes, its numbers; how many nodes there is room for without a move. -/
structure AL where
  p : Nat
  q : Nat
  m : Nat
  cap : Nat
def AL.has (a : AL) (k : Nat) : Prop := k = a.p ∨ k = a.q ∨ k = a.m
def AL.ns (a : AL) (n : Nat) : Value := .slice (some ⟨a.q, 0, none⟩) n a.cap
def AL.cells (a : AL) (most n : Nat) : List Value := [.int .i64 (most : Nat), .slice (some ⟨a.q, 0, none⟩) n a.cap, .map (some a.m)]
/-- An arena of these nodes lies there. -/
structure Ar (w : World) (a : AL) (most : Nat) (ns : List Nd) : Prop where
  s : Blk w a.p (a.cells most ns.length)
  o : w.ownsRow 0 53 3 (.slice (some ⟨a.q, 0, none⟩) ns.length a.cap) ns.length (ns.flatMap nc)
  m : MapG Try.prog 53 3 nv w a.m (numL ns)
  len : ns.length ≤ 262144
  most : most ≤ 262144
  pq : a.p ≠ a.q
theorem Ar.row {w : World} {a : AL} {most : Nat} {ns : List Nd} (h : Ar w a most ns) : ∃ cur, w.heap[a.q]? = some (.cells cur 53 (0, 0)) ∧ ns.length ≤ a.cap ∧ a.cap ≤ maxLen ∧ cur.size = a.cap * 3 ∧ cur.toList.take (ns.length * 3) = ns.flatMap nc := by
  rcases h.o.2 with ⟨e, -⟩ | ⟨g, cap, cur, e, -, h1, h2, h3, h4, h5⟩
  · cases e
  · cases e; exact ⟨cur, h1, h2, h3, h4, h5⟩
theorem Ar.ql {w : World} {a : AL} {most : Nat} {ns : List Nd} (h : Ar w a most ns) : a.q < w.heap.size := by
  obtain ⟨cur, h1, -⟩ := h.row
  rcases Nat.lt_or_ge a.q w.heap.size with q | q
  · exact q
  · rw [Array.getElem?_eq_none q] at h1; cases h1
theorem Ar.pl {w : World} {a : AL} {most : Nat} {ns : List Nd} (h : Ar w a most ns) : a.p < w.heap.size := h.s.lt
theorem Ar.ml {w : World} {a : AL} {most : Nat} {ns : List Nd} (h : Ar w a most ns) : a.m < w.heap.size := h.m.lt
theorem Ar.qm {w : World} {a : AL} {most : Nat} {ns : List Nd} (h : Ar w a most ns) : a.q ≠ a.m := by
  obtain ⟨cur, h1, -⟩ := h.row
  obtain ⟨es, clock, h2⟩ := h.m.isMap
  intro e; rw [e, h2] at h1; cases h1
theorem Ar.pm {w : World} {a : AL} {most : Nat} {ns : List Nd} (h : Ar w a most ns) : a.p ≠ a.m := by
  obtain ⟨es, clock, h2⟩ := h.m.isMap
  intro e
  have := h.s.1 0 _ rfl
  rw [e] at this
  simp [World.cell?, h2] at this
theorem flat_len (ns : List Nd) : (ns.flatMap nc).length = ns.length * 3 := by
  induction ns with
  | nil => rfl
  | cons n r ih => rw [List.flatMap_cons, List.length_append, ih, List.length_cons]; show 3 + _ = _; omega
theorem flat_at : ∀ (ns : List Nd) (f j : Nat) (n : Nd) (v : Value), ns[f]? = some n → (nc n)[j]? = some v → (ns.flatMap nc)[f * 3 + j]? = some v
  | [], f, j, n, v, hf, hv => by simp at hf
  | x :: r, 0, j, n, v, hf, hv => by
    simp at hf; subst hf
    have : j < 3 := lt_of_get hv
    rw [List.flatMap_cons, Nat.zero_mul, Nat.zero_add, List.getElem?_append_left (by exact this)]; exact hv
  | x :: r, f + 1, j, n, v, hf, hv => by
    have hx : (nc x).length = 3 := rfl
    rw [List.flatMap_cons, List.getElem?_append_right (by rw [hx]; omega), hx, show (f + 1) * 3 + j - 3 = f * 3 + j by omega]
    exact flat_at r f j n v (by simpa using hf) hv
theorem flat_take : ∀ (ns : List Nd) (d : Nat), (ns.flatMap nc).take (d * 3) = (ns.take d).flatMap nc
  | [], d => by simp
  | x :: r, 0 => by simp
  | x :: r, d + 1 => by
    have hx : (nc x).length = 3 := rfl
    rw [List.flatMap_cons, List.take_succ_cons, List.flatMap_cons, List.take_append, hx, List.take_of_length_le (by rw [hx]; omega), show (d + 1) * 3 - 3 = d * 3 by omega, flat_take r d]
/-- A node's cells. -/
theorem Ar.node {w : World} {a : AL} {most : Nat} {ns : List Nd} (h : Ar w a most ns) {f : Nat} (hf : f < ns.length) {j : Nat} {v : Value} (hv : (nc (ns.getD f bot))[j]? = some v) : w.cell? ⟨a.q, f * 3 + j, none⟩ = some v := by
  have e := flat_at ns f j _ v (get_of_lt hf) hv
  have := h.o.cells (g := a.q) rfl (f * 3 + j) v e
  unfold Addr.add at this
  split at this
  · rename_i q
    rw [q]; exact this
  · simpa using this
/-- What else lies there stays. -/
theorem Ar.keep {S : Nat → Prop} {w w' : World} {a : AL} {most : Nat} {ns : List Nd} (h : Ar w a most ns) (k : Keep S w w') (hs : ∀ i, a.has i → ¬ S i) : Ar w' a most ns := by
  refine ⟨k.blk h.s (hs _ (Or.inl rfl)), ?_, h.m.same (k.block _ h.ml (hs _ (Or.inr (Or.inr rfl)))), h.len, h.most, h.pq⟩
  obtain ⟨cur, h1, h2, h3, h4, h5⟩ := h.row
  exact ⟨h.o.1, Or.inr ⟨a.q, a.cap, cur, rfl, Nat.zero_le _, (k.block _ h.ql (hs _ (Or.inr (Or.inl rfl)))).trans h1, h2, h3, h4, h5⟩⟩
theorem Ar.on {w w' : World} {a : AL} {most : Nat} {ns : List Nd} (h : Ar w a most ns) (hb : Below w.heap.size w w') : Ar w' a most ns := h.keep (S := fun _ => False) (Keep.of hb) (fun _ _ q => q)
/-- Where it lies behind a call. -/
def Mv (w : World) (a a' : AL) : Prop := a'.p = a.p ∧ a'.m = a.m ∧ (a'.q = a.q ∨ w.heap.size ≤ a'.q)
theorem Mv.refl (w : World) (a : AL) : Mv w a a := ⟨rfl, rfl, Or.inl rfl⟩
theorem Mv.trans {w w' : World} {a b c : AL} (h : Mv w a b) (k : Mv w' b c) (hs : w.heap.size ≤ w'.heap.size) : Mv w a c :=
  ⟨k.1.trans h.1, k.2.1.trans h.2.1, by
    rcases k.2.2 with e | e
    · rw [e]; exact h.2.2
    · exact Or.inr (by omega)⟩
theorem Mv.has {w : World} {a a' : AL} (h : Mv w a a') {i : Nat} (hi : i < w.heap.size) (hh : a'.has i) : a.has i := by
  obtain ⟨h1, h2, h3⟩ := h
  rcases hh with e | e | e
  · exact Or.inl (by omega)
  · rcases h3 with q | q
    · exact Or.inr (Or.inl (by omega))
    · omega
  · exact Or.inr (Or.inr (by omega))
/-- What a call that may turn the arena, and the blocks X, leaves. -/
structure Tr (X : Nat → Prop) (w : World) (a : AL) (w' : World) (a' : AL) : Prop where
  k : Keep (fun i => a.has i ∨ X i) w w'
  m : Mv w a a'
theorem Tr.refl (X : Nat → Prop) (w : World) (a : AL) : Tr X w a w a := ⟨Keep.refl _ _, Mv.refl _ _⟩
theorem Tr.trans {X : Nat → Prop} {w w' w'' : World} {a b c : AL} (h : Tr X w a w' b) (k : Tr X w' b w'' c) : Tr X w a w'' c :=
  ⟨h.k.trans k.k (fun i hi q => q.imp (fun r => h.m.has hi r) id), h.m.trans k.m h.k.size⟩
theorem Tr.below {X : Nat → Prop} {w w' w'' : World} {a b : AL} (h : Tr X w a w' b) (k : Below w'.heap.size w' w'') : Tr X w a w'' b :=
  ⟨h.k.trans (S' := fun _ => False) (Keep.of k) (fun _ _ q => q.elim), h.m⟩
theorem Tr.ahead {X : Nat → Prop} {w w' w'' : World} {a b : AL} (k : Below w.heap.size w w') (h : Tr X w' a w'' b) : Tr X w a w'' b :=
  ⟨(Keep.of k).trans h.k (fun i hi q => q), ⟨h.m.1, h.m.2.1, by
    rcases h.m.2.2 with e | e
    · exact Or.inl e
    · exact Or.inr (by have := k.size; omega)⟩⟩
/-- A block beside the arena. -/
def Off (X : Nat → Prop) (a : AL) (b : Nat) : Prop := b ≠ a.p ∧ b ≠ a.q ∧ b ≠ a.m ∧ ¬ X b
theorem Off.not {X : Nat → Prop} {a : AL} {b : Nat} (h : Off X a b) : ¬ (a.has b ∨ X b) := by
  rintro ((e | e | e) | e)
  · exact h.1 e
  · exact h.2.1 e
  · exact h.2.2.1 e
  · exact h.2.2.2 e
theorem Off.on {X : Nat → Prop} {w w' : World} {a a' : AL} {b : Nat} (h : Off X a b) (t : Tr X w a w' a') (hb : b < w.heap.size) : Off X a' b := by
  obtain ⟨h1, h2, h3, h4⟩ := h
  obtain ⟨t1, t2, t3⟩ := t.m
  refine ⟨by omega, ?_, by omega, h4⟩
  rcases t3 with e | e <;> omega
theorem Blk.tr {X : Nat → Prop} {w w' : World} {a a' : AL} {b : Nat} {c : Value} {cs : List Value} (h : Blk w b (c :: cs)) (t : Tr X w a w' a') (hb : Off X a b) : Blk w' b (c :: cs) := t.k.blk h hb.not
end Go.Proofs.Ytgcbngephokegab
/- A goal of a walk at a world of which no more is wanted than what is said of it. No program in sight. -/
namespace Go.Proofs.Ytgcbngephokegab
open Go.RowKit

theorem at_body {P : Program} {fn : Func} {R : Ending → World → Prop} {e : Exit} {a : Act} {W w : World} {n b : Nat} {cs : List Value} (h : Blk W b cs) (hb : Below n w W)
    (k : ∀ W, Blk W b cs → Below n w W → bodyPost P fn R e a W) : bodyPost P fn R e a W := k W h hb
theorem at_bodyR {P : Program} {fn : Func} {R : Ending → World → Prop} {e : Exit} {a : Act} {W : World} {S : World → Prop} (h : S W) (k : ∀ W, S W → bodyPost P fn R e a W) : bodyPost P fn R e a W := k W h
theorem at_code {P : Program} {c : Code} {Q : Exit → Act → World → Prop} {a : Act} {W : World} {S : World → Prop} (h : S W) (k : ∀ W, S W → Code.wp P c Q a W) : Code.wp P c Q a W := k W h
end Go.Proofs.Ytgcbngephokegab
/- A region that draws its order, walked along ONE order that is named: what only reads under a condition S on the world may be taken as soon as it is ready; what turns the world must be the only one that is ready. The order is held against the region's edges by closed checks, each a lemma of its own (so that the kernel gives its memory back). No program in sight. -/
namespace Go
section
variable {P : Program} {ops : Array Oper} {Q : Exit → Act → World → Prop} {md : Region.Mode} {S : World → Prop}

/-- Steps: number, whether it only reads, the operation itself. -/
def along (P : Program) (ops : Array Oper) (Q : Exit → Act → World → Prop) (S : World → Prop) : List (Nat × Bool × Oper) → Act → World → Prop
  | [], a, w => Q .normal a w
  | (_, true, o) :: r, a, w => ∃ v, YieldsIf P ops S o v a ∧ along P ops Q S r (a.put o.dst v) w
  | (_, false, o) :: r, a, w => ∀ K' : Act → World → Prop, Shut (∀ a w, S w → (S w → along P ops Q S r a w) → K' a w) → if Region.wanted o (yielded ops a.tmps) = true then Oper.wp P o a w K' Q else K' (a.put o.dst undef) w

/-- One step is as the region's edges want it, where those in 'listed' are done. -/
def alongStep (md : Region.Mode) (ops : Array Oper) (listed : Array Bool) (i : Nat) (b : Bool) : Bool :=
  if b then Region.free md ops listed i && (Region.ready md ops listed).contains i else Region.ready md ops listed == [i]
/-- So many steps are. -/
def alongPre (md : Region.Mode) (ops : Array Oper) : List (Nat × Bool) → Array Bool → Bool
  | [], _ => true
  | (i, b) :: r, listed => alongStep md ops listed i b && alongPre md ops r (listed.setIfInBounds i true)
/-- What is done behind so many. -/
def alongDone : List (Nat × Bool) → Array Bool → Array Bool
  | [], listed => listed
  | (i, _) :: r, listed => alongDone r (listed.setIfInBounds i true)
def alongOps (ops : Array Oper) : List (Nat × Bool × Oper) → Prop
  | [] => True
  | (i, _, o) :: r => ops[i]? = some o ∧ alongOps ops r
theorem alongPre_append (p q : List (Nat × Bool)) : ∀ listed, alongPre md ops p listed = true → alongPre md ops q (alongDone p listed) = true → alongPre md ops (p ++ q) listed = true := by
  induction p with
  | nil => intro listed _ h; exact h
  | cons x r ih =>
    obtain ⟨i, b⟩ := x
    intro listed h1 h2
    simp only [alongPre, Bool.and_eq_true] at h1
    show (alongStep md ops listed i b && alongPre md ops (r ++ q) (listed.setIfInBounds i true)) = true
    rw [Bool.and_eq_true]
    exact ⟨h1.1, ih _ h1.2 h2⟩

theorem along_sound (hs : Region.noSelect ops = true) (hQ : ∀ c a d v w, Q (.panic c) (Act.put a d v) w → Q (.panic c) a w) :
    ∀ (steps : List (Nat × Bool × Oper)) (listed : Array Bool) (a : Act) (w : World), alongOps ops steps → alongPre md ops (steps.map fun s => (s.1, s.2.1)) listed = true →
      Region.ready md ops (alongDone (steps.map fun s => (s.1, s.2.1)) listed) = [] → S w → along P ops Q S steps a w → wpAnyH P md ops Q S steps.length listed a w := by
  intro steps
  induction steps with
  | nil => intro listed a w _ _ hr _ h; exact wpAnyH_done hr h 0
  | cons s r ih =>
    obtain ⟨i, b, o⟩ := s
    intro listed a w ho hp hr hS h
    obtain ⟨hi, ho⟩ := ho
    simp only [List.map_cons, alongPre, Bool.and_eq_true] at hp
    obtain ⟨h1, h2⟩ := hp
    cases b with
    | true =>
      obtain ⟨v, hy, h⟩ := h
      simp only [alongStep, if_true, Bool.and_eq_true] at h1
      exact wpAnyH_take hi hs h1.1 h1.2 (fun c a w => hQ c a _ v w) hy hS (ih _ _ _ ho h2 hr hS h)
    | false =>
      simp only [alongStep, Bool.false_eq_true, if_false, beq_iff_eq] at h1
      refine wpAnyH_ready h1 (by simp) ?_
      refine AllReadyH.cons hi (fun K' hK => ?_) AllReadyH.nil
      refine h K' ?_
      intro a' w' hS' hA
      exact hK.out a' w' hS' (fun hS'' => ih _ _ _ ho h2 hr hS'' (hA hS''))

theorem along_pure {i : Nat} {o : Oper} {r : List (Nat × Bool × Oper)} {a : Act} {w : World} (v : Value) (hw : Region.wanted o (yielded ops a.tmps) = true) (hy : ∀ w, S w → (execOp a.eval o).run P w = .ok (.value v) w)
    (h : along P ops Q S r (a.put o.dst v) w) : along P ops Q S ((i, true, o) :: r) a w := ⟨v, Or.inl ⟨hw, hy⟩, h⟩
theorem along_bar {i : Nat} {o : Oper} {r : List (Nat × Bool × Oper)} {a : Act} {w : World}
    (h : ∀ K' : Act → World → Prop, Shut (∀ a w, S w → (S w → along P ops Q S r a w) → K' a w) → if Region.wanted o (yielded ops a.tmps) = true then Oper.wp P o a w K' Q else K' (a.put o.dst undef) w) :
    along P ops Q S ((i, false, o) :: r) a w := h
theorem along_end {a : Act} {w : World} (h : Q .normal a w) : along P ops Q S [] a w := h

/-- The operation at a place of a list. -/
def pickOp : List Oper → Nat → Oper
  | [], _ => { dst := none, op := .move (.tmp 0), type := 0, pos := "", after := #[], guard := none }
  | o :: _, 0 => o
  | _ :: r, n + 1 => pickOp r n
def stepsOf (ops : List Oper) : List (Nat × Bool) → List (Nat × Bool × Oper)
  | [] => []
  | (i, b) :: r => (i, b, pickOp ops i) :: stepsOf ops r
theorem stepsOf_map (ops : List Oper) (p : List (Nat × Bool)) : (stepsOf ops p).map (fun s => (s.1, s.2.1)) = p := by
  induction p with
  | nil => rfl
  | cons x r ih => obtain ⟨i, b⟩ := x; simp [stepsOf, ih]
theorem stepsOf_length (ops : List Oper) (p : List (Nat × Bool)) : (stepsOf ops p).length = p.length := by
  induction p with
  | nil => rfl
  | cons x r ih => obtain ⟨i, b⟩ := x; simp [stepsOf, ih]
theorem pickOp_get : ∀ (l : List Oper) (i : Nat), i < l.length → l.toArray[i]? = some (pickOp l i)
  | [], _, h => by simp at h
  | o :: _, 0, _ => by simp [pickOp]
  | _ :: r, n + 1, h => by
    have := pickOp_get r n (by simpa using h)
    simpa [pickOp] using this
theorem stepsOf_ops (l : List Oper) : ∀ (p : List (Nat × Bool)), (p.all fun x => decide (x.1 < l.length)) = true → alongOps l.toArray (stepsOf l p)
  | [], _ => trivial
  | (i, b) :: r, h => by
    simp only [List.all_cons, Bool.and_eq_true, decide_eq_true_eq] at h
    exact ⟨pickOp_get l i h.1, stepsOf_ops l r (by simpa using h.2)⟩

/-- A region that draws, walked along the order p. -/
theorem wp_region_along {id : Nat} {l : List Oper} {a : Act} {w : World} (p : List (Nat × Bool)) (hm : P.follows .mixedOrders = true) (hs : Region.noSelect l.toArray = true)
    (hin : (p.all fun x => decide (x.1 < l.length)) = true) (hlen : p.length = l.length) (hp : alongPre .any l.toArray p (Array.replicate l.length false) = true)
    (hr : Region.ready .any l.toArray (alongDone p (Array.replicate l.length false)) = []) (hQ : ∀ c a d v w, Q (.panic c) (Act.put a d v) w → Q (.panic c) a w)
    (hS : S w.drew) (h : S w.drew → along P l.toArray Q S (stepsOf l p) a w.drew) : (Code.region id l.toArray true).wp P Q a w := by
  refine wp_region_held (S := S) hm ?_
  have := along_sound (P := P) (Q := Q) (S := S) (md := .any) hs hQ (stepsOf l p) (Array.replicate l.length false) a w.drew (stepsOf_ops l p hin) (by rw [stepsOf_map]; exact hp) (by rw [stepsOf_map]; exact hr) hS (h hS)
  rw [stepsOf_length, hlen] at this
  simpa using this
end
end Go
/- Along, more: steps whose guard says no. No program in sight. -/
namespace Go
section
variable {P : Program} {ops : Array Oper} {Q : Exit → Act → World → Prop} {S : World → Prop}
/-- A step that only reads, and whose guard says no. -/
theorem along_skip {i : Nat} {o : Oper} {r : List (Nat × Bool × Oper)} {a : Act} {w : World} (hw : Region.wanted o (yielded ops a.tmps) = false)
    (h : along P ops Q S r (a.put o.dst undef) w) : along P ops Q S ((i, true, o) :: r) a w := ⟨undef, Or.inr ⟨hw, rfl⟩, h⟩
/-- A step that would turn the world, and whose guard says no. -/
theorem along_pass {i : Nat} {o : Oper} {r : List (Nat × Bool × Oper)} {a : Act} {w : World} (hw : Region.wanted o (yielded ops a.tmps) = false) (hS : S w)
    (h : along P ops Q S r (a.put o.dst undef) w) : along P ops Q S ((i, false, o) :: r) a w := by
  intro K' hK
  rw [if_neg (by rw [hw]; exact Bool.false_ne_true)]
  exact hK.out _ _ hS (fun _ => h)
end
end Go
/- A region that draws its order, walked along a TREE of orders: what only reads is taken as soon as it is ready; where several that turn the world are ready, each of them is gone on with. The tree is held against the region's edges by one closed check. No program in sight. -/
namespace Go
/-- A tree of orders, by the operations' numbers. -/
inductive ASk where
  | done
  | pure (i : Nat) (t : ASk)
  | b1 (i : Nat) (t : ASk)
  | b2 (i : Nat) (t : ASk) (j : Nat) (u : ASk)
  | b3 (i : Nat) (t : ASk) (j : Nat) (u : ASk) (k : Nat) (v : ASk)
def ASk.depth : ASk → Nat
  | .done => 0
  | .pure _ t => t.depth + 1
  | .b1 _ t => t.depth + 1
  | .b2 _ t _ u => max t.depth u.depth + 1
  | .b3 _ t _ u _ v => max t.depth (max u.depth v.depth) + 1
/-- The tree is as the region's edges want it, where those in 'd' are done; n: how many operations there are. -/
def ASk.pre (md : Region.Mode) (ops : Array Oper) (n : Nat) : ASk → Array Bool → Bool
  | .done, d => (Region.ready md ops d).isEmpty
  | .pure i t, d => decide (i < n) && Region.free md ops d i && (Region.ready md ops d).contains i && t.pre md ops n (d.setIfInBounds i true)
  | .b1 i t, d => decide (i < n) && (Region.ready md ops d == [i]) && t.pre md ops n (d.setIfInBounds i true)
  | .b2 i t j u, d => decide (i < n) && decide (j < n) && (Region.ready md ops d == [i, j]) && t.pre md ops n (d.setIfInBounds i true) && u.pre md ops n (d.setIfInBounds j true)
  | .b3 i t j u k v, d => decide (i < n) && decide (j < n) && decide (k < n) && (Region.ready md ops d == [i, j, k]) && t.pre md ops n (d.setIfInBounds i true) && u.pre md ops n (d.setIfInBounds j true) && v.pre md ops n (d.setIfInBounds k true)
section
variable {P : Program} {l : List Oper} {Q : Exit → Act → World → Prop} {S : World → Prop}
def tbar (P : Program) (l : List Oper) (Q : Exit → Act → World → Prop) (S : World → Prop) (T : Act → World → Prop) (o : Oper) (a : Act) (w : World) : Prop :=
  ∀ K' : Act → World → Prop, Shut (∀ a w, S w → (S w → T a w) → K' a w) → if Region.wanted o (yielded l.toArray a.tmps) = true then Oper.wp P o a w K' Q else K' (a.put o.dst undef) w
def alongT (P : Program) (l : List Oper) (Q : Exit → Act → World → Prop) (S : World → Prop) : ASk → Act → World → Prop
  | .done, a, w => Q .normal a w
  | .pure i t, a, w => ∃ v, YieldsIf P l.toArray S (pickOp l i) v a ∧ alongT P l Q S t (a.put (pickOp l i).dst v) w
  | .b1 i t, a, w => tbar P l Q S (alongT P l Q S t) (pickOp l i) a w
  | .b2 i t j u, a, w => tbar P l Q S (alongT P l Q S t) (pickOp l i) a w ∧ tbar P l Q S (alongT P l Q S u) (pickOp l j) a w
  | .b3 i t j u k v, a, w => tbar P l Q S (alongT P l Q S t) (pickOp l i) a w ∧ tbar P l Q S (alongT P l Q S u) (pickOp l j) a w ∧ tbar P l Q S (alongT P l Q S v) (pickOp l k) a w
theorem alongT_sound {md : Region.Mode} (hs : Region.noSelect l.toArray = true) (hQ : ∀ c a d v w, Q (.panic c) (Act.put a d v) w → Q (.panic c) a w) :
    ∀ (t : ASk) (fuel : Nat) (d : Array Bool) (a : Act) (w : World), t.depth ≤ fuel → t.pre md l.toArray l.length d = true → S w → alongT P l Q S t a w → wpAnyH P md l.toArray Q S fuel d a w := by
  intro t
  induction t with
  | done => intro fuel d a w _ hp _ h; exact wpAnyH_done (by simpa [ASk.pre] using hp) h fuel
  | pure i t ih =>
    intro fuel d a w hd hp hS h
    obtain ⟨fuel, rfl⟩ : ∃ f, fuel = f + 1 := ⟨fuel - 1, by simp only [ASk.depth] at hd; omega⟩
    simp only [ASk.pre, Bool.and_eq_true, decide_eq_true_eq] at hp
    obtain ⟨⟨⟨hi, h1⟩, h2⟩, h3⟩ := hp
    obtain ⟨v, hy, h⟩ := h
    exact wpAnyH_take (pickOp_get l i hi) hs h1 h2 (fun c a w => hQ c a _ v w) hy hS (ih _ _ _ _ (by simp only [ASk.depth] at hd; omega) h3 hS h)
  | b1 i t ih =>
    intro fuel d a w hd hp hS h
    obtain ⟨fuel, rfl⟩ : ∃ f, fuel = f + 1 := ⟨fuel - 1, by simp only [ASk.depth] at hd; omega⟩
    simp only [ASk.pre, Bool.and_eq_true, decide_eq_true_eq, beq_iff_eq] at hp
    obtain ⟨⟨hi, h1⟩, h3⟩ := hp
    simp only [ASk.depth] at hd
    refine wpAnyH_ready h1 (by simp) ?_
    refine AllReadyH.cons (pickOp_get l i hi) (fun K' hK => ?_) AllReadyH.nil
    exact h K' (fun a' w' hS' hA => hK.out a' w' hS' (fun hS'' => ih _ _ _ _ (by omega) h3 hS'' (hA hS'')))
  | b2 i t j u ih ih2 =>
    intro fuel d a w hd hp hS h
    obtain ⟨fuel, rfl⟩ : ∃ f, fuel = f + 1 := ⟨fuel - 1, by simp only [ASk.depth] at hd; omega⟩
    simp only [ASk.pre, Bool.and_eq_true, decide_eq_true_eq, beq_iff_eq] at hp
    obtain ⟨⟨⟨⟨hi, hj⟩, h1⟩, h3⟩, h4⟩ := hp
    simp only [ASk.depth] at hd
    obtain ⟨g1, g2⟩ := h
    refine wpAnyH_ready h1 (by simp) ?_
    refine AllReadyH.cons (pickOp_get l i hi) (fun K' hK => ?_) (AllReadyH.cons (pickOp_get l j hj) (fun K' hK => ?_) AllReadyH.nil)
    · exact g1 K' (fun a' w' hS' hA => hK.out a' w' hS' (fun hS'' => ih _ _ _ _ (by omega) h3 hS'' (hA hS'')))
    · exact g2 K' (fun a' w' hS' hA => hK.out a' w' hS' (fun hS'' => ih2 _ _ _ _ (by omega) h4 hS'' (hA hS'')))
  | b3 i t j u k v ih ih2 ih3 =>
    intro fuel d a w hd hp hS h
    obtain ⟨fuel, rfl⟩ : ∃ f, fuel = f + 1 := ⟨fuel - 1, by simp only [ASk.depth] at hd; omega⟩
    simp only [ASk.pre, Bool.and_eq_true, decide_eq_true_eq, beq_iff_eq] at hp
    obtain ⟨⟨⟨⟨⟨⟨hi, hj⟩, hk⟩, h1⟩, h3⟩, h4⟩, h5⟩ := hp
    simp only [ASk.depth] at hd
    obtain ⟨g1, g2, g3⟩ := h
    refine wpAnyH_ready h1 (by simp) ?_
    refine AllReadyH.cons (pickOp_get l i hi) (fun K' hK => ?_) (AllReadyH.cons (pickOp_get l j hj) (fun K' hK => ?_) (AllReadyH.cons (pickOp_get l k hk) (fun K' hK => ?_) AllReadyH.nil))
    · exact g1 K' (fun a' w' hS' hA => hK.out a' w' hS' (fun hS'' => ih _ _ _ _ (by omega) h3 hS'' (hA hS'')))
    · exact g2 K' (fun a' w' hS' hA => hK.out a' w' hS' (fun hS'' => ih2 _ _ _ _ (by omega) h4 hS'' (hA hS'')))
    · exact g3 K' (fun a' w' hS' hA => hK.out a' w' hS' (fun hS'' => ih3 _ _ _ _ (by omega) h5 hS'' (hA hS'')))
theorem T_done {a : Act} {w : World} (h : Q .normal a w) : alongT P l Q S .done a w := h
theorem T_pure {i : Nat} {t : ASk} {a : Act} {w : World} (v : Value) (hw : Region.wanted (pickOp l i) (yielded l.toArray a.tmps) = true) (hy : ∀ w, S w → (execOp a.eval (pickOp l i)).run P w = .ok (.value v) w)
    (h : alongT P l Q S t (a.put (pickOp l i).dst v) w) : alongT P l Q S (.pure i t) a w := ⟨v, Or.inl ⟨hw, hy⟩, h⟩
theorem T_b1 {i : Nat} {t : ASk} {a : Act} {w : World} (h : ∀ K' : Act → World → Prop, Shut (∀ a w, S w → (S w → alongT P l Q S t a w) → K' a w) → if Region.wanted (pickOp l i) (yielded l.toArray a.tmps) = true then Oper.wp P (pickOp l i) a w K' Q else K' (a.put (pickOp l i).dst undef) w) :
    alongT P l Q S (.b1 i t) a w := h
theorem T_b2 {i j : Nat} {t u : ASk} {a : Act} {w : World} (h : ∀ K' : Act → World → Prop, Shut (∀ a w, S w → (S w → alongT P l Q S t a w) → K' a w) → if Region.wanted (pickOp l i) (yielded l.toArray a.tmps) = true then Oper.wp P (pickOp l i) a w K' Q else K' (a.put (pickOp l i).dst undef) w)
    (g : ∀ K' : Act → World → Prop, Shut (∀ a w, S w → (S w → alongT P l Q S u a w) → K' a w) → if Region.wanted (pickOp l j) (yielded l.toArray a.tmps) = true then Oper.wp P (pickOp l j) a w K' Q else K' (a.put (pickOp l j).dst undef) w) :
    alongT P l Q S (.b2 i t j u) a w := ⟨h, g⟩
theorem T_b3 {i j k : Nat} {t u v : ASk} {a : Act} {w : World} (h : ∀ K' : Act → World → Prop, Shut (∀ a w, S w → (S w → alongT P l Q S t a w) → K' a w) → if Region.wanted (pickOp l i) (yielded l.toArray a.tmps) = true then Oper.wp P (pickOp l i) a w K' Q else K' (a.put (pickOp l i).dst undef) w)
    (g : ∀ K' : Act → World → Prop, Shut (∀ a w, S w → (S w → alongT P l Q S u a w) → K' a w) → if Region.wanted (pickOp l j) (yielded l.toArray a.tmps) = true then Oper.wp P (pickOp l j) a w K' Q else K' (a.put (pickOp l j).dst undef) w)
    (f : ∀ K' : Act → World → Prop, Shut (∀ a w, S w → (S w → alongT P l Q S v a w) → K' a w) → if Region.wanted (pickOp l k) (yielded l.toArray a.tmps) = true then Oper.wp P (pickOp l k) a w K' Q else K' (a.put (pickOp l k).dst undef) w) :
    alongT P l Q S (.b3 i t j u k v) a w := ⟨h, g, f⟩
/-- A region that draws, walked along the tree t. -/
theorem wp_region_alongT {id : Nat} {a : Act} {w : World} (t : ASk) (hm : P.follows .mixedOrders = true) (hs : Region.noSelect l.toArray = true)
    (hd : t.depth ≤ l.length) (hp : t.pre .any l.toArray l.length (Array.replicate l.length false) = true) (hQ : ∀ c a d v w, Q (.panic c) (Act.put a d v) w → Q (.panic c) a w)
    (hS : S w.drew) (h : S w.drew → alongT P l Q S t a w.drew) : (Code.region id l.toArray true).wp P Q a w := by
  refine wp_region_held (S := S) hm ?_
  have := alongT_sound (P := P) (Q := Q) (S := S) (md := .any) hs hQ t l.toArray.size (Array.replicate l.length false) a w.drew (by simpa using hd) hp hS (h hS)
  simpa using this
end
end Go
