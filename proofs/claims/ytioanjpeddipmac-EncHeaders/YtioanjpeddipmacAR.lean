/- How an arena lies in memory; what calls that turn it keep. -/
import Derived.Test.YtioanjpeddipmacBG
import Derived.Test.YtioanjpeddipmacMG
import Derived.Test.YtioanjpeddipmacLaw
import Derived.Maps.AppendAt
namespace Go.Proofs.Ytioanjpeddipmac
open Go.RowKit Go.Maps Go.MapKept Go.ChangeMaps Go.WideElems Go.Joins
open Go.WideMaps (KeyLaw)
set_option linter.unusedVariables false

theorem bel_al {W w : World} (h : Below W.heap.size W w) (o : Obj) : Below W.heap.size W (w.alloc o) := h.alloc h.size o
theorem bel_on {W w w' : World} {n : Nat} (h : Below n W w) (hb : Below w.heap.size w w') (hn : n ≤ W.heap.size) : Below n W w' := h.trans (hb.mono (by have := h.size; omega))
theorem bel_on' {W w w' : World} (h : Below W.heap.size W w) (hb : Below w.heap.size w w') : Below W.heap.size W w' := bel_on h hb (Nat.le_refl _)
/-- What was there is there. -/
theorem bkeep {W w : World} (h : Below W.heap.size W w) : Below W.heap.size W w ∧ ∀ b o, (W.cell? ⟨b, o, none⟩).isSome = true → w.cell? ⟨b, o, none⟩ = W.cell? ⟨b, o, none⟩ :=
  ⟨h, fun b o hc => h.cell (p := ⟨b, o, none⟩) (cell_lt hc)⟩
theorem Blk.put3 {w : World} {b : Nat} {x y z : Value} (h : Blk w b [x, y, z]) (x' y' z' : Value) : Blk (((w.setCell ⟨b, 0, none⟩ x').setCell ⟨b, 1, none⟩ y').setCell ⟨b, 2, none⟩ z') b [x', y', z'] :=
  ((h.set 0 x' (by simp)).set 1 y' (by simp)).set 2 z' (by simp)
theorem Blk.far3 {w : World} {b c : Nat} {cs : List Value} (h : Blk w b cs) (hne : c ≠ b) (x' y' z' : Value) : Blk (((w.setCell ⟨c, 0, none⟩ x').setCell ⟨c, 1, none⟩ y').setCell ⟨c, 2, none⟩ z') b cs :=
  ((h.far _ _ hne).far _ _ hne).far _ _ hne
theorem bel_put3 {W w : World} {n c : Nat} (h : Below n W w) (hn : n ≤ c) (x' y' z' : Value) : Below n W (((w.setCell ⟨c, 0, none⟩ x').setCell ⟨c, 1, none⟩ y').setCell ⟨c, 2, none⟩ z') :=
  ((h.setCell hn _).setCell hn _).setCell hn _
/-- A node's cells, and its value. -/
def nc (n : Nd) : List Value := [.int .i64 (n.v : Nat), .int .i64 (n.l : Nat), .int .i64 (n.h : Nat)]
def nv (n : Nd) : Value := .agg #[.int .i64 (n.v : Nat), .int .i64 (n.l : Nat), .int .i64 (n.h : Nat)]
theorem nv_inj (a b : Nd) (h : nv a = nv b) : a = b := by
  obtain ⟨a1, a2, a3⟩ := a
  obtain ⟨b1, b2, b3⟩ := b
  simp [nv] at h
  simp; omega
theorem wf64 (a : Nat) (h : a ≤ 9223372036854775807) : (Lit.int .i64 (a : Int)).wf = true := by
  rw [Lit.wf, Bool.and_eq_true, decide_eq_true_eq, decide_eq_true_eq, show IntKind.i64.min = -9223372036854775808 from rfl, show IntKind.i64.max = 9223372036854775807 from rfl]; omega
set_option maxRecDepth 100000 in
theorem wideNode : (match Try.prog.underlying 73 with | some (.array _ _) | some (.struct _) => true | _ => false) = true := by rw [Try.underlying73]
set_option maxRecDepth 100000 in
theorem lawNode : KeyLaw Try.prog 73 := deep_law_laid laidOutA (m := 2) (by omega) (of_decide_eq_true (by kernel_rfl)) (by kernel_rfl) wideNode
theorem keyedNode : Keyed Try.prog 73 := Keyed.of_law lawNode
set_option maxRecDepth 100000 in
theorem zeroInt (w : World) : (zeroValue 3).run Try.prog w = .ok (.int .i64 0) w := by kernel_rfl
/-- A node's numbers are of their type. -/
def Nd.Ok (n : Nd) : Prop := n.v ≤ 9223372036854775807 ∧ n.l ≤ 9223372036854775807 ∧ n.h ≤ 9223372036854775807
set_option maxRecDepth 100000 in
theorem key_node (n : Nd) (h : n.Ok) : ∃ l, keyOf Try.prog 73 (nv n) = some l := by
  have ht : DataW.Trod (fun _ => ()) Try.prog default 0 (fun _ => true) true 73 (nv n) _ _ := shut_agg3 (y0 := (.lit (.int .i64 (n.v : Nat)), [])) (y1 := (.lit (.int .i64 (n.l : Nat)), [])) (y2 := (.lit (.int .i64 (n.h : Nat)), [])) Try.underlying73 (by kernel_rfl) (by kernel_rfl) ⟨1, by simp [DataW.trod, Try.underlying3, wf64 _ h.1]⟩ ⟨1, by simp [DataW.trod, Try.underlying3, wf64 _ h.2.1]⟩ ⟨1, by simp [DataW.trod, Try.underlying3, wf64 _ h.2.2]⟩
  exact ⟨_, (keyOf_asKey (by kernel_rfl) wideNode (by simp [nv, Value.formed, Try.underlying73]; kernel_rfl) ht).1⟩
set_option maxRecDepth 100000 in
theorem infoNode : (Try.prog.info? 73).map (fun i => (i.zero, i.size, i.bytes)) = some (some (.agg #[.int .i64 0, .int .i64 0, .int .i64 0]), 3, 24) := by kernel_rfl
/-- What the map of numbers holds. -/
def numL (ns : List Nd) : List (Nd × Nat) := ns.zipIdx.drop 2
theorem mem_numL {ns : List Nd} {n : Nd} {f : Nat} : (n, f) ∈ numL ns ↔ 2 ≤ f ∧ ns[f]? = some n := by
  unfold numL
  constructor
  · intro h
    obtain ⟨i, hi⟩ := List.getElem?_of_mem h
    rw [List.getElem?_drop, List.getElem?_zipIdx] at hi
    cases hg : ns[2 + i]? with
    | none => rw [hg] at hi; cases hi
    | some m => rw [hg] at hi; simp at hi; obtain ⟨rfl, rfl⟩ := hi; exact ⟨by omega, hg⟩
  · rintro ⟨h2, hf⟩
    refine List.mem_of_getElem? (i := f - 2) ?_
    rw [List.getElem?_drop, List.getElem?_zipIdx, show 2 + (f - 2) = f by omega, hf]
    simp
theorem numL_len (ns : List Nd) : (numL ns).length ≤ ns.length := by unfold numL; simp
theorem numL_one {ns : List Nd} (h : WF ns) : ((numL ns).map (·.1)).Nodup := by
  have hn : ns.Nodup := by
    unfold List.Nodup
    rw [List.pairwise_iff_getElem]
    intro i j hi hj hij e
    have := h.inj i j ns[i] (List.getElem?_eq_getElem hi) (by rw [e]; exact List.getElem?_eq_getElem hj)
    omega
  unfold numL
  rw [List.map_drop]
  have e : ns.zipIdx.map (·.1) = ns := by simp
  rw [e]
  exact List.Pairwise.sublist (List.drop_sublist _ _) hn
/-- w' is w but for some blocks, and what is new. -/
structure Keep (S : Nat → Prop) (w w' : World) : Prop where
  os : w'.os = w.os
  tape : w'.tape = w.tape
  output : w'.output = w.output
  size : w.heap.size ≤ w'.heap.size
  block : ∀ k, k < w.heap.size → ¬ S k → w'.heap[k]? = w.heap[k]?
theorem Keep.refl (S : Nat → Prop) (w : World) : Keep S w w := ⟨rfl, rfl, rfl, Nat.le_refl _, fun _ _ _ => rfl⟩
theorem Keep.trans {S S' : Nat → Prop} {a b c : World} (h : Keep S a b) (k : Keep S' b c) (hs : ∀ i, i < a.heap.size → S' i → S i) : Keep S a c :=
  ⟨k.os.trans h.os, k.tape.trans h.tape, k.output.trans h.output, Nat.le_trans h.size k.size, fun i hi hn => (k.block i (Nat.lt_of_lt_of_le hi h.size) (fun q => hn (hs i hi q))).trans (h.block i hi hn)⟩
theorem Keep.of {S : Nat → Prop} {w w' : World} (h : Below w.heap.size w w') : Keep S w w' := ⟨h.os, h.tape, h.output, h.size, fun k hk _ => h.block k hk⟩
theorem Keep.below {S : Nat → Prop} {w w' : World} (h : Keep S w w') {n : Nat} (hn : n ≤ w.heap.size) (hs : ∀ k, k < n → ¬ S k) : Below n w w' := ⟨h.os, h.tape, h.output, h.size, fun k hk => h.block k (by omega) (hs k hk)⟩
theorem Keep.only {S : Nat → Prop} {a b c : World} {x : Nat} (h : Keep S a b) (k : Only x b c) (hs : x < a.heap.size → S x) : Keep S a c :=
  ⟨k.os.trans h.os, k.tape.trans h.tape, k.out.trans h.output, by rw [k.size]; exact h.size, fun i hi hn => (k.blk i (fun e => hn (by subst e; exact hs hi))).trans (h.block i hi hn)⟩
theorem Keep.set {S : Nat → Prop} {a b : World} (h : Keep S a b) (p : Addr) (u : Value) (hs : p.block < a.heap.size → S p.block) : Keep S a (b.setCell p u) :=
  h.trans (S' := fun i => i = p.block) ⟨rfl, rfl, rfl, by simp [World.setCell], fun k hk hn => Below.heap_setCell _ _ _ _ hn⟩ (fun i hi e => by subst e; exact hs hi)
theorem Keep.grown {S : Nat → Prop} {a b c : World} {row : Option Nat} (h : Keep S a b) (hg : b.grownBy c row) (hs : ∀ k, row = some k → k < a.heap.size → S k) : Keep S a c :=
  h.trans (S' := fun i => row = some i) ⟨hg.os, hg.tape, hg.output, hg.size, fun k hk hn => hg.block k hk (fun e => hn e.symm)⟩ (fun i hi e => hs i e hi)
theorem Keep.drew {S : Nat → Prop} {a b : World} (h : Keep S a b) : Keep S a b.drew := ⟨h.os, h.tape, h.output, h.size, h.block⟩
theorem Keep.al {S : Nat → Prop} {a b : World} (h : Keep S a b) (o : Obj) : Keep S a (b.alloc o) := h.trans (S' := fun _ => False) (Keep.of (bel_al (Below.refl _ _) _)) (fun _ _ q => q.elim)
theorem Keep.mono {S S' : Nat → Prop} {w w' : World} (h : Keep S w w') (hs : ∀ i, i < w.heap.size → S i → S' i) : Keep S' w w' := ⟨h.os, h.tape, h.output, h.size, fun k hk hn => h.block k hk (fun q => hn (hs k hk q))⟩
theorem Keep.blk {S : Nat → Prop} {w w' : World} {b : Nat} {c : Value} {cs : List Value} (h : Keep S w w') (hb : Blk w b (c :: cs)) (hs : ¬ S b) : Blk w' b (c :: cs) := by
  have e := h.block b hb.lt hs
  exact ⟨fun i v hv => (World.cell?_of_block (w := w) (a := ⟨b, i, none⟩) e).trans (hb.1 i v hv), fun i v hv => (World.frozen?_of_block (w := w) (a := ⟨b, i, none⟩) e).trans (hb.2 i v hv)⟩
/-- Where an arena lies: itself, its nodes, its numbers; how many nodes there is room for without a move. -/
structure AL where
  p : Nat
  q : Nat
  m : Nat
  cap : Nat
def AL.has (a : AL) (k : Nat) : Prop := k = a.p ∨ k = a.q ∨ k = a.m
def AL.ns (a : AL) (n : Nat) : Value := .slice (some ⟨a.q, 0, none⟩) n a.cap
def AL.cells (a : AL) (most n : Nat) : List Value := [.int .i64 (most : Nat), .slice (some ⟨a.q, 0, none⟩) n a.cap, .map (some a.m)]
/-- An arena of these nodes lies there. -/
structure Ar (w : World) (a : AL) (most : Nat) (ns : List Nd) : Prop where
  s : Blk w a.p (a.cells most ns.length)
  o : w.ownsRow 0 73 3 (.slice (some ⟨a.q, 0, none⟩) ns.length a.cap) ns.length (ns.flatMap nc)
  m : MapG Try.prog 73 3 nv w a.m (numL ns)
  len : ns.length ≤ 262144
  most : most ≤ 262144
  pq : a.p ≠ a.q
theorem Ar.row {w : World} {a : AL} {most : Nat} {ns : List Nd} (h : Ar w a most ns) : ∃ cur, w.heap[a.q]? = some (.cells cur 73 (0, 0)) ∧ ns.length ≤ a.cap ∧ a.cap ≤ maxLen ∧ cur.size = a.cap * 3 ∧ cur.toList.take (ns.length * 3) = ns.flatMap nc := by
  rcases h.o.2 with ⟨e, -⟩ | ⟨g, cap, cur, e, -, h1, h2, h3, h4, h5⟩
  · cases e
  · cases e; exact ⟨cur, h1, h2, h3, h4, h5⟩
theorem Ar.ql {w : World} {a : AL} {most : Nat} {ns : List Nd} (h : Ar w a most ns) : a.q < w.heap.size := by
  obtain ⟨cur, h1, -⟩ := h.row
  rcases Nat.lt_or_ge a.q w.heap.size with q | q
  · exact q
  · rw [Array.getElem?_eq_none q] at h1; cases h1
theorem Ar.pl {w : World} {a : AL} {most : Nat} {ns : List Nd} (h : Ar w a most ns) : a.p < w.heap.size := h.s.lt
theorem Ar.ml {w : World} {a : AL} {most : Nat} {ns : List Nd} (h : Ar w a most ns) : a.m < w.heap.size := h.m.lt
theorem Ar.qm {w : World} {a : AL} {most : Nat} {ns : List Nd} (h : Ar w a most ns) : a.q ≠ a.m := by
  obtain ⟨cur, h1, -⟩ := h.row
  obtain ⟨es, clock, h2⟩ := h.m.isMap
  intro e; rw [e, h2] at h1; cases h1
theorem Ar.pm {w : World} {a : AL} {most : Nat} {ns : List Nd} (h : Ar w a most ns) : a.p ≠ a.m := by
  obtain ⟨es, clock, h2⟩ := h.m.isMap
  intro e
  have := h.s.1 0 _ rfl
  rw [e] at this
  simp [World.cell?, h2] at this
theorem flat_len (ns : List Nd) : (ns.flatMap nc).length = ns.length * 3 := by
  induction ns with
  | nil => rfl
  | cons n r ih => rw [List.flatMap_cons, List.length_append, ih, List.length_cons]; show 3 + _ = _; omega
theorem flat_at : ∀ (ns : List Nd) (f j : Nat) (n : Nd) (v : Value), ns[f]? = some n → (nc n)[j]? = some v → (ns.flatMap nc)[f * 3 + j]? = some v
  | [], f, j, n, v, hf, hv => by simp at hf
  | x :: r, 0, j, n, v, hf, hv => by
    simp at hf; subst hf
    have : j < 3 := lt_of_get hv
    rw [List.flatMap_cons, Nat.zero_mul, Nat.zero_add, List.getElem?_append_left (by exact this)]; exact hv
  | x :: r, f + 1, j, n, v, hf, hv => by
    have hx : (nc x).length = 3 := rfl
    rw [List.flatMap_cons, List.getElem?_append_right (by rw [hx]; omega), hx, show (f + 1) * 3 + j - 3 = f * 3 + j by omega]
    exact flat_at r f j n v (by simpa using hf) hv
theorem flat_take : ∀ (ns : List Nd) (d : Nat), (ns.flatMap nc).take (d * 3) = (ns.take d).flatMap nc
  | [], d => by simp
  | x :: r, 0 => by simp
  | x :: r, d + 1 => by
    have hx : (nc x).length = 3 := rfl
    rw [List.flatMap_cons, List.take_succ_cons, List.flatMap_cons, List.take_append, hx, List.take_of_length_le (by rw [hx]; omega), show (d + 1) * 3 - 3 = d * 3 by omega, flat_take r d]
/-- A node's cells. -/
theorem Ar.node {w : World} {a : AL} {most : Nat} {ns : List Nd} (h : Ar w a most ns) {f : Nat} (hf : f < ns.length) {j : Nat} {v : Value} (hv : (nc (ns.getD f bot))[j]? = some v) : w.cell? ⟨a.q, f * 3 + j, none⟩ = some v := by
  have e := flat_at ns f j _ v (get_of_lt hf) hv
  have := h.o.cells (g := a.q) rfl (f * 3 + j) v e
  unfold Addr.add at this
  split at this
  · rename_i q
    rw [q]; exact this
  · simpa using this
/-- What else lies there stays. -/
theorem Ar.keep {S : Nat → Prop} {w w' : World} {a : AL} {most : Nat} {ns : List Nd} (h : Ar w a most ns) (k : Keep S w w') (hs : ∀ i, a.has i → ¬ S i) : Ar w' a most ns := by
  refine ⟨k.blk h.s (hs _ (Or.inl rfl)), ?_, h.m.same (k.block _ h.ml (hs _ (Or.inr (Or.inr rfl)))), h.len, h.most, h.pq⟩
  obtain ⟨cur, h1, h2, h3, h4, h5⟩ := h.row
  exact ⟨h.o.1, Or.inr ⟨a.q, a.cap, cur, rfl, Nat.zero_le _, (k.block _ h.ql (hs _ (Or.inr (Or.inl rfl)))).trans h1, h2, h3, h4, h5⟩⟩
theorem Ar.on {w w' : World} {a : AL} {most : Nat} {ns : List Nd} (h : Ar w a most ns) (hb : Below w.heap.size w w') : Ar w' a most ns := h.keep (S := fun _ => False) (Keep.of hb) (fun _ _ q => q)
/-- Where it lies behind a call. -/
def Mv (w : World) (a a' : AL) : Prop := a'.p = a.p ∧ a'.m = a.m ∧ (a'.q = a.q ∨ w.heap.size ≤ a'.q)
theorem Mv.refl (w : World) (a : AL) : Mv w a a := ⟨rfl, rfl, Or.inl rfl⟩
theorem Mv.trans {w w' : World} {a b c : AL} (h : Mv w a b) (k : Mv w' b c) (hs : w.heap.size ≤ w'.heap.size) : Mv w a c :=
  ⟨k.1.trans h.1, k.2.1.trans h.2.1, by
    rcases k.2.2 with e | e
    · rw [e]; exact h.2.2
    · exact Or.inr (by omega)⟩
theorem Mv.has {w : World} {a a' : AL} (h : Mv w a a') {i : Nat} (hi : i < w.heap.size) (hh : a'.has i) : a.has i := by
  obtain ⟨h1, h2, h3⟩ := h
  rcases hh with e | e | e
  · exact Or.inl (by omega)
  · rcases h3 with q | q
    · exact Or.inr (Or.inl (by omega))
    · omega
  · exact Or.inr (Or.inr (by omega))
/-- What a call that may turn the arena, and the blocks X, leaves. -/
structure Tr (X : Nat → Prop) (w : World) (a : AL) (w' : World) (a' : AL) : Prop where
  k : Keep (fun i => a.has i ∨ X i) w w'
  m : Mv w a a'
theorem Tr.refl (X : Nat → Prop) (w : World) (a : AL) : Tr X w a w a := ⟨Keep.refl _ _, Mv.refl _ _⟩
theorem Tr.trans {X : Nat → Prop} {w w' w'' : World} {a b c : AL} (h : Tr X w a w' b) (k : Tr X w' b w'' c) : Tr X w a w'' c :=
  ⟨h.k.trans k.k (fun i hi q => q.imp (fun r => h.m.has hi r) id), h.m.trans k.m h.k.size⟩
theorem Tr.below {X : Nat → Prop} {w w' w'' : World} {a b : AL} (h : Tr X w a w' b) (k : Below w'.heap.size w' w'') : Tr X w a w'' b :=
  ⟨h.k.trans (S' := fun _ => False) (Keep.of k) (fun _ _ q => q.elim), h.m⟩
theorem Tr.ahead {X : Nat → Prop} {w w' w'' : World} {a b : AL} (k : Below w.heap.size w w') (h : Tr X w' a w'' b) : Tr X w a w'' b :=
  ⟨(Keep.of k).trans h.k (fun i hi q => q), ⟨h.m.1, h.m.2.1, by
    rcases h.m.2.2 with e | e
    · exact Or.inl e
    · exact Or.inr (by have := k.size; omega)⟩⟩
/-- A block beside the arena. -/
def Off (X : Nat → Prop) (a : AL) (b : Nat) : Prop := b ≠ a.p ∧ b ≠ a.q ∧ b ≠ a.m ∧ ¬ X b
theorem Off.not {X : Nat → Prop} {a : AL} {b : Nat} (h : Off X a b) : ¬ (a.has b ∨ X b) := by
  rintro ((e | e | e) | e)
  · exact h.1 e
  · exact h.2.1 e
  · exact h.2.2.1 e
  · exact h.2.2.2 e
theorem Off.on {X : Nat → Prop} {w w' : World} {a a' : AL} {b : Nat} (h : Off X a b) (t : Tr X w a w' a') (hb : b < w.heap.size) : Off X a' b := by
  obtain ⟨h1, h2, h3, h4⟩ := h
  obtain ⟨t1, t2, t3⟩ := t.m
  refine ⟨by omega, ?_, by omega, h4⟩
  rcases t3 with e | e <;> omega
theorem Blk.tr {X : Nat → Prop} {w w' : World} {a a' : AL} {b : Nat} {c : Value} {cs : List Value} (h : Blk w b (c :: cs)) (t : Tr X w a w' a') (hb : Off X a b) : Blk w' b (c :: cs) := t.k.blk h hb.not
end Go.Proofs.Ytioanjpeddipmac
