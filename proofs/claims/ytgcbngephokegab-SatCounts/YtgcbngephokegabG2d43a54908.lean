/- Texts joined, in their order: AX, RW, LM0. -/
import Derived.Test.YtgcbngephokegabGbd1e9ab6b4
import Derived.Test.YtgcbngephokegabGc388192ded
import Derived.Test.YtgcbngephokegabGbd99d8efb1
import Derived.Test.YtgcbngephokegabGe7cc0695f7
import Derived.Test.YtgcbngephokegabGe31e430b94
import Derived.Lib.SmallJoins
import Derived.LoopN
import Derived.Deep.CutBlock
/- Calls on an arena that lies beside some blocks: what they answer; that the blocks stay. -/
namespace Go.Proofs.Ytgcbngephokegab
open Go.RowKit
set_option linter.unusedVariables false

/-- An arena at p, beside the blocks Z. -/
def Sta (Z : Nat → Prop) (p : Nat) (W : World) (most : Nat) (ns : List Nd) : Prop := ∃ a : AL, a.p = p ∧ Ar W a most ns ∧ WF ns ∧ (∀ k, a.has k → ¬ Z k) ∧ ∀ k, Z k → k < W.heap.size
/-- The blocks Z stay. -/
abbrev Hold (Z : Nat → Prop) (W w' : World) : Prop := Keep (fun k => ¬ Z k) W w'
theorem Sta.wf {Z : Nat → Prop} {p : Nat} {W : World} {most : Nat} {ns : List Nd} (h : Sta Z p W most ns) : WF ns := by obtain ⟨a, -, -, q, -⟩ := h; exact q
theorem Sta.len {Z : Nat → Prop} {p : Nat} {W : World} {most : Nat} {ns : List Nd} (h : Sta Z p W most ns) : ns.length ≤ 262144 := by obtain ⟨a, -, q, -⟩ := h; exact q.len
theorem Sta.on {Z : Nat → Prop} {p : Nat} {W W' : World} {most : Nat} {ns : List Nd} (h : Sta Z p W most ns) (hb : Below W.heap.size W W') : Sta Z p W' most ns := by
  obtain ⟨a, h1, h2, h3, h4, h5⟩ := h
  exact ⟨a, h1, h2.on hb, h3, h4, fun k hk => by have := h5 k hk; have := hb.size; omega⟩
/-- New blocks are none of its. -/
theorem Sta.grow {Z : Nat → Prop} {p : Nat} {W W' : World} {most : Nat} {ns : List Nd} (h : Sta Z p W most ns) (hb : Below W.heap.size W W') {Y : Nat → Prop} (hY : ∀ k, Y k → W.heap.size ≤ k ∧ k < W'.heap.size) : Sta (fun k => Z k ∨ Y k) p W' most ns := by
  obtain ⟨a, h1, h2, h3, h4, h5⟩ := h
  refine ⟨a, h1, h2.on hb, h3, fun k hk q => ?_, fun k hk => ?_⟩
  · rcases q with q | q
    · exact h4 k hk q
    · have := (hY k q).1
      have a1 := h2.pl
      have a2 := h2.ql
      have a3 := h2.ml
      rcases hk with e | e | e <;> omega
  · rcases hk with q | q
    · have := h5 k q; have := hb.size; omega
    · exact (hY k q).2
theorem Sta.less {Z Z' : Nat → Prop} {p : Nat} {W : World} {most : Nat} {ns : List Nd} (h : Sta Z p W most ns) (hz : ∀ k, Z' k → Z k) : Sta Z' p W most ns := by
  obtain ⟨a, h1, h2, h3, h4, h5⟩ := h
  exact ⟨a, h1, h2, h3, fun k hk q => h4 k hk (hz k q), fun k hk => h5 k (hz k hk)⟩
theorem Hold.below {Z : Nat → Prop} {W w' : World} (h : Hold Z W w') {n : Nat} (hn : n ≤ W.heap.size) (hz : ∀ k, k < n → Z k) : Below n W w' := Keep.below h hn (fun k hk q => q (hz k hk))
theorem Hold.of {Z : Nat → Prop} {W w' : World} (h : Below W.heap.size W w') : Hold Z W w' := Keep.of h
theorem Hold.trans {Z : Nat → Prop} {a b c : World} (h : Hold Z a b) (k : Hold Z b c) : Hold Z a c := Keep.trans h k (fun _ _ q => q)
theorem Hold.less {Z Z' : Nat → Prop} {W w' : World} (h : Hold Z W w') (hz : ∀ k, Z' k → Z k) : Hold Z' W w' := Keep.mono h (fun i _ q r => q (hz i r))
theorem Hold.cell {Z : Nat → Prop} {W w' : World} (h : Hold Z W w') {b o : Nat} (hz : Z b) {v : Value} (hc : W.cell? ⟨b, o, none⟩ = some v) : w'.cell? ⟨b, o, none⟩ = some v := by
  have e := h.block b (cell_lt (o := o) (by rw [hc]; rfl)) (fun q => q hz)
  exact (World.cell?_of_block (w := W) (a := ⟨b, o, none⟩) e).trans hc
theorem Hold.frozen {Z : Nat → Prop} {W w' : World} (h : Hold Z W w') {b o : Nat} (hz : Z b) {v : Value} (hc : W.cell? ⟨b, o, none⟩ = some v) : w'.frozen? ⟨b, o, none⟩ = W.frozen? ⟨b, o, none⟩ := by
  have e := h.block b (cell_lt (o := o) (by rw [hc]; rfl)) (fun q => q hz)
  exact World.frozen?_of_block (w := W) (a := ⟨b, o, none⟩) e
theorem Hold.blk {Z : Nat → Prop} {W w' : World} (h : Hold Z W w') {b : Nat} (hz : Z b) {c : Value} {cs : List Value} (hc : Blk W b (c :: cs)) : Blk w' b (c :: cs) := Keep.blk h hc (fun q => q hz)
/-- What a call answers, and that it leaves the arena and the blocks. -/
def Got2 (Z : Nat → Prop) (p most : Nat) (R : Option Nat × List Nd) (W : World) (e : Ending) (w' : World) : Prop :=
  e = .returned (.tuple #[.int .i64 (rv R.1 : Nat), .int .i64 (er R.1)]) ∧ Sta Z p w' most R.2 ∧ Hold Z W w'
theorem got2_of {Z : Nat → Prop} {most : Nat} {R : Option Nat × List Nd} {W : World} {a : AL} {e : Ending} {w' : World} (h4 : ∀ k, a.has k → ¬ Z k) (h5 : ∀ k, Z k → k < W.heap.size) (hw : WF R.2) (h : Ans most R W a e w') : Got2 Z a.p most R W e w' := by
  obtain ⟨rfl, a', hA, hT⟩ := h
  refine ⟨rfl, ⟨a', hT.m.1, hA, hw, fun k hk q => ?_, fun k hk => by have := h5 k hk; have := hT.k.size; omega⟩, hT.k.mono (fun i _ q => q.elim (fun r => h4 i r) (fun r => r.elim))⟩
  exact h4 k (hT.m.has (h5 k q) hk) q
section
variable {Z : Nat → Prop} {p most : Nat} {W : World} {ns : List Nd}
theorem sJoin (h : Sta Z p W most ns) (kind f g : Nat) (hk : kind ≤ 3) (hf : f < ns.length) (hg : g < ns.length) : Calls Try.prog 17 #[.pointer (some ⟨p, 0, none⟩), .int .i64 (kind : Nat), .int .i64 (f : Nat), .int .i64 (g : Nat)] W (Got2 Z p most (jF kind most ns f g) W) := by
  obtain ⟨a, rfl, h2, h3, h4, h5⟩ := h
  exact (joinJ_any kind most ns f g W a h2 h3 hk hf hg).mono fun _ _ => got2_of h4 h5 (got_join kind most h3 hf hg).wf
theorem sNot (h : Sta Z p W most ns) (f : Nat) (hf : f < ns.length) : Calls Try.prog 18 #[.pointer (some ⟨p, 0, none⟩), .int .i64 (f : Nat)] W (Got2 Z p most (jF 3 most ns 1 f) W) := by
  obtain ⟨a, rfl, h2, h3, h4, h5⟩ := h
  exact (not_any most ns f W a h2 h3 hf).mono fun _ _ => got2_of h4 h5 (got_join 3 most h3 (by have := h3.len; omega) hf).wf
theorem sIte (h : Sta Z p W most ns) (f g i : Nat) (hf : f < ns.length) (hg : g < ns.length) (hi : i < ns.length) : Calls Try.prog 20 #[.pointer (some ⟨p, 0, none⟩), .int .i64 (f : Nat), .int .i64 (g : Nat), .int .i64 (i : Nat)] W (Got2 Z p most (iF most ns f g i) W) := by
  obtain ⟨a, rfl, h2, h3, h4, h5⟩ := h
  exact (iteJ_any most ns f g i W a h2 h3 hf hg hi).mono fun _ _ => got2_of h4 h5 (got_ite most h3 hf hg hi).1.wf
theorem sRes (h : Sta Z p W most ns) (f i : Nat) (on : Bool) (hi : i < 104) (hf : f < ns.length) : Calls Try.prog 19 #[.pointer (some ⟨p, 0, none⟩), .int .i64 (f : Nat), .int .i64 (i : Nat), .bool on] W (Got2 Z p most (rF i on most ns f) W) := by
  obtain ⟨a, rfl, h2, h3, h4, h5⟩ := h
  exact (resJ_any i on hi most ns f W a h2 h3 hf).mono fun _ _ => got2_of h4 h5 (got_held i on most hi h3 hf).wf
theorem sVar (h : Sta Z p W most ns) (i : Nat) (hi : i < 104) : Calls Try.prog 14 #[.pointer (some ⟨p, 0, none⟩), .int .i64 (i : Nat)] W (Got2 Z p most (cF most ns [(i, true)]) W) := by
  obtain ⟨a, rfl, h2, h3, h4, h5⟩ := h
  exact (var_any a most ns i hi W h2 h3).mono fun _ _ => got2_of h4 h5 (got_cube most h3 _ (rise_one hi true).1 (rise_one hi true).2).wf
/-- Bits that lie in a block of Z. -/
theorem sCube (h : Sta Z p W most ns) (l : List (Nat × Bool)) (hr : Rise l) (b cap : Nat) (hl : LitC W b (natL l)) (hb : Z b) : Calls Try.prog 16 #[.pointer (some ⟨p, 0, none⟩), .slice (some ⟨b, 0, none⟩) l.length cap] W (Got2 Z p most (cF most ns l) W) := by
  obtain ⟨a, rfl, h2, h3, h4, h5⟩ := h
  exact (cubeJ_any a most ns l W h2 h3 hr b cap hl (h5 b hb) ⟨fun e => h4 b (Or.inl e) hb, fun e => h4 b (Or.inr (Or.inl e)) hb, fun e => h4 b (Or.inr (Or.inr e)) hb, fun q => q⟩).mono fun _ _ => got2_of h4 h5 (got_cube most h3 _ hr.1 hr.2).wf
theorem sCut (h : Sta Z p W most ns) (n : Int) : Calls Try.prog 52 #[.pointer (some ⟨p, 0, none⟩), .int .i64 n] W fun e w' => e = .returned (.tuple #[]) ∧ Sta Z p w' most (ns.take (max n.toNat 2)) ∧ Hold Z W w' := by
  obtain ⟨a, rfl, h2, h3, h4, h5⟩ := h
  refine (cut_any a most ns n W h2 h3).mono ?_
  rintro e w' ⟨rfl, hA, hT⟩
  exact ⟨rfl, ⟨a, rfl, hA, h3.take _ (by omega), h4, fun k hk => by have := h5 k hk; have := hT.k.size; omega⟩, hT.k.mono (fun i _ q => q.elim (fun r => h4 i r) (fun r => r.elim))⟩
theorem sLen (h : Sta Z p W most ns) : Calls Try.prog 46 #[.pointer (some ⟨p, 0, none⟩)] W fun e w' => e = .returned (.int .i64 (ns.length : Nat)) ∧ W = w' := by
  obtain ⟨a, rfl, h2, h3, h4, h5⟩ := h
  exact len_any a most ns W h2
theorem sHas (h : Sta Z p W most ns) (f : Int) : Calls Try.prog 24 #[.pointer (some ⟨p, 0, none⟩), .int .i64 f] W fun e w' => e = .returned (.bool (hasB ns.length f)) ∧ W = w' := by
  obtain ⟨a, rfl, h2, h3, h4, h5⟩ := h
  exact has_any a most ns f W h2
theorem sNode (h : Sta Z p W most ns) (f : Nat) (hf : f < ns.length) : Calls Try.prog 49 #[.pointer (some ⟨p, 0, none⟩), .int .i64 (f : Nat)] W fun e w' => e = .returned (.tuple #[.int .i64 ((ns.getD f bot).v : Nat), .int .i64 ((ns.getD f bot).l : Nat), .int .i64 ((ns.getD f bot).h : Nat)]) ∧ Below W.heap.size W w' := by
  obtain ⟨a, rfl, h2, h3, h4, h5⟩ := h
  exact node_any a most ns f W h2 hf
end
/-- A new arena lies beside all that there was. -/
theorem sNew (most : Nat) (h2 : 2 ≤ most) (hm : most ≤ 262144) (w : World) : Calls Try.prog 6 #[.int .i64 (most : Nat)] w fun e w' => ∃ p, e = .returned (.tuple #[.pointer (some ⟨p, 0, none⟩), .int .i64 0]) ∧ Sta (fun k => k < w.heap.size) p w' most [bot, top] ∧ Below w.heap.size w w' := by
  refine (new_any most h2 hm w).mono ?_
  rintro e w' ⟨a, rfl, hA, hb, h1, h2, h3⟩
  exact ⟨a.p, rfl, ⟨a, rfl, hA, wf_new, fun k hk q => by rcases hk with e | e | e <;> omega, fun k hk => by have := hb.size; omega⟩, hb⟩
end Go.Proofs.Ytgcbngephokegab
/- Slices of structs that are handed in, opened to lists of records. No program in sight. -/
namespace Go.Proofs.Ytgcbngephokegab
open Go.ChangeShapes Go.WideShapes Go.ChangeAt Go.RowKit Go.Joins Go.Deep Go.WideElems Go.Maps
set_option linter.unusedVariables false

/-- These cells lie behind a slice's address. -/
def Rw (w : World) (a : Option Addr) (cs : List Value) : Prop := ∀ j v, cs[j]? = some v → ∃ b off, a = some ⟨b, off, none⟩ ∧ w.cell? ⟨b, off + j, none⟩ = some v
theorem Rw.on {w w' : World} {a : Option Addr} {cs : List Value} (h : Rw w a cs) (hb : Below w.heap.size w w') : Rw w' a cs := fun j v hv => by
  obtain ⟨b, off, e, hc⟩ := h j v hv
  exact ⟨b, off, e, (hb.cell (p := ⟨b, off + j, none⟩) (cell_lt (o := off + j) (by rw [hc]; rfl))).trans hc⟩
theorem Rw.ad {w : World} {a : Option Addr} {c : Value} {cs : List Value} (h : Rw w a (c :: cs)) : ∃ b off, a = some ⟨b, off, none⟩ := by
  obtain ⟨b, off, e, -⟩ := h 0 c rfl; exact ⟨b, off, e⟩
theorem Rw.cell {w : World} {b off : Nat} {cs : List Value} (h : Rw w (some ⟨b, off, none⟩) cs) {j : Nat} {v : Value} (hv : cs[j]? = some v) : w.cell? ⟨b, off + j, none⟩ = some v := by
  obtain ⟨b', off', e, hc⟩ := h j v hv
  cases e; exact hc
theorem Rw.pre {w : World} {a : Option Addr} {cs ds : List Value} (h : Rw w a (cs ++ ds)) : Rw w a cs := fun j v hv => h j v (by
  rw [List.getElem?_append_left]
  · exact hv
  · rcases Nat.lt_or_ge j cs.length with q | q
    · exact q
    · rw [List.getElem?_eq_none q] at hv; cases hv)
theorem Rw.take {α : Type} {w : World} {a : Option Addr} {f : α → List Value} {L : List α} (h : Rw w a (L.flatMap f)) (k : Nat) : Rw w a ((L.take k).flatMap f) := by
  rw [← List.take_append_drop k L, List.flatMap_append] at h
  exact h.pre
/-- Where the j-th cell of the i-th of rows of k cells each stands. -/
theorem flat_get {α : Type} (f : α → List Value) (k : Nat) : ∀ (L : List α), (∀ x ∈ L, (f x).length = k) → ∀ (i j : Nat) (x : α), L[i]? = some x → j < k → (L.flatMap f)[k * i + j]? = (f x)[j]?
  | [], _, i, j, x, hx, _ => by simp at hx
  | y :: r, hk, 0, j, x, hx, hj => by
    simp at hx; subst hx
    rw [List.flatMap_cons, Nat.mul_zero, Nat.zero_add, List.getElem?_append_left (by rw [hk _ (by simp)]; exact hj)]
  | y :: r, hk, i + 1, j, x, hx, hj => by
    have hy : (f y).length = k := hk y (by simp)
    rw [List.flatMap_cons, List.getElem?_append_right (by rw [hy, Nat.mul_succ]; omega), hy, show k * (i + 1) + j - k = k * i + j by rw [Nat.mul_succ]; omega]
    exact flat_get f k r (fun x hx => hk x (by simp [hx])) i j x (by simpa using hx) hj
/-- The j-th cell of the i-th element. -/
theorem Rw.elem {α : Type} {w : World} {b off : Nat} {f : α → List Value} {L : List α} (k : Nat) (h : Rw w (some ⟨b, off, none⟩) (L.flatMap f)) (hk : ∀ x, (f x).length = k) {i : Nat} {x : α} (hx : L[i]? = some x) (j : Nat) {v : Value} (hv : (f x)[j]? = some v) :
    w.cell? ⟨b, off + i * k + j, none⟩ = some v := by
  have hj : j < k := by
    rw [← hk x]
    rcases Nat.lt_or_ge j (f x).length with q | q
    · exact q
    · rw [List.getElem?_eq_none q] at hv; cases hv
  have := h.cell (j := k * i + j) (by rw [flat_get f k L (fun x _ => hk x) i j x hx hj]; exact hv)
  rw [Nat.mul_comm i k, Nat.add_assoc]; exact this
theorem Rw.elemAd {α : Type} {w : World} {a : Option Addr} {f : α → List Value} {L : List α} (k : Nat) (h : Rw w a (L.flatMap f)) (hk : ∀ x, (f x).length = k + 1) {i : Nat} {x : α} (hx : L[i]? = some x) : ∃ b off, a = some ⟨b, off, none⟩ := by
  have e := flat_get f (k + 1) L (fun x _ => hk x) i 0 x hx (by omega)
  rw [List.getElem?_eq_getElem (show 0 < (f x).length by rw [hk]; omega)] at e
  obtain ⟨b, off, e, -⟩ := h _ _ e
  exact ⟨b, off, e⟩
theorem drop_at {α : Type} {l : List α} {i : Nat} (h : i < l.length) : ∃ x, l[i]? = some x ∧ l.drop i = x :: l.drop (i + 1) ∧ x ∈ l := ⟨l[i], List.getElem?_eq_getElem h, List.drop_eq_getElem_cons h, List.getElem_mem h⟩
theorem list_of {α : Type} (Pr : Nat → α → Prop) : ∀ n, (∀ i, i < n → ∃ x, Pr i x) → ∃ L : List α, L.length = n ∧ ∀ i x, L[i]? = some x → Pr i x
  | 0, _ => ⟨[], rfl, fun i x h => by simp at h⟩
  | n + 1, h => by
    obtain ⟨L, hl, hL⟩ := list_of Pr n (fun i hi => h i (by omega))
    obtain ⟨x, hx⟩ := h n (by omega)
    refine ⟨L ++ [x], by simp [hl], fun i y hy => ?_⟩
    rcases Nat.lt_or_ge i n with q | q
    · rw [List.getElem?_append_left (by omega)] at hy; exact hL i y hy
    · rw [List.getElem?_append_right (by omega), hl] at hy
      have e : i = n := by
        rcases Nat.eq_or_lt_of_le q with q | q
        · exact q.symm
        · rw [List.getElem?_eq_none (by simp; omega)] at hy; cases hy
      subst e
      simp at hy; subst hy; exact hx
theorem spot_none {w : World} {a : Addr} {v : Value} (h : w.cell? a = some v) : a.spot = none := by
  unfold World.cell? at h
  split at h
  · cases hs : a.spot with
    | none => rfl
    | some s => rw [hs] at h; simp at h
  · cases h
theorem add_plain {b off n : Nat} : (⟨b, off, none⟩ : Addr).add n = ⟨b, off + n, none⟩ := by
  unfold Addr.add
  split
  · rename_i e; rw [e]; rfl
  · rfl
section
variable {H : Type} {enc : TypeId × Value → H} {P : Program} {w : World} {base : Nat} {sp : Nat → Bool} {held : Bool} {n : Nat}
theorem slice_rows {α : Type} (f : α → List Value) (Ok : α → Prop) (k : Nat) {t e : TypeId} {cs : List Value} {x : DataW H × List MemPlace} (ht : P.underlying t = some (.slice e)) (hk : P.cellsOf e = k + 1) (hf : ∀ x, (f x).length = k + 1)
    (hd : ∀ (m : Nat) (cs : List Value) (y : DataW H × List MemPlace), cs.length = k + 1 → DataW.trod enc P w base sp held m e cs = some y → ∃ x, f x = cs ∧ Ok x)
    (h : DataW.trod enc P w base sp held n t cs = some x) : ∃ a c, ∃ L : List α, cs = [.slice a L.length c] ∧ Rw w a (L.flatMap f) ∧ (∀ x ∈ L, Ok x) ∧ L.length ≤ maxLen ∧ L.length ≤ c := by
  rcases DataW.trod_slice ht h with ⟨rfl, -⟩ | ⟨a, len, cap, elems, rest, m, -, rfl, -, -, hlc, hcm, hlen, hel, -, -⟩
  · exact ⟨none, 0, [], rfl, fun j v hv => by simp at hv, by simp, Nat.zero_le _, Nat.le_refl _⟩
  · rw [hk] at hel
    have each : ∀ i, i < len → ∃ x : α, Ok x ∧ ∀ j v, (f x)[j]? = some v → w.cell? ((a.add (i * (k + 1))).add j) = some v := fun i hi => by
      have e1 := hel i hi
      rw [List.getElem?_eq_getElem (by omega), Option.bind_eq_some_iff] at e1
      obtain ⟨cs, c1, c2⟩ := e1
      obtain ⟨-, l1, l2⟩ := World.cells?_some c1
      obtain ⟨x, hx, ox⟩ := hd m cs _ l1 c2
      refine ⟨x, ox, fun j v hv => ?_⟩
      rw [hx] at hv
      have hj : j < k + 1 := by
        rcases Nat.lt_or_ge j (k + 1) with q | q
        · exact q
        · rw [List.getElem?_eq_none (by omega)] at hv; cases hv
      rw [l2 j hj]; exact hv
    obtain ⟨L, hL, hP⟩ := list_of (fun i (x : α) => Ok x ∧ ∀ j v, (f x)[j]? = some v → w.cell? ((a.add (i * (k + 1))).add j) = some v) len each
    refine ⟨some a, cap, L, by rw [hL], fun m v hv => ?_, fun x hx => ?_, by omega, by omega⟩
    · have hmi : m / (k + 1) < L.length := by
        have hlt : m < (L.flatMap f).length := by
          rcases Nat.lt_or_ge m (L.flatMap f).length with q | q
          · exact q
          · rw [List.getElem?_eq_none q] at hv; cases hv
        have hfl : (L.flatMap f).length = (k + 1) * L.length := by
          have : ∀ L : List α, (L.flatMap f).length = (k + 1) * L.length := fun L => by
            induction L with
            | nil => rfl
            | cons y r ih => rw [List.flatMap_cons, List.length_append, ih, hf, List.length_cons, Nat.mul_succ]; omega
          exact this L
        rw [hfl] at hlt
        exact Nat.div_lt_of_lt_mul hlt
      have hmj : m % (k + 1) < k + 1 := Nat.mod_lt _ (by omega)
      have hm : (k + 1) * (m / (k + 1)) + m % (k + 1) = m := Nat.div_add_mod m (k + 1)
      have hx := List.getElem?_eq_getElem hmi
      have hg := flat_get f (k + 1) L (fun x _ => hf x) (m / (k + 1)) (m % (k + 1)) _ hx hmj
      rw [hm, hv] at hg
      have hc := (hP _ _ hx).2 (m % (k + 1)) v hg.symm
      have h0 : a.spot = none := by
        have i0 : 0 < L.length := Nat.lt_of_le_of_lt (Nat.zero_le _) hmi
        have hx0 := List.getElem?_eq_getElem i0
        have c0 := (hP _ _ hx0).2 0 _ (List.getElem?_eq_getElem (by rw [hf]; omega))
        rw [Nat.zero_mul] at c0
        exact spot_none (a := a) c0
      obtain ⟨b, off, s⟩ := a
      simp only at h0
      subst h0
      refine ⟨b, off, rfl, ?_⟩
      rw [add_plain, add_plain] at hc
      rw [show off + m = off + m / (k + 1) * (k + 1) + m % (k + 1) by rw [Nat.mul_comm (m / (k + 1))]; omega]
      exact hc
    · obtain ⟨i, hi⟩ := List.getElem?_of_mem hx
      exact (hP i x hi).1
theorem bool_cell {t : TypeId} {c : Value} {y : DataW H × List MemPlace} (ht : P.underlying t = some .bool) (h : DataW.trod enc P w base sp held n t [c] = some y) : ∃ x, c = .bool x := by
  obtain ⟨x, e, -⟩ := DataW.trod_bool ht h
  simp at e
  exact ⟨x, e⟩
theorem trod_field {t : TypeId} {fs : Array Field} {cs : List Value} {x : DataW H × List MemPlace} (ht : P.underlying t = some (.struct fs)) (h : DataW.trod enc P w base sp held n t cs = some x)
    (i : Nat) (T : TypeId) (o : Nat) (hf : fs[i]?.map (fun f => (f.type, f.offset)) = some (T, o)) : ∃ m y, DataW.trod enc P w base sp held m T ((cs.drop o).take (P.cellsOf T)) = some y := by
  obtain ⟨xs, m, -, -, -, hl, k⟩ := DataW.trod_struct ht h
  rw [Option.map_eq_some_iff] at hf
  obtain ⟨f, hf, he⟩ := hf
  obtain ⟨rfl, rfl⟩ := Prod.mk.inj he
  have hi : i < fs.size := by
    rcases Nat.lt_or_ge i fs.size with q | q
    · exact q
    · rw [Array.getElem?_eq_none q] at hf; cases hf
  have := k i f hf
  rw [List.getElem?_eq_getElem (by omega)] at this
  exact ⟨m, _, this⟩
theorem int_cell {q : IntKind} {t : TypeId} {c : Value} {y : DataW H × List MemPlace} (ht : P.underlying t = some (.int q)) (h : DataW.trod enc P w base sp held n t [c] = some y) : ∃ x, c = .int q x ∧ (Lit.int q x).wf = true := by
  obtain ⟨x, e, -, wx⟩ := DataW.trod_int ht h
  simp at e
  exact ⟨x, e, wx⟩
end
end Go.Proofs.Ytgcbngephokegab
/- Expressions in memory; rows of numbers beside an arena. -/
namespace Go.Proofs.Ytgcbngephokegab
open Go.RowKit
set_option linter.unusedVariables false

def Ex.cells (x : Ex) : List Value := [.int .i64 x.k, .int .i64 x.a, .int .i64 x.b, .int .i64 x.c, .int .i64 x.v, .bool x.on]
theorem Ex.cells_len (x : Ex) : x.cells.length = 6 := rfl
/-- The blocks Z, and a row's own. -/
def Zv (Z : Nat → Prop) (v : Value) : Nat → Prop := fun k => Z k ∨ v.ownBlock = some k
theorem row_keep {w w' : World} {base : Nat} {t : TypeId} {sz : Nat} {v : Value} {n : Nat} {xs : List Value} (h : w.ownsRow base t sz v n xs) (hb : ∀ g, v.ownBlock = some g → w'.heap[g]? = w.heap[g]?) : w'.ownsRow base t sz v n xs := by
  refine ⟨h.1, ?_⟩
  rcases h.2 with q | ⟨g, cap, cur, e, q1, q2, q3⟩
  · exact Or.inl q
  · exact Or.inr ⟨g, cap, cur, e, q1, (hb g (by rw [e]; rfl)).trans q2, q3⟩
theorem row_hold {Z : Nat → Prop} {w w' : World} {base : Nat} {t : TypeId} {sz : Nat} {v : Value} {n : Nat} {xs : List Value} (h : w.ownsRow base t sz v n xs) (k : Hold Z w w') (hz : ∀ g, v.ownBlock = some g → Z g) : w'.ownsRow base t sz v n xs :=
  row_keep h (fun g hg => k.block g (h.lt g hg).2 (fun q => q (hz g hg)))
theorem row_below {w w' : World} {base : Nat} {t : TypeId} {sz : Nat} {v : Value} {n : Nat} {xs : List Value} (h : w.ownsRow base t sz v n xs) (k : Below w.heap.size w w') : w'.ownsRow base t sz v n xs :=
  row_keep h (fun g hg => k.block g (h.lt g hg).2)
/-- Behind an append. -/
theorem Sta.append {Z : Nat → Prop} {p : Nat} {w w' : World} {most : Nat} {ns : List Nd} {v v' : Value} (h : Sta (Zv Z v) p w most ns) (hg : w.grownBy w' v.ownBlock) (hat : v'.ownBlock = v.ownBlock ∨ v'.ownBlock = some w.heap.size) (hlt : ∀ g, v'.ownBlock = some g → g < w'.heap.size) : Sta (Zv Z v') p w' most ns := by
  obtain ⟨a, h1, h2, h3, h4, h5⟩ := h
  have hs := hg.size
  have K : Keep (fun i => v.ownBlock = some i) w w' := ⟨hg.os, hg.tape, hg.output, hg.size, fun k hk hn => hg.block k hk (fun e => hn e.symm)⟩
  refine ⟨a, h1, h2.keep K (fun i hi e => h4 i hi (Or.inr e)), h3, fun k hk q => ?_, fun k hk => ?_⟩
  · rcases q with q | q
    · exact h4 k hk (Or.inl q)
    · rcases hat with e | e
      · rw [e] at q; exact h4 k hk (Or.inr q)
      · rw [e] at q
        cases q
        have a1 := h2.pl
        have a2 := h2.ql
        have a3 := h2.ml
        rcases hk with e | e | e <;> omega
  · rcases hk with q | q
    · have := h5 k (Or.inl q); omega
    · exact hlt k q
theorem Hold.append {Z : Nat → Prop} {w w' : World} {v : Value} (hg : w.grownBy w' v.ownBlock) (hz : ∀ g, v.ownBlock = some g → ¬ Z g) : Hold Z w w' :=
  ⟨hg.os, hg.tape, hg.output, hg.size, fun k hk hn => hg.block k hk (fun e => hn (fun q => hz k e.symm q))⟩
def iv (n : Nat) : Value := .int .i64 (n : Nat)
/-- A row of numbers that isn't empty. -/
theorem row_form {w : World} {base : Nat} {t : TypeId} {v : Value} {o : List Nat} (h : w.ownsRow base t 1 v o.length (o.map iv)) (hp : 0 < o.length) : ∃ g cap, v = .slice (some ⟨g, 0, none⟩) o.length cap ∧ ∀ i, i < o.length → w.cell? ⟨g, i, none⟩ = some (.int .i64 ((o.getD i 0 : Nat) : Int)) := by
  rcases h.2 with ⟨e, q⟩ | ⟨g, cap, cur, e, q1, q2, q3⟩
  · omega
  · refine ⟨g, cap, e, fun i hi => ?_⟩
    subst e
    rw [World.ownsRow.cellAt h i (by omega), List.getElem?_map, List.getElem?_eq_getElem hi, List.getD_eq_getElem?_getD, List.getElem?_eq_getElem hi]
    rfl
theorem row_nil {w : World} {base : Nat} {t : TypeId} {v : Value} {o : List Nat} (h : w.ownsRow base t 1 v o.length (o.map iv)) : (∃ g cap, v = .slice (some ⟨g, 0, none⟩) o.length cap) ∨ v = .slice none 0 0 := by
  rcases h.2 with ⟨e, q⟩ | ⟨g, cap, cur, e, -⟩
  · exact Or.inr e
  · exact Or.inl ⟨g, cap, e⟩
theorem infoInt : (Try.prog.info? 3).map (fun i => (i.zero, i.size, i.bytes)) = some (some (.int .i64 0), 1, 8) := by kernel_rfl
theorem okL_head {i : Nat} {x : Ex} {r : List Ex} (h : OkL i (x :: r)) : x.Ok i ∧ OkL (i + 1) r := h
theorem opLe (k : Int) (h : 3 ≤ k ∧ k ≤ 6) : ∃ n : Nat, k = (n : Int) + 3 ∧ n ≤ 3 := ⟨(k - 3).toNat, by omega, by omega⟩
/-- What Make leaves. -/
def Mk (Z : Nat → Prop) (p most : Nat) (W : World) (M : List Nat × Bool × List Nd) (e : Ending) (w' : World) : Prop :=
  ∃ v, e = .returned (.tuple #[v, .int .i64 (if M.2.1 then 0 else 20)]) ∧ Sta (Zv Z v) p w' most M.2.2 ∧ Hold Z W w' ∧ w'.ownsRow W.heap.size 3 1 v M.1.length (M.1.map iv)
end Go.Proofs.Ytgcbngephokegab
