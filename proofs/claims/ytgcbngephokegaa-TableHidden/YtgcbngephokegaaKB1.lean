/- A tree of the call's own beside rows of the call's own, which stay when it turns. -/
import Derived.Test.YtgcbngephokegaaKB0
namespace Go.Proofs.Ytgcbngephokegaa
open Go.RowKit Go.Maps Go.MapKept Go.ChangeMaps Go.WideElems Go.Joins
set_option linter.unusedVariables false

/-- A tree of the call's own, beside the blocks Y. -/
structure TY (Y : Nat → Prop) (W : World) (p : Nat) (w : World) (E : List Ent) : Prop where
  t : Tri (fun k => k < W.heap.size ∨ Y k) p [] w E
  h : Hold (fun k => k < W.heap.size) W w
section
variable {Y : Nat → Prop} {W w w' : World} {p : Nat} {E : List Ent}
theorem TY.ts (h : TY Y W p w E) : TS W p w E := ⟨h.t.less (fun _ q => Or.inl q), h.h⟩
theorem ty_of (h : TS W p w E) : TY (fun _ => False) W p w E := ⟨h.t.less (fun _ q => q.elim id (fun q => q.elim)), h.h⟩
theorem TY.less {Y' : Nat → Prop} (h : TY Y W p w E) (hy : ∀ k, Y' k → Y k) : TY Y' W p w E := ⟨h.t.less (fun k q => q.imp id (hy k)), h.h⟩
theorem TY.on (h : TY Y W p w E) (hb : Below w.heap.size w w') : TY Y W p w' E := ⟨h.t.on hb, h.h.trans (Hold.of hb)⟩
theorem TY.grow (h : TY Y W p w E) (hb : Below w.heap.size w w') : TY (fun k => Y k ∨ (w.heap.size ≤ k ∧ k < w'.heap.size)) W p w' E :=
  ⟨(h.t.grow hb (Y := fun k => w.heap.size ≤ k ∧ k < w'.heap.size) (fun k q => q)).less (fun k q => by
    rcases q with q | q | q
    · exact Or.inl (Or.inl q)
    · exact Or.inl (Or.inr q)
    · exact Or.inr q), h.h.trans (Hold.of hb)⟩
theorem TY.turn {S : Nat → Prop} (h : TY Y W p w E) (k : Keep S w w') (hs : ∀ i, S i → Y i ∧ W.heap.size ≤ i) : TY (fun k => Y k ∨ (w.heap.size ≤ k ∧ k < w'.heap.size)) W p w' E := by
  obtain ⟨⟨a, N, h1, h2, h3, h4, h5⟩, hh⟩ := h
  refine ⟨⟨a, N, h1, h2.keep k (fun i hi q => h4 i hi (Or.inr (hs i q).1)), h3, fun j hj q => ?_, fun j hj => ?_⟩, hh.trans (k.mono (fun i _ q r => by have := (hs i q).2; omega))⟩
  · rcases q with q | q | q
    · exact h4 j hj (Or.inl q)
    · exact h4 j hj (Or.inr q)
    · have := h2.lt j hj; omega
  · have := k.size
    rcases hj with q | q | q
    · have := h5 j (Or.inl q); omega
    · have := h5 j (Or.inr q); omega
    · exact q.2
theorem ty_add (h : TY Y W p w E) (x : OpR) (hx : x.Ok) (hE : E.length ≤ 100000) :
    Calls Try.prog 11 #[.pointer (some ⟨p, 0, none⟩), pv (x.a : Nat) x.n, .int .i64 x.v] w fun e w' => e = .returned (.int .i64 (addC E x.a x.n x.v)) ∧ TY Y W p w' (addF E x.a x.n x.v) ∧ Hold Y w w' :=
  (tAdd h.t x.a x.n x.v hx.1 hx.2 hE).mono (fun e w' q => ⟨q.1, ⟨q.2.1, h.h.trans (q.2.2.less (fun _ r => Or.inl r))⟩, q.2.2.less (fun _ r => Or.inr r)⟩)
theorem ty_drop (h : TY Y W p w E) (x : OpR) (hx : x.Ok) (hE : E.length ≤ 100000) :
    Calls Try.prog 9 #[.pointer (some ⟨p, 0, none⟩), pv (x.a : Nat) x.n, .int .i64 x.v] w fun e w' => e = .returned (.int .i64 (dropC E x.a x.n x.v)) ∧ TY Y W p w' (dropF E x.a x.n x.v) ∧ Hold Y w w' :=
  (tDrop h.t x.a x.n x.v hx.1 hx.2 hE).mono (fun e w' q => ⟨q.1, ⟨q.2.1, h.h.trans (q.2.2.less (fun _ r => Or.inl r))⟩, q.2.2.less (fun _ r => Or.inr r)⟩)
/-- A row that lies in Y. -/
def InY (Y : Nat → Prop) (n : Nat) (v : Value) : Prop := ∀ i, v.ownBlock = some i → Y i ∧ n ≤ i
theorem InY.more {Y Y' : Nat → Prop} {n : Nat} {v : Value} (h : InY Y n v) (hy : ∀ k, Y k → Y' k) : InY Y' n v := fun i e => ⟨hy i (h i e).1, (h i e).2⟩
theorem row_hold {Y : Nat → Prop} {w w' : World} {base : Nat} {te : TypeId} {size n m : Nat} {v : Value} {xs : List Value} (h : Row w base te size v n xs) (hy : InY Y m v) (k : Hold Y w w') : Row w' base te size v n xs :=
  h.keep2 k (fun i e _ q => q (hy i e).1)
theorem row_own {w : World} {base : Nat} {te : TypeId} {size n : Nat} {v : Value} {xs : List Value} (h : Row w base te size v n xs) (i : Nat) (e : v.ownBlock = some i) : base ≤ i ∧ i < w.heap.size := by
  rcases h.1.2 with ⟨e1, -⟩ | ⟨g1, c1, cur1, e1, q0, q1, -⟩
  · rw [e1] at e; cases e
  · rw [e1] at e
    simp [Value.ownBlock] at e
    subst e
    refine ⟨q0, ?_⟩
    rcases Nat.lt_or_ge g1 w.heap.size with c | c
    · exact c
    · rw [Array.getElem?_eq_none c] at q1; cases q1
end
/-- An operation of a row of the call's own. -/
theorem opr_at {w : World} {base : Nat} {te : TypeId} {v : Value} {P : List OpR} (h : Row w base te 4 v P.length (P.flatMap OpR.cells)) (hn : 0 < P.length) : ∃ g cap, v = .slice (some ⟨g, 0, none⟩) P.length cap ∧
    ∀ i x, P[i]? = some x → w.cell? ⟨g, i * 4, none⟩ = some (.bool x.d) ∧ w.cell? ⟨g, i * 4 + 1, none⟩ = some (.int .u32 (x.a : Nat)) ∧ w.cell? ⟨g, i * 4 + 2, none⟩ = some (.int .i64 x.n) ∧ w.cell? ⟨g, i * 4 + 3, none⟩ = some (.int .i64 x.v) := by
  obtain ⟨g, cap, e, h1, h2, h3⟩ := Row.at h hn
  refine ⟨g, cap, e, fun i x hx => ?_⟩
  have hg := fun j (hj : j < 4) => flat_get OpR.cells 4 P (fun _ _ => rfl) i j x hx hj
  refine ⟨h3 (i * 4) _ ?_, h3 (i * 4 + 1) _ ?_, h3 (i * 4 + 2) _ ?_, h3 (i * 4 + 3) _ ?_⟩
  · have := hg 0 (by omega); rw [Nat.mul_comm] at this; exact this
  · have := hg 1 (by omega); rw [Nat.mul_comm] at this; exact this
  · have := hg 2 (by omega); rw [Nat.mul_comm] at this; exact this
  · have := hg 3 (by omega); rw [Nat.mul_comm] at this; exact this
theorem dropF_len (E : List Ent) (A : Nat) (n v : Int) : (dropF E A n v).length ≤ E.length := by
  unfold dropF dropE; split
  · exact List.length_filter_le _ _
  · exact Nat.le_refl _
end Go.Proofs.Ytgcbngephokegaa
