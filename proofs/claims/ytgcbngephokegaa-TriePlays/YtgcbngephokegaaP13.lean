/- What TriePlays wants besides. -/
import Derived.Test.YtgcbngephokegaaP11
import Derived.Test.YtgcbngephokegaaP12
import Derived.Test.YtgcbngephokegaaP3
namespace Go.Proofs.Ytgcbngephokegaa
open Go.RowKit Go.Maps Go.MapKept Go.ChangeMaps Go.WideElems Go.Joins
set_option linter.unusedVariables false
set_option linter.unusedSimpArgs false

theorem rmeet_any (W : World) (b0 : Nat) (l : Value) (E : List Ent) (h : EOk E) (A : Nat) (n : Int) (hA : A < 4294967296) (hl : REnts W b0 l (all E)) (hlen : E.length ≤ 100000) :
    Calls Try.prog 21 #[l, pv (A : Nat) n] W fun e w' => ∃ u, e = .returned u ∧ REnts w' W.heap.size u (metF E A n) ∧ Below W.heap.size W w' := by
  have hl2 : (all E).length ≤ 100000 := by rw [srt_all_len h.1]; exact hlen
  unfold metF
  cases hr : rightB A n with
  | false =>
    refine (rmeet_wrong W b0 l (all E) A n hA hr hl hl2).mono ?_
    rintro e w' ⟨rfl, hb⟩
    exact ⟨_, rfl, row_nil _ _ _ _, hb⟩
  | true =>
    obtain ⟨h0, h1, -⟩ := of_decide_eq_true hr
    obtain ⟨k, rfl⟩ := Int.eq_ofNat_of_zero_le h0
    refine (rmeet_right W b0 l (all E) A k hA (by omega) hr hl hl2 (fun x hx => h.2 x (((all_lst h.1).2 x).1 hx))).mono ?_
    rintro e w' ⟨u, rfl, q1, q2⟩
    rw [metL_srt h.1] at q1
    exact ⟨u, rfl, q1, q2⟩
theorem rofs_any (W : World) (b0 : Nat) (l : Value) (E : List Ent) (h : EOk E) (A : Nat) (hA : A < 4294967296) (hl : REnts W b0 l (all E)) (hlen : E.length ≤ 10000) :
    Calls Try.prog 19 #[l, .int .u32 (A : Nat)] W fun e w' => ∃ u, e = .returned u ∧ REnts w' W.heap.size u (srt E (metQ (pth A 32))) ∧ Below W.heap.size W w' := by
  refine (rof_any W b0 l (all E) A hA hl (by rw [srt_all_len h.1]; exact hlen) (fun x hx => h.2 x (((all_lst h.1).2 x).1 hx))).mono ?_
  rintro e w' ⟨u, rfl, q1, q2⟩
  rw [ofL_srt h.1 h.2 A hA] at q1
  exact ⟨u, rfl, q1, q2⟩
theorem of_nil (W : World) (A : Nat) (hA : A < 4294967296) : Calls Try.prog 18 #[.pointer none, .int .u32 (A : Nat)] W fun e w' => e = .returned (.slice none 0 0) ∧ Below W.heap.size W w' := by
  refine (of_core W (.pointer none) A hA (fun v w' => v = .slice none 0 0 ∧ Below W.heap.size W w') (Lib.hid (fun w hb => (meeting_nil w A 32).mono ?_))).mono ?_
  · rintro e w' ⟨rfl, h⟩
    exact ⟨_, rfl, rfl, bel_on' hb h⟩
  · rintro e w' ⟨v, rfl, rfl, h⟩
    exact ⟨rfl, h⟩
theorem all_nil (W : World) : Calls Try.prog 17 #[.pointer none] W fun e w' => e = .returned (.slice none 0 0) ∧ Below W.heap.size W w' := by
  refine (all_core W (.pointer none) (fun v w' => v = .slice none 0 0 ∧ Below W.heap.size W w') (Lib.hid ((meeting_nil W 0 0).mono ?_))).mono ?_
  · rintro e w' ⟨rfl, h⟩
    exact ⟨_, rfl, rfl, h⟩
  · rintro e w' ⟨v, rfl, rfl, h⟩
    exact ⟨rfl, h⟩
/-- The tree and the list behind so many operations. -/
structure PY (Y : Nat → Prop) (W : World) (p : Nat) (w : World) (lv : Value) (E : List Ent) : Prop where
  t : TY Y W p w E
  l : REnts w W.heap.size lv (all E)
  y : InY Y W.heap.size lv
section
variable {Y : Nat → Prop} {W w w' : World} {p : Nat} {lv : Value} {E : List Ent}
theorem PY.ok (h : PY Y W p w lv E) : EOk E := ts_le h.t.ts
theorem PY.on (h : PY Y W p w lv E) (hb : Below w.heap.size w w') : PY Y W p w' lv E := ⟨h.t.on hb, Row.on h.l hb, h.y⟩
theorem PY.box (h : PY Y W p w lv E) (o : Obj) : PY (fun k => Y k ∨ k = w.heap.size) W p (w.alloc o) lv E :=
  ⟨(h.t.grow (bel_al (Below.refl _ _) o)).less (fun k q => q.imp id (fun e => by rw [e, World.size_alloc]; omega)), Row.on h.l (bel_al (Below.refl _ _) _), h.y.more (fun _ q => Or.inl q)⟩
theorem PY.tree (h : PY Y W p w lv E) {E' : List Ent} (t : TY Y W p w' E') (k : Hold Y w w') : REnts w' W.heap.size lv (all E) := row_hold h.l h.y k
theorem PY.step (t : TY Y W p w E) (hy : InY Y W.heap.size lv) {u : Value} (h : Left w w' W.heap.size lv u (all E)) : PY (fun k => Y k ∨ (w.heap.size ≤ k ∧ k < w'.heap.size)) W p w' u E := by
  refine ⟨t.grow h.2.1, h.1, fun i e => ?_⟩
  rcases h.2.2 with q | q
  · rw [q] at e
    exact ⟨Or.inl (hy i e).1, (hy i e).2⟩
  · have := row_own q i e
    exact ⟨Or.inr this, Nat.le_trans t.h.size this.1⟩
end
end Go.Proofs.Ytgcbngephokegaa
