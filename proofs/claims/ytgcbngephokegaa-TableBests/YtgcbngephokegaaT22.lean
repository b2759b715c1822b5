/- A table beside the document's list of rules; changes. -/
import Derived.Test.YtgcbngephokegaaT21
import Derived.Test.YtgcbngephokegaaRW
namespace Go.Proofs.Ytgcbngephokegaa
open Go.RowKit Go.Maps Go.MapKept Go.ChangeMaps Go.WideElems Go.Joins
set_option linter.unusedVariables false
set_option linter.unusedSimpArgs false

/-- A change. -/
structure ChR where
  d : Bool
  r : Ru
def ChR.cells (x : ChR) : List Value := [.bool x.d, .int .i64 x.r.id, .int .i64 x.r.dev, .int .u32 (x.r.a : Nat), .int .i64 x.r.n, .int .i64 x.r.prio, .int .i64 x.r.out]
def ChR.Ok (x : ChR) : Prop := x.r.Ok
theorem chg_at {w : World} {la : Option Addr} {L : List ChR} (hr : Rw w la (L.flatMap ChR.cells)) {i : Nat} {x : ChR} (hx : L[i]? = some x) : ∃ b off, la = some ⟨b, off, none⟩ ∧
    w.cell? ⟨b, off + i * 7, none⟩ = some (.bool x.d) ∧ w.cell? ⟨b, off + i * 7 + 1, none⟩ = some (.int .i64 x.r.id) ∧ w.cell? ⟨b, off + i * 7 + 2, none⟩ = some (.int .i64 x.r.dev) ∧ w.cell? ⟨b, off + i * 7 + 3, none⟩ = some (.int .u32 (x.r.a : Nat)) ∧ w.cell? ⟨b, off + i * 7 + 4, none⟩ = some (.int .i64 x.r.n) ∧ w.cell? ⟨b, off + i * 7 + 5, none⟩ = some (.int .i64 x.r.prio) ∧ w.cell? ⟨b, off + i * 7 + 6, none⟩ = some (.int .i64 x.r.out) := by
  obtain ⟨b, off, rfl⟩ := hr.elemAd 6 (fun _ => rfl) hx
  have hg := fun j v (hv : (ChR.cells x)[j]? = some v) => hr.elem 7 (fun _ => rfl) hx j hv
  refine ⟨b, off, rfl, ?_, ?_, ?_, ?_, ?_, ?_, ?_⟩
  · exact hg 0 _ rfl
  · exact hg 1 _ rfl
  · exact hg 2 _ rfl
  · exact hg 3 _ rfl
  · exact hg 4 _ rfl
  · exact hg 5 _ rfl
  · exact hg 6 _ rfl
/-- One change more. -/
def stepR2 (m : List Ru) (x : ChR) : List Ru := if x.d then dropI m x.r.id else raddF m x.r
def stepK (m : List Ru) (x : ChR) : Int := if x.d then tdropC m x.r.id else taddC m x.r
def madeL (L : List ChR) : List Ru := L.foldl stepR2 []
theorem madeL_snoc (L : List ChR) (i : Nat) (x : ChR) (hx : L[i]? = some x) : madeL (L.take (i + 1)) = stepR2 (madeL (L.take i)) x := by
  unfold madeL
  rw [List.take_add_one, hx, Option.toList_some, List.foldl_append]
  rfl
theorem foldl_stepR2_len : ∀ (L : List ChR) (m : List Ru), (L.foldl stepR2 m).length ≤ m.length + L.length
  | [], m => Nat.le_refl _
  | x :: L, m => by
    have h1 := foldl_stepR2_len L (stepR2 m x)
    have h2 : (stepR2 m x).length ≤ m.length + 1 := by
      unfold stepR2
      split
      · have := dropI_len m x.r.id; omega
      · exact raddF_len m x.r
    rw [List.foldl_cons, List.length_cons]; omega
theorem madeL_len (L : List ChR) (i : Nat) : (madeL (L.take i)).length ≤ i := by
  have := foldl_stepR2_len (L.take i) []
  rw [List.length_take, List.length_nil] at this
  unfold madeL; omega
section
variable {Z Y : Nat → Prop} {W w w' : World} {p : Nat} {lv : Value} {m m' : List Ru}
theorem Tab.less {Z' : Nat → Prop} (h : Tab Z p w m) (hz : ∀ k, Z' k → Z k) : Tab Z' p w m := by
  obtain ⟨o, E, t, hm, hp, hl, hn⟩ := h
  exact ⟨o, E, t.less (fun k q => q.imp (hz k) id), hm, hp, hl, fun k e q => hn k e (hz k q)⟩
theorem Tab.grow (h : Tab Z p w m) (hb : Below w.heap.size w w') : Tab (fun k => Z k ∨ (w.heap.size ≤ k ∧ k < w'.heap.size)) p w' m := by
  obtain ⟨o, E, t, hm, hp, hl, hn⟩ := h
  refine ⟨o, E, (t.grow hb (Y := fun k => w.heap.size ≤ k ∧ k < w'.heap.size) (fun k q => q)).less (fun k q => ?_), hm.on hb, hp, hl, fun k e q => ?_⟩
  · rcases q with (q | q) | q
    · exact Or.inl (Or.inl q)
    · exact Or.inr q
    · exact Or.inl (Or.inr q)
  · rcases q with q | q
    · exact hn k e q
    · subst e
      have := hm.lt
      omega
theorem Tab.mine (h : Tab Z p w m) : ¬ Z p := by obtain ⟨o, E, t, -⟩ := h; exact fun q => t.mine (Or.inl q)
theorem Tab.low (h : Tab Z p w m) (k : Nat) (hk : Z k) : k < w.heap.size := by obtain ⟨o, E, t, -⟩ := h; exact t.low k (Or.inl hk)
/-- The table and the list behind so many changes. -/
structure TM (Y : Nat → Prop) (W : World) (p : Nat) (w : World) (lv : Value) (m : List Ru) : Prop where
  t : Tab (fun k => k < W.heap.size ∨ Y k) p w m
  h : Hold (fun k => k < W.heap.size) W w
  l : Rules w W.heap.size lv m
  y : InY Y W.heap.size lv
  a : Asked m
theorem TM.r (h : TM Y W p w lv m) : MRight m := tab_right h.t
theorem TM.below (h : TM Y W p w lv m) : Below W.heap.size W w := Hold.below h.h (Nat.le_refl _) (fun k hk => hk)
theorem TM.on (h : TM Y W p w lv m) (hb : Below w.heap.size w w') : TM Y W p w' lv m := ⟨h.t.on hb, h.h.trans (Hold.of hb), Row.on h.l hb, h.y, h.a⟩
theorem TM.box (h : TM Y W p w lv m) (o : Obj) : TM (fun k => Y k ∨ k = w.heap.size) W p (w.alloc o) lv m :=
  ⟨(h.t.grow (bel_al (Below.refl _ _) o)).less (fun k q => by
    rcases q with q | q | q
    · exact Or.inl (Or.inl q)
    · exact Or.inl (Or.inr q)
    · exact Or.inr (by rw [q, World.size_alloc]; omega)), h.h.trans (Hold.of (bel_al (Below.refl _ _) _)), Row.on h.l (bel_al (Below.refl _ _) _), h.y.more (fun _ q => Or.inl q), h.a⟩
/-- What the list is while the table goes ahead. -/
theorem TM.rows (h : TM Y W p w lv m) (k : Hold (fun k => k < W.heap.size ∨ Y k) w w') : Rules w' W.heap.size lv m := row_hold h.l h.y (k.less (fun i q => Or.inr q))
theorem TM.step (t : Tab (fun k => k < W.heap.size ∨ Y k) p w m) (hh : Hold (fun k => k < W.heap.size) W w) (hy : InY Y W.heap.size lv) (a : Asked m) {u : Value} (h : RLeft w w' W.heap.size lv u m) : TM (fun k => Y k ∨ (w.heap.size ≤ k ∧ k < w'.heap.size)) W p w' u m := by
  refine ⟨(t.grow h.2.1).less (fun k q => ?_), hh.trans (Hold.of h.2.1), h.1, fun i e => ?_, a⟩
  · rcases q with q | q | q
    · exact Or.inl (Or.inl q)
    · exact Or.inl (Or.inr q)
    · exact Or.inr q
  · rcases h.2.2 with q | q
    · rw [q] at e
      exact ⟨Or.inl (hy i e).1, (hy i e).2⟩
    · have := row_own q i e
      exact ⟨Or.inr this, Nat.le_trans hh.size this.1⟩
end
theorem Asked.step {m : List Ru} (h : Asked m) (x : ChR) : Asked (stepR2 m x) := by
  unfold stepR2; split
  · exact h.drop _
  · exact (h.add x.r).1
end Go.Proofs.Ytgcbngephokegaa
