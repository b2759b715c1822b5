/- A tree of the call's own; operations that are handed in, read one by one. -/
import Derived.Test.YtgcbngephokegaaKW0
namespace Go.Proofs.Ytgcbngephokegaa
open Go.RowKit Go.Maps Go.MapKept Go.ChangeMaps Go.WideElems Go.Joins
set_option linter.unusedVariables false

/-- A tree of the call's own. -/
structure TS (W : World) (p : Nat) (w : World) (E : List Ent) : Prop where
  t : Tri (fun k => k < W.heap.size) p [] w E
  h : Hold (fun k => k < W.heap.size) W w
theorem TS.on {W w w' : World} {p : Nat} {E : List Ent} (h : TS W p w E) (hb : Below w.heap.size w w') : TS W p w' E := ⟨h.t.on hb, h.h.trans (Hold.of hb)⟩
theorem TS.below {W w : World} {p : Nat} {E : List Ent} (h : TS W p w E) : Below W.heap.size W w := Hold.below h.h (Nat.le_refl _) (fun k hk => hk)
theorem ts_new (W : World) (t : TypeId) : TS W W.heap.size (W.alloc (.cells #[.pointer none, .pointer none, .map none, .int .i64 0, .int .i64 0] t)) [] :=
  ⟨tri_new _ _ _ (Blk.new _ _ _) (Nat.lt_irrefl _) (fun k hk => by rw [World.size_alloc]; exact Nat.lt_succ_of_lt hk), Hold.of (bel_al (Below.refl _ _) _)⟩
theorem ts_add {W w : World} {p : Nat} {E : List Ent} (h : TS W p w E) (x : OpR) (hx : x.Ok) (hE : E.length ≤ 100000) :
    Calls Try.prog 11 #[.pointer (some ⟨p, 0, none⟩), pv (x.a : Nat) x.n, .int .i64 x.v] w fun e w' => e = .returned (.int .i64 (addC E x.a x.n x.v)) ∧ TS W p w' (addF E x.a x.n x.v) :=
  (tAdd h.t x.a x.n x.v hx.1 hx.2 hE).mono (fun e w' q => ⟨q.1, q.2.1, h.h.trans q.2.2⟩)
theorem ts_le {W w : World} {p : Nat} {E : List Ent} (h : TS W p w E) : E.Nodup ∧ ∀ e ∈ E, e.1.length ≤ 32 := by
  obtain ⟨N, hp⟩ := h.t.plain
  exact ⟨hp.en, fun e he => (hp.le e he).1⟩
/-- What is handed in stays. -/
theorem ops_on {W w : World} {la : Option Addr} {L : List OpR} (hr : Rw W la (L.flatMap OpR.cells)) (hb : Below W.heap.size W w) : Rw w la (L.flatMap OpR.cells) := hr.on hb
theorem op_at {w : World} {la : Option Addr} {L : List OpR} (hr : Rw w la (L.flatMap OpR.cells)) {i : Nat} {x : OpR} (hx : L[i]? = some x) : ∃ b off, la = some ⟨b, off, none⟩ ∧
    w.cell? ⟨b, off + i * 4, none⟩ = some (.bool x.d) ∧ w.cell? ⟨b, off + i * 4 + 1, none⟩ = some (.int .u32 x.a) ∧ w.cell? ⟨b, off + i * 4 + 2, none⟩ = some (.int .i64 x.n) ∧ w.cell? ⟨b, off + i * 4 + 3, none⟩ = some (.int .i64 x.v) := by
  obtain ⟨b, off, rfl⟩ := hr.elemAd 3 (fun _ => rfl) hx
  exact ⟨b, off, rfl, hr.elem 4 (fun _ => rfl) hx 0 rfl, hr.elem 4 (fun _ => rfl) hx 1 rfl, hr.elem 4 (fun _ => rfl) hx 2 rfl, hr.elem 4 (fun _ => rfl) hx 3 rfl⟩
end Go.Proofs.Ytgcbngephokegaa
