/- Blocks by the list of their cells. No program in sight. -/
import Derived.Test.YtgcbngephokegaaKept
namespace Go.Proofs.Ytgcbngephokegaa
open Go.RowKit
set_option linter.unusedVariables false

/-- Block b holds these cells, from its first on. -/
def Cel (w : World) (b : Nat) (cs : List Value) : Prop := ∀ i v, cs[i]? = some v → w.cell? ⟨b, i, none⟩ = some v
theorem Cel.on {w w' : World} {b : Nat} {cs : List Value} (h : Cel w b cs) (hb : Below w.heap.size w w') : Cel w' b cs := fun i v hv => by
  have e := h i v hv
  exact (hb.cell (p := ⟨b, i, none⟩) (cell_lt (o := i) (by rw [e]; rfl))).trans e
theorem Cel.far {w : World} {b : Nat} {cs : List Value} (h : Cel w b cs) (p : Addr) (y : Value) (hp : p.block ≠ b) : Cel (w.setCell p y) b cs := fun i v hv => by
  rw [World.cell?_setCell_far _ _ _ _ (by exact hp)]; exact h i v hv
theorem Cel.drew {w : World} {b : Nat} {cs : List Value} (h : Cel w b cs) : Cel w.drew b cs := h
/-- .. and is free to be written. -/
def Blk (w : World) (b : Nat) (cs : List Value) : Prop := Cel w b cs ∧ ∀ i v, cs[i]? = some v → w.frozen? ⟨b, i, none⟩ = false
theorem Blk.on {w w' : World} {b : Nat} {cs : List Value} (h : Blk w b cs) (hb : Below w.heap.size w w') : Blk w' b cs := ⟨h.1.on hb, fun i v hv => by
  have e := h.1 i v hv
  exact (hb.frozen (p := ⟨b, i, none⟩) (cell_lt (o := i) (by rw [e]; rfl))).trans (h.2 i v hv)⟩
theorem Blk.far {w : World} {b : Nat} {cs : List Value} (h : Blk w b cs) (p : Addr) (y : Value) (hp : p.block ≠ b) : Blk (w.setCell p y) b cs := ⟨h.1.far p y hp, fun i v hv => by simp [h.2 i v hv]⟩
theorem Blk.drew {w : World} {b : Nat} {cs : List Value} (h : Blk w b cs) : Blk w.drew b cs := h
theorem Blk.lt {w : World} {b : Nat} {c : Value} {cs : List Value} (h : Blk w b (c :: cs)) : b < w.heap.size := cell_lt (o := 0) (by rw [h.1 0 c rfl]; rfl)
theorem Blk.set {w : World} {b : Nat} {cs : List Value} (h : Blk w b cs) (j : Nat) (y : Value) (hj : j < cs.length) : Blk (w.setCell ⟨b, j, none⟩ y) b (cs.set j y) := by
  have hc := h.1 j cs[j] (List.getElem?_eq_getElem hj)
  refine ⟨fun i v hv => ?_, fun i v hv => ?_⟩
  · by_cases e : i = j
    · subst e
      rw [List.getElem?_set_self hj] at hv
      cases hv
      exact World.cell?_setCell_same _ _ _ hc
    · rw [List.getElem?_set_ne (fun q => e q.symm)] at hv
      rw [World.cell?_setCell_other _ _ _ _ (by simp <;> omega)]; exact h.1 i v hv
  · have : ∃ u, cs[i]? = some u := by
      by_cases e : i = j
      · subst e; exact ⟨_, List.getElem?_eq_getElem hj⟩
      · rw [List.getElem?_set_ne (fun q => e q.symm)] at hv; exact ⟨v, hv⟩
    obtain ⟨u, hu⟩ := this
    simp [h.2 i u hu]
theorem Blk.new (w : World) (t : TypeId) (cs : List Value) : Blk (w.alloc (Obj.cells cs.toArray t)) w.heap.size cs :=
  ⟨fun i v hv => by simp [go_sem, hv], fun i v hv => by simp [go_sem]⟩
/-- A goal at a world of which no more is wanted than some blocks and what lies below. -/
theorem at_b1 {Q : World → Prop} {W w : World} {n b : Nat} {cs : List Value} (h : Blk W b cs) (hb : Below n w W) (k : ∀ W, Blk W b cs → Below n w W → Q W) : Q W := k W h hb
theorem at_b2 {Q : World → Prop} {W w : World} {n b b' : Nat} {cs cs' : List Value} (h : Blk W b cs) (h' : Blk W b' cs') (hb : Below n w W) (k : ∀ W, Blk W b cs → Blk W b' cs' → Below n w W → Q W) : Q W := k W h h' hb
theorem at_p {Q : World → Prop} {W : World} {R : World → Prop} (h : R W) (k : ∀ W, R W → Q W) : Q W := k W h
end Go.Proofs.Ytgcbngephokegaa
