/- Rows of a header's bits; the document's Back of one. -/
import Derived.Test.YtioanjpeddipmaaH13
import Derived.Test.YtioanjpeddipmaaH14
namespace Go.Proofs.Ytioanjpeddipmaa
open Go.RowKit
set_option linter.unusedVariables false

/-- Block g holds these 104 bits. -/
def Row (w : World) (g : Nat) (T : Nat → Bool) : Prop := ∀ j, j < 104 → w.cell? ⟨g, j, none⟩ = some (.bool (T j)) ∧ w.frozen? ⟨g, j, none⟩ = false
theorem Row.lt {w : World} {g : Nat} {T : Nat → Bool} (h : Row w g T) : g < w.heap.size := cell_lt (o := 0) (by rw [(h 0 (by omega)).1]; rfl)
theorem Row.on {w w' : World} {g : Nat} {T : Nat → Bool} (h : Row w g T) (hb : Below w.heap.size w w') : Row w' g T := fun j hj =>
  ⟨(hb.cell (p := ⟨g, j, none⟩) h.lt).trans (h j hj).1, (hb.frozen (p := ⟨g, j, none⟩) h.lt).trans (h j hj).2⟩
def upd (T : Nat → Bool) (i : Nat) (t : Bool) : Nat → Bool := fun j => if j = i then t else T j
theorem Row.set {w : World} {g : Nat} {T : Nat → Bool} (h : Row w g T) (i : Nat) (hi : i < 104) (t : Bool) : Row (w.setCell ⟨g, i, none⟩ (.bool t)) g (upd T i t) := fun j hj => by
  refine ⟨?_, by simp [(h j hj).2]⟩
  unfold upd
  by_cases e : j = i
  · subst e; rw [if_pos rfl]; exact World.cell?_setCell_same _ _ _ (h j hj).1
  · rw [if_neg e, World.cell?_setCell_other _ _ _ _ (by first | (simp; done) | (simp; omega) | (intro h0; injection h0 with _ h1; omega))]; exact (h j hj).1
theorem row_of {w : World} {base : Nat} {v : Value} {X : List Value} {T : Nat → Bool} (hX : ∀ j, j < 104 → X[j]? = some (.bool (T j))) (h : w.ownsRow base 4 1 v 104 X) :
    ∃ g cap, v = .slice (some ⟨g, 0, none⟩) 104 cap ∧ base ≤ g ∧ Row w g T := by
  have hh := h
  obtain ⟨h1, ⟨h2, h3⟩ | ⟨g, cap, cur, h2, h3, h4, h5, h6, h7, h8⟩⟩ := h
  · omega
  · subst h2
    refine ⟨g, cap, rfl, h3, fun j hj => ⟨(World.ownsRow.cellAt hh j (by omega)).trans (hX j hj), by simp [World.frozen?, h4]⟩⟩
theorem back_row (a b : Nat) (h : WB a b) (T : Nat → Bool) (hT : ∀ j, j < 104 → T j = tb a b j) (w : World) (g cap : Nat) (hr : Row w g T) :
    Calls Try.prog 42 #[.slice (some ⟨g, 0, none⟩) 104 cap] w fun e w' => e = .returned (hw a b) ∧ Below w.heap.size w w' := by
  obtain ⟨n1, n2, n3, n4, n5⟩ := back_nums T a b h hT
  obtain ⟨h1, h2, h3, h4, h5⟩ := h.hb
  have num : ∀ (p k : Nat), p + k ≤ 104 → k ≤ 32 → ∀ v, Below w.heap.size w v → Calls Try.prog 47 #[.slice (some ⟨g, 0, none⟩) 104 cap, .int .i64 p, .int .i64 k] v fun e w' => e = .returned (.int .u32 (numB T p k)) ∧ w' = v :=
    fun p k h1 h2 v hb => number_bits T g cap p k h1 h2 v (fun j hj => ((hr.on hb) j hj).1)
  have q := back_core (.slice (some ⟨g, 0, none⟩) 104 cap) (numB T 0 32) (numB T 32 32) (numB T 64 8) (numB T 72 16) (numB T 88 16) (by omega) (by rw [n3]; omega) (by omega) (by rw [n4]; omega) (by omega) (by rw [n5]; omega) w
    (num 0 32 (by omega) (by omega)) (num 32 32 (by omega) (by omega)) (num 64 8 (by omega) (by omega)) (num 72 16 (by omega) (by omega)) (num 88 16 (by omega) (by omega))
  rw [n1, n2, n3, n4, n5] at q
  exact q
end Go.Proofs.Ytioanjpeddipmaa
