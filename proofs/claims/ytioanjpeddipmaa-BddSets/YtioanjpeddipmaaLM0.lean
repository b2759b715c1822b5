/- Expressions in memory; rows of numbers beside an arena. -/
import Derived.Test.YtioanjpeddipmaaAX
import Derived.Test.YtioanjpeddipmaaRW
import Derived.LoopN
import Derived.Deep.CutBlock
namespace Go.Proofs.Ytioanjpeddipmaa
open Go.RowKit
set_option linter.unusedVariables false

def Ex.cells (x : Ex) : List Value := [.int .i64 x.k, .int .i64 x.a, .int .i64 x.b, .int .i64 x.c, .int .i64 x.v, .bool x.on]
theorem Ex.cells_len (x : Ex) : x.cells.length = 6 := rfl
/-- The blocks Z, and a row's own. -/
def Zv (Z : Nat → Prop) (v : Value) : Nat → Prop := fun k => Z k ∨ v.ownBlock = some k
theorem row_keep {w w' : World} {base : Nat} {t : TypeId} {sz : Nat} {v : Value} {n : Nat} {xs : List Value} (h : w.ownsRow base t sz v n xs) (hb : ∀ g, v.ownBlock = some g → w'.heap[g]? = w.heap[g]?) : w'.ownsRow base t sz v n xs := by
  refine ⟨h.1, ?_⟩
  rcases h.2 with q | ⟨g, cap, cur, e, q1, q2, q3⟩
  · exact Or.inl q
  · exact Or.inr ⟨g, cap, cur, e, q1, (hb g (by rw [e]; rfl)).trans q2, q3⟩
theorem row_hold {Z : Nat → Prop} {w w' : World} {base : Nat} {t : TypeId} {sz : Nat} {v : Value} {n : Nat} {xs : List Value} (h : w.ownsRow base t sz v n xs) (k : Hold Z w w') (hz : ∀ g, v.ownBlock = some g → Z g) : w'.ownsRow base t sz v n xs :=
  row_keep h (fun g hg => k.block g (h.lt g hg).2 (fun q => q (hz g hg)))
theorem row_below {w w' : World} {base : Nat} {t : TypeId} {sz : Nat} {v : Value} {n : Nat} {xs : List Value} (h : w.ownsRow base t sz v n xs) (k : Below w.heap.size w w') : w'.ownsRow base t sz v n xs :=
  row_keep h (fun g hg => k.block g (h.lt g hg).2)
/-- Behind an append. -/
theorem Sta.append {Z : Nat → Prop} {p : Nat} {w w' : World} {most : Nat} {ns : List Nd} {v v' : Value} (h : Sta (Zv Z v) p w most ns) (hg : w.grownBy w' v.ownBlock) (hat : v'.ownBlock = v.ownBlock ∨ v'.ownBlock = some w.heap.size) (hlt : ∀ g, v'.ownBlock = some g → g < w'.heap.size) : Sta (Zv Z v') p w' most ns := by
  obtain ⟨a, h1, h2, h3, h4, h5⟩ := h
  have hs := hg.size
  have K : Keep (fun i => v.ownBlock = some i) w w' := ⟨hg.os, hg.tape, hg.output, hg.size, fun k hk hn => hg.block k hk (fun e => hn e.symm)⟩
  refine ⟨a, h1, h2.keep K (fun i hi e => h4 i hi (Or.inr e)), h3, fun k hk q => ?_, fun k hk => ?_⟩
  · rcases q with q | q
    · exact h4 k hk (Or.inl q)
    · rcases hat with e | e
      · rw [e] at q; exact h4 k hk (Or.inr q)
      · rw [e] at q
        cases q
        have a1 := h2.pl
        have a2 := h2.ql
        have a3 := h2.ml
        rcases hk with e | e | e <;> omega
  · rcases hk with q | q
    · have := h5 k (Or.inl q); omega
    · exact hlt k q
theorem Hold.append {Z : Nat → Prop} {w w' : World} {v : Value} (hg : w.grownBy w' v.ownBlock) (hz : ∀ g, v.ownBlock = some g → ¬ Z g) : Hold Z w w' :=
  ⟨hg.os, hg.tape, hg.output, hg.size, fun k hk hn => hg.block k hk (fun e => hn (fun q => hz k e.symm q))⟩
def iv (n : Nat) : Value := .int .i64 (n : Nat)
/-- A row of numbers that isn't empty. -/
theorem row_form {w : World} {base : Nat} {t : TypeId} {v : Value} {o : List Nat} (h : w.ownsRow base t 1 v o.length (o.map iv)) (hp : 0 < o.length) : ∃ g cap, v = .slice (some ⟨g, 0, none⟩) o.length cap ∧ ∀ i, i < o.length → w.cell? ⟨g, i, none⟩ = some (.int .i64 ((o.getD i 0 : Nat) : Int)) := by
  rcases h.2 with ⟨e, q⟩ | ⟨g, cap, cur, e, q1, q2, q3⟩
  · omega
  · refine ⟨g, cap, e, fun i hi => ?_⟩
    subst e
    rw [World.ownsRow.cellAt h i (by omega), List.getElem?_map, List.getElem?_eq_getElem hi, List.getD_eq_getElem?_getD, List.getElem?_eq_getElem hi]
    rfl
theorem row_nil {w : World} {base : Nat} {t : TypeId} {v : Value} {o : List Nat} (h : w.ownsRow base t 1 v o.length (o.map iv)) : (∃ g cap, v = .slice (some ⟨g, 0, none⟩) o.length cap) ∨ v = .slice none 0 0 := by
  rcases h.2 with ⟨e, q⟩ | ⟨g, cap, cur, e, -⟩
  · exact Or.inr e
  · exact Or.inl ⟨g, cap, e⟩
theorem infoInt : (Try.prog.info? 3).map (fun i => (i.zero, i.size, i.bytes)) = some (some (.int .i64 0), 1, 8) := by kernel_rfl
theorem okL_head {i : Nat} {x : Ex} {r : List Ex} (h : OkL i (x :: r)) : x.Ok i ∧ OkL (i + 1) r := h
theorem opLe (k : Int) (h : 3 ≤ k ∧ k ≤ 6) : ∃ n : Nat, k = (n : Int) + 3 ∧ n ≤ 3 := ⟨(k - 3).toNat, by omega, by omega⟩
/-- What Make leaves. -/
def Mk (Z : Nat → Prop) (p most : Nat) (W : World) (M : List Nat × Bool × List Nd) (e : Ending) (w' : World) : Prop :=
  ∃ v, e = .returned (.tuple #[v, .int .i64 (if M.2.1 then 0 else 20)]) ∧ Sta (Zv Z v) p w' most M.2.2 ∧ Hold Z W w' ∧ w'.ownsRow W.heap.size 3 1 v M.1.length (M.1.map iv)
end Go.Proofs.Ytioanjpeddipmaa
