/- Along, more: steps whose guard says no. No program in sight. -/
import Derived.Test.YtgcbngephokegaaAlong
namespace Go
section
variable {P : Program} {ops : Array Oper} {Q : Exit → Act → World → Prop} {S : World → Prop}
/-- A step that only reads, and whose guard says no. -/
theorem along_skip {i : Nat} {o : Oper} {r : List (Nat × Bool × Oper)} {a : Act} {w : World} (hw : Region.wanted o (yielded ops a.tmps) = false)
    (h : along P ops Q S r (a.put o.dst undef) w) : along P ops Q S ((i, true, o) :: r) a w := ⟨undef, Or.inr ⟨hw, rfl⟩, h⟩
/-- A step that would turn the world, and whose guard says no. -/
theorem along_pass {i : Nat} {o : Oper} {r : List (Nat × Bool × Oper)} {a : Act} {w : World} (hw : Region.wanted o (yielded ops a.tmps) = false) (hS : S w)
    (h : along P ops Q S r (a.put o.dst undef) w) : along P ops Q S ((i, false, o) :: r) a w := by
  intro K' hK
  rw [if_neg (by rw [hw]; exact Bool.false_ne_true)]
  exact hK.out _ _ hS (fun _ => h)
end
end Go
