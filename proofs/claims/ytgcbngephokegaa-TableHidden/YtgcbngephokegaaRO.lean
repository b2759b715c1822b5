/- A rule, as it is handed in. -/
import Derived.Test.YtgcbngephokegaaT1
import Derived.Test.YtgcbngephokegaaKO
namespace Go.Proofs.Ytgcbngephokegaa
open Go.ChangeShapes Go.WideShapes Go.ChangeAt Go.RowKit Go.Joins Go.Deep Go.WideElems Go.Maps
set_option linter.unusedVariables false

theorem cellsRule : Try.prog.cellsOf 57 = 6 := by kernel_rfl
theorem array6 {α : Type} {cs : Array α} (h : cs.size = 6) : ∃ c0 c1 c2 c3 c4 c5, cs = #[c0, c1, c2, c3, c4, c5] := by
  obtain ⟨l⟩ := cs
  match l, h with
  | [c0, c1, c2, c3, c4, c5], _ => exact ⟨c0, c1, c2, c3, c4, c5, rfl⟩
/-- What a rule that is handed in is. -/
def Ru.In (x : Ru) : Prop := x.a < 4294967296 ∧ I64 x.id
section
variable {H : Type} {enc : TypeId × Value → H} {w : World} {base : Nat} {sp : Nat → Bool} {held : Bool}
set_option maxRecDepth 100000 in
theorem rule_dec (m : Nat) (cs : List Value) (y : DataW H × List MemPlace) (hl : cs.length = 5 + 1) (h : DataW.trod enc Try.prog w base sp held m 57 cs = some y) : ∃ x : Ru, x.cells = cs ∧ x.In := by
  match cs, hl with
  | [c0, c1, c2, c3, c4, c5], _ =>
    obtain ⟨m0, y0, h0⟩ := trod_field Try.underlying57 h 0 3 0 rfl
    obtain ⟨m1, y1, h1⟩ := trod_field Try.underlying57 h 1 3 1 rfl
    obtain ⟨m2, y2, h2⟩ := trod_field Try.underlying57 h 2 25 2 rfl
    obtain ⟨m3, y3, h3⟩ := trod_field Try.underlying57 h 3 3 4 rfl
    obtain ⟨m4, y4, h4⟩ := trod_field Try.underlying57 h 4 3 5 rfl
    simp only [cellsInt, cellsPre, List.drop_zero, List.drop_succ_cons, List.take_succ_cons, List.take_zero] at h0 h1 h2 h3 h4
    obtain ⟨x0, rfl, w0⟩ := int_cell Try.underlying3 h0
    obtain ⟨x1, rfl, w1⟩ := int_cell Try.underlying3 h1
    obtain ⟨a, k, ha, -, -, rfl, rfl⟩ := pre_cells h2
    obtain ⟨x4, rfl, w4⟩ := int_cell Try.underlying3 h3
    obtain ⟨x5, rfl, w5⟩ := int_cell Try.underlying3 h4
    obtain ⟨b1, b2⟩ := bounds_i64 w0
    exact ⟨⟨x0, x1, a, k, x4, x5⟩, rfl, ha, by unfold I64; show _ ∧ _; constructor <;> omega⟩
set_option maxRecDepth 100000 in
theorem rule_open {b0 : Nat} {v : Value} {d : DataW H} {p : List MemPlace} (hv : Value.okWide Try.prog w .any b0 57 v) (h : DataW.Trod enc Try.prog w 0 sp held 57 v d p) : ∃ x : Ru, v = rv x ∧ x.In := by
  obtain ⟨cs, rfl, hsz⟩ := okWide_struct Try.underlying57 hv
  obtain ⟨c0, c1, c2, c3, c4, c5, rfl⟩ := array6 (hsz.trans cellsRule)
  obtain ⟨fuel, hf⟩ := h
  obtain ⟨x, e, hx⟩ := rule_dec fuel [c0, c1, c2, c3, c4, c5] _ rfl (show DataW.trod enc Try.prog w 0 sp held fuel 57 [c0, c1, c2, c3, c4, c5] = some (d, p) by simpa [Value.cells] using hf)
  unfold Ru.cells at e
  simp only [List.cons.injEq, and_true] at e
  obtain ⟨rfl, rfl, rfl, rfl, rfl, rfl⟩ := e
  exact ⟨x, rfl, hx⟩
end
end Go.Proofs.Ytgcbngephokegaa
