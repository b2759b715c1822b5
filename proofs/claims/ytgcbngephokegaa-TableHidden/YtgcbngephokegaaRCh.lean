/- Changes, as they are handed in. -/
import Derived.Test.YtgcbngephokegaaRO
import Derived.Test.YtgcbngephokegaaT22
namespace Go.Proofs.Ytgcbngephokegaa
open Go.ChangeShapes Go.WideShapes Go.ChangeAt Go.RowKit Go.Joins Go.Deep Go.WideElems Go.Maps
set_option linter.unusedVariables false

theorem cellsChg : Try.prog.cellsOf 59 = 7 := by kernel_rfl
section
variable {H : Type} {enc : TypeId × Value → H} {w : World} {base : Nat} {sp : Nat → Bool} {held : Bool}
set_option maxRecDepth 100000 in
theorem chg_dec (m : Nat) (cs : List Value) (y : DataW H × List MemPlace) (hl : cs.length = 6 + 1) (h : DataW.trod enc Try.prog w base sp held m 59 cs = some y) : ∃ x : ChR, x.cells = cs ∧ x.Ok := by
  match cs, hl with
  | [c0, c1, c2, c3, c4, c5, c6], _ =>
    obtain ⟨m0, y0, h0⟩ := trod_field Try.underlying59 h 0 4 0 rfl
    obtain ⟨m1, y1, h1⟩ := trod_field Try.underlying59 h 1 57 1 rfl
    simp only [cellsBool, cellsRule, List.drop_zero, List.drop_succ_cons, List.take_succ_cons, List.take_zero] at h0 h1
    obtain ⟨x0, rfl⟩ := bool_cell Try.underlying4 h0
    obtain ⟨r, e, hr⟩ := rule_dec m1 [c1, c2, c3, c4, c5, c6] _ rfl h1
    refine ⟨⟨x0, r⟩, ?_, hr⟩
    show Value.bool x0 :: r.cells = _
    rw [e]
/-- Changes that are handed in. -/
structure Chgs (w : World) (v : Value) (L : List ChR) (la : Option Addr) (lc : Nat) : Prop where
  v : v = .slice la L.length lc
  r : Rw w la (L.flatMap ChR.cells)
  ok : ∀ x ∈ L, x.Ok
  len : L.length ≤ maxLen
  cap : L.length ≤ lc
set_option maxRecDepth 100000 in
theorem chgs_open {b0 : Nat} {v : Value} {d : DataW H} {p : List MemPlace} (hv : Value.okWide Try.prog w .any b0 52 v) (h : DataW.Trod enc Try.prog w 0 sp held 52 v d p) : ∃ L la lc, Chgs w v L la lc := by
  obtain ⟨a, len, cap, rfl⟩ := okWide_slice Try.underlying52 hv
  obtain ⟨fuel, hf⟩ := h
  have hf : DataW.trod enc Try.prog w 0 sp held fuel 52 [.slice a len cap] = some (d, p) := by simpa [Value.cells] using hf
  obtain ⟨la, lc, L, e0, r0, o0, l0, c0⟩ := slice_rows ChR.cells ChR.Ok 6 Try.underlying52 cellsChg (fun _ => rfl) chg_dec hf
  exact ⟨L, la, lc, by simpa using e0, r0, o0, l0, c0⟩
end
end Go.Proofs.Ytgcbngephokegaa
