/- Headers that are handed in, as a list. -/
import Derived.Test.YtggcbklififcgabG9ee2ea645c
namespace Go.Proofs.Ytggcbklififcgab
open Go.ChangeShapes Go.WideShapes Go.ChangeAt Go.RowKit Go.Joins Go.Deep Go.WideElems Go.Maps
set_option linter.unusedVariables false

theorem cellsHdr2 : Try.prog.cellsOf 29 = 5 := by kernel_rfl
theorem cellsU32' : Try.prog.cellsOf 22 = 1 := by kernel_rfl
theorem cellsU16' : Try.prog.cellsOf 25 = 1 := by kernel_rfl
theorem cellsU8' : Try.prog.cellsOf 5 = 1 := by kernel_rfl
section
variable {H : Type} {enc : TypeId × Value → H} {w : World} {base : Nat} {sp : Nat → Bool} {held : Bool}
set_option maxRecDepth 100000 in
theorem hd_dec (m : Nat) (cs : List Value) (y : DataW H × List MemPlace) (hl : cs.length = 4 + 1) (h : DataW.trod enc Try.prog w base sp held m 29 cs = some y) : ∃ x : Hd, x.cells = cs ∧ x.Ok := by
  match cs, hl with
  | [c0, c1, c2, c3, c4], _ =>
    obtain ⟨m0, y0, h0⟩ := trod_field Try.underlying29 h 0 22 0 rfl
    obtain ⟨m1, y1, h1⟩ := trod_field Try.underlying29 h 1 22 1 rfl
    obtain ⟨m2, y2, h2⟩ := trod_field Try.underlying29 h 2 5 2 rfl
    obtain ⟨m3, y3, h3⟩ := trod_field Try.underlying29 h 3 25 3 rfl
    obtain ⟨m4, y4, h4⟩ := trod_field Try.underlying29 h 4 25 4 rfl
    simp only [cellsU32', cellsU16', cellsU8', List.drop_zero, List.drop_succ_cons, List.take_succ_cons, List.take_zero] at h0 h1 h2 h3 h4
    obtain ⟨x0, rfl, w0⟩ := int_cell Try.underlying22 h0
    obtain ⟨x1, rfl, w1⟩ := int_cell Try.underlying22 h1
    obtain ⟨x2, rfl, w2⟩ := int_cell Try.underlying5 h2
    obtain ⟨x3, rfl, w3⟩ := int_cell Try.underlying25 h3
    obtain ⟨x4, rfl, w4⟩ := int_cell Try.underlying25 h4
    obtain ⟨l0, u0⟩ := bounds_u32 w0
    obtain ⟨l1, u1⟩ := bounds_u32 w1
    obtain ⟨l2, u2⟩ := bounds_u8 w2
    obtain ⟨l3, u3⟩ := bounds_u16 w3
    obtain ⟨l4, u4⟩ := bounds_u16 w4
    obtain ⟨d, rfl⟩ := Int.eq_ofNat_of_zero_le l0
    obtain ⟨s, rfl⟩ := Int.eq_ofNat_of_zero_le l1
    obtain ⟨q, rfl⟩ := Int.eq_ofNat_of_zero_le l2
    obtain ⟨x, rfl⟩ := Int.eq_ofNat_of_zero_le l3
    obtain ⟨z, rfl⟩ := Int.eq_ofNat_of_zero_le l4
    exact ⟨⟨d, s, q, x, z⟩, rfl, ⟨(by show d < _; omega), (by show s < _; omega), (by show q < _; omega), (by show x < _; omega), (by show z < _; omega)⟩⟩
/-- Headers that are handed in. -/
structure Hds (w : World) (v : Value) (L : List Hd) (la : Option Addr) (lc : Nat) : Prop where
  v : v = .slice la L.length lc
  r : Rw w la (L.flatMap Hd.cells)
  cap : L.length ≤ lc
  ok : ∀ x ∈ L, x.Ok
set_option maxRecDepth 100000 in
theorem hds_open {b0 : Nat} {v : Value} {d : DataW H} {p : List MemPlace} (hv : Value.okWide Try.prog w .any b0 48 v) (h : DataW.Trod enc Try.prog w 0 sp held 48 v d p) : ∃ L la lc, Hds w v L la lc := by
  obtain ⟨a, len, cap, rfl⟩ := okWide_slice Try.underlying48 hv
  obtain ⟨fuel, hf⟩ := h
  obtain ⟨la, lc, L, e0, r0, o0, l0, c0⟩ := slice_rows Hd.cells Hd.Ok 4 Try.underlying48 cellsHdr2 (fun _ => rfl) hd_dec hf
  simp [Value.cells] at e0
  exact ⟨L, la, lc, by simp [e0], r0, c0, o0⟩
end
end Go.Proofs.Ytggcbklififcgab
