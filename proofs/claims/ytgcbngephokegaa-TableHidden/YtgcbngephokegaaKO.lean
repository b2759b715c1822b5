/- What is put and taken, as it is handed in. -/
import Derived.Test.YtgcbngephokegaaRW
import Derived.Test.YtgcbngephokegaaC1
namespace Go.Proofs.Ytgcbngephokegaa
open Go.ChangeShapes Go.WideShapes Go.ChangeAt Go.RowKit Go.Joins Go.Deep Go.WideElems Go.Maps
set_option linter.unusedVariables false

theorem cellsPre : Try.prog.cellsOf 25 = 2 := by kernel_rfl
theorem cellsInt : Try.prog.cellsOf 3 = 1 := by kernel_rfl
theorem cellsU32 : Try.prog.cellsOf 23 = 1 := by kernel_rfl
theorem cellsBool : Try.prog.cellsOf 4 = 1 := by kernel_rfl
section
variable {H : Type} {enc : TypeId × Value → H} {P : Program} {W : World} {base : Nat} {sp : Nat → Bool} {held : Bool} {n : Nat}
set_option maxRecDepth 100000 in
theorem pre_cells {c0 c1 : Value} {y : DataW H × List MemPlace} (h : DataW.trod enc Try.prog W base sp held n 25 [c0, c1] = some y) :
    ∃ (a : Nat) (k : Int), a < 4294967296 ∧ -9223372036854775808 ≤ k ∧ k ≤ 9223372036854775807 ∧ c0 = .int .u32 a ∧ c1 = .int .i64 k := by
  obtain ⟨m0, y0, h0⟩ := trod_field Try.underlying25 h 0 23 0 rfl
  obtain ⟨m1, y1, h1⟩ := trod_field Try.underlying25 h 1 3 1 rfl
  simp only [cellsU32, cellsInt, List.drop_zero, List.drop_succ_cons, List.take_succ_cons, List.take_zero] at h0 h1
  obtain ⟨x, rfl, wx⟩ := int_cell Try.underlying23 h0
  obtain ⟨k, rfl, wk⟩ := int_cell Try.underlying3 h1
  obtain ⟨x0, x1⟩ := bounds_u32 wx
  obtain ⟨k0, k1⟩ := bounds_i64 wk
  obtain ⟨x, rfl⟩ := Int.eq_ofNat_of_zero_le x0
  exact ⟨x, k, by omega, by omega, by omega, rfl, rfl⟩
end
theorem cellsOp : Try.prog.cellsOf 36 = 4 := by kernel_rfl
/-- Something that is put or taken. -/
structure OpR where
  d : Bool
  a : Nat
  n : Int
  v : Int
def OpR.cells (x : OpR) : List Value := [.bool x.d, .int .u32 x.a, .int .i64 x.n, .int .i64 x.v]
def OpR.Ok (x : OpR) : Prop := x.a < 4294967296 ∧ -9223372036854775808 ≤ x.v ∧ x.v ≤ 9223372036854775807
section
variable {H : Type} {enc : TypeId × Value → H} {w : World} {base : Nat} {sp : Nat → Bool} {held : Bool}
set_option maxRecDepth 100000 in
theorem op_dec (m : Nat) (cs : List Value) (y : DataW H × List MemPlace) (hl : cs.length = 3 + 1) (h : DataW.trod enc Try.prog w base sp held m 36 cs = some y) : ∃ x : OpR, x.cells = cs ∧ x.Ok := by
  match cs, hl with
  | [c0, c1, c2, c3], _ =>
    obtain ⟨m0, y0, h0⟩ := trod_field Try.underlying36 h 0 4 0 rfl
    obtain ⟨m1, y1, h1⟩ := trod_field Try.underlying36 h 1 25 1 rfl
    obtain ⟨m2, y2, h2⟩ := trod_field Try.underlying36 h 2 3 3 rfl
    simp only [cellsInt, cellsBool, cellsPre, List.drop_zero, List.drop_succ_cons, List.take_succ_cons, List.take_zero] at h0 h1 h2
    obtain ⟨x0, rfl⟩ := bool_cell Try.underlying4 h0
    obtain ⟨a, k, ha, -, -, rfl, rfl⟩ := pre_cells h1
    obtain ⟨x2, rfl, w2⟩ := int_cell Try.underlying3 h2
    obtain ⟨b1, b2⟩ := bounds_i64 w2
    exact ⟨⟨x0, a, k, x2⟩, rfl, ha, b1, by omega⟩
/-- Things that are handed in. -/
structure Ops (w : World) (v : Value) (L : List OpR) (la : Option Addr) (lc : Nat) : Prop where
  v : v = .slice la L.length lc
  r : Rw w la (L.flatMap OpR.cells)
  ok : ∀ x ∈ L, x.Ok
  len : L.length ≤ maxLen
  cap : L.length ≤ lc
set_option maxRecDepth 100000 in
theorem ops_open {b0 : Nat} {v : Value} {d : DataW H} {p : List MemPlace} (hv : Value.okWide Try.prog w .any b0 22 v) (h : DataW.Trod enc Try.prog w 0 sp held 22 v d p) : ∃ L la lc, Ops w v L la lc := by
  obtain ⟨a, len, cap, rfl⟩ := okWide_slice Try.underlying22 hv
  obtain ⟨fuel, hf⟩ := h
  have hf : DataW.trod enc Try.prog w 0 sp held fuel 22 [.slice a len cap] = some (d, p) := by simpa [Value.cells] using hf
  obtain ⟨la, lc, L, e0, r0, o0, l0, c0⟩ := slice_rows OpR.cells OpR.Ok 3 Try.underlying22 cellsOp (fun _ => rfl) op_dec hf
  exact ⟨L, la, lc, by simpa using e0, r0, o0, l0, c0⟩
end
theorem nat_u32 {x : Int} (h : (Lit.int .u32 x).wf = true) : ∃ i : Nat, i < 4294967296 ∧ x = (i : Nat) := by
  rw [Lit.wf, Bool.and_eq_true, decide_eq_true_eq, decide_eq_true_eq, show IntKind.u32.min = 0 from rfl, show IntKind.u32.max = 4294967295 from rfl] at h
  exact ⟨x.toNat, by omega, by omega⟩
theorem nat_u8 {x : Int} (h : (Lit.int .u8 x).wf = true) : ∃ i : Nat, i < 256 ∧ x = (i : Nat) := by
  rw [Lit.wf, Bool.and_eq_true, decide_eq_true_eq, decide_eq_true_eq, show IntKind.u8.min = 0 from rfl, show IntKind.u8.max = 255 from rfl] at h
  exact ⟨x.toNat, by omega, by omega⟩
end Go.Proofs.Ytgcbngephokegaa
