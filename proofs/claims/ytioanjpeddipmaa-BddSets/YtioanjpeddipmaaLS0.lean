/- Headers that are handed in. -/
import Derived.Test.YtioanjpeddipmaaLI
import Derived.Test.YtioanjpeddipmaaLL0
namespace Go.Proofs.Ytioanjpeddipmaa
open Go.ChangeShapes Go.WideShapes Go.ChangeAt Go.RowKit Go.Joins Go.Deep Go.WideElems Go.Maps
set_option linter.unusedVariables false

/-- A header, by its words. -/
structure Hx where
  a : Nat
  b : Nat
def Hx.cells (x : Hx) : List Value := [.int .u32 (fd x.a : Nat), .int .u32 (fs x.a : Nat), .int .u8 (fd x.b : Nat), .int .u16 (fx x.b : Nat), .int .u16 (fy x.b : Nat)]
theorem Hx.cells_len (x : Hx) : x.cells.length = 5 := rfl
theorem cellsHdr' : Try.prog.cellsOf 36 = 5 := by kernel_rfl
theorem cellsU32' : Try.prog.cellsOf 33 = 1 := by kernel_rfl
theorem cellsU16' : Try.prog.cellsOf 34 = 1 := by kernel_rfl
theorem cellsU8' : Try.prog.cellsOf 5 = 1 := by kernel_rfl
theorem words_of {d s p x y : Nat} (hd : d < 4294967296) (hs : s < 4294967296) (hp : p < 256) (hx : x < 65536) (hy : y < 65536) : ∃ h : Hx, WB h.a h.b ∧ h.cells = [.int .u32 (d : Nat), .int .u32 (s : Nat), .int .u8 (p : Nat), .int .u16 (x : Nat), .int .u16 (y : Nat)] := by
  refine ⟨⟨pa d s, pb p x y⟩, ⟨pa_lt hd hs, pb_lt hp hx hy⟩, ?_⟩
  unfold Hx.cells
  have e1 : fd (pa d s) = d := by unfold fd pa; omega
  have e2 : fs (pa d s) = s := by unfold fs pa; omega
  have e3 : fd (pb p x y) = p := by unfold fd pb; omega
  have e4 : fx (pb p x y) = x := by unfold fx pb; omega
  have e5 : fy (pb p x y) = y := by unfold fy pb; omega
  simp only [e1, e2, e3, e4, e5]
section
variable {H : Type} {enc : TypeId × Value → H} {w : World} {base : Nat} {sp : Nat → Bool} {held : Bool}
set_option maxRecDepth 100000 in
theorem hx_dec (m : Nat) (cs : List Value) (y : DataW H × List MemPlace) (hl : cs.length = 4 + 1) (h : DataW.trod enc Try.prog w base sp held m 36 cs = some y) : ∃ x : Hx, x.cells = cs ∧ WB x.a x.b := by
  match cs, hl with
  | [c0, c1, c2, c3, c4], _ =>
    obtain ⟨m0, y0, h0⟩ := trod_field Try.underlying36 h 0 33 0 rfl
    obtain ⟨m1, y1, h1⟩ := trod_field Try.underlying36 h 1 33 1 rfl
    obtain ⟨m2, y2, h2⟩ := trod_field Try.underlying36 h 2 5 2 rfl
    obtain ⟨m3, y3, h3⟩ := trod_field Try.underlying36 h 3 34 3 rfl
    obtain ⟨m4, y4, h4⟩ := trod_field Try.underlying36 h 4 34 4 rfl
    simp only [cellsU32', cellsU16', cellsU8', List.drop_zero, List.drop_succ_cons, List.take_succ_cons, List.take_zero] at h0 h1 h2 h3 h4
    obtain ⟨x0, rfl, w0⟩ := int_cell Try.underlying33 h0
    obtain ⟨x1, rfl, w1⟩ := int_cell Try.underlying33 h1
    obtain ⟨x2, rfl, w2⟩ := int_cell Try.underlying5 h2
    obtain ⟨x3, rfl, w3⟩ := int_cell Try.underlying34 h3
    obtain ⟨x4, rfl, w4⟩ := int_cell Try.underlying34 h4
    obtain ⟨l0, u0⟩ := bounds_u32 w0
    obtain ⟨l1, u1⟩ := bounds_u32 w1
    obtain ⟨l2, u2⟩ := bounds_u8 w2
    obtain ⟨l3, u3⟩ := bounds_u16 w3
    obtain ⟨l4, u4⟩ := bounds_u16 w4
    obtain ⟨d, rfl⟩ := Int.eq_ofNat_of_zero_le l0
    obtain ⟨s, rfl⟩ := Int.eq_ofNat_of_zero_le l1
    obtain ⟨q, rfl⟩ := Int.eq_ofNat_of_zero_le l2
    obtain ⟨x, rfl⟩ := Int.eq_ofNat_of_zero_le l3
    obtain ⟨z, rfl⟩ := Int.eq_ofNat_of_zero_le l4
    obtain ⟨h, k1, k2⟩ := words_of (d := d) (s := s) (p := q) (x := x) (y := z) (by omega) (by omega) (by omega) (by omega) (by omega)
    exact ⟨h, k2, k1⟩
/-- Headers that are handed in. -/
structure Hxs (w : World) (v : Value) (L : List Hx) (la : Option Addr) (lc : Nat) : Prop where
  v : v = .slice la L.length lc
  r : Rw w la (L.flatMap Hx.cells)
  ok : ∀ x ∈ L, WB x.a x.b
theorem hxs_open {b0 : Nat} {v : Value} {d : DataW H} {p : List MemPlace} (hv : Value.okWide Try.prog w .any b0 23 v) (h : DataW.Trod enc Try.prog w 0 sp held 23 v d p) : ∃ L la lc, Hxs w v L la lc := by
  obtain ⟨a, len, cap, rfl⟩ := okWide_slice Try.underlying23 hv
  obtain ⟨fuel, hf⟩ := h
  obtain ⟨la, lc, L, e0, r0, o0, l0, c0⟩ := slice_rows Hx.cells (fun x => WB x.a x.b) 4 Try.underlying23 cellsHdr' (fun _ => rfl) hx_dec hf
  simp [Value.cells] at e0
  exact ⟨L, la, lc, by simp [e0], r0, o0⟩
end
end Go.Proofs.Ytioanjpeddipmaa
