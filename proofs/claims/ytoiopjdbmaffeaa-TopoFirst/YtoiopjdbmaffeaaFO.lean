/- How a filter that is handed in reads. -/
import Derived.Test.YtoiopjdbmaffeaaF2
import Derived.Test.YtoiopjdbmaffeaaLaw
import Derived.Lib.SmallJoins
namespace Go.Proofs.Ytoiopjdbmaffeaa
open Go.ChangeShapes Go.WideShapes Go.ChangeAt Go.RowKit Go.Joins Go.Deep Go.WideElems Go.Maps

theorem array9 {α : Type} {cs : Array α} (h : cs.size = 9) : ∃ c0 c1 c2 c3 c4 c5 c6 c7 c8, cs = #[c0, c1, c2, c3, c4, c5, c6, c7, c8] := by
  obtain ⟨l⟩ := cs
  match l, h with
  | [c0, c1, c2, c3, c4, c5, c6, c7, c8], _ => exact ⟨c0, c1, c2, c3, c4, c5, c6, c7, c8, rfl⟩
theorem cellsPre : Try.prog.cellsOf 39 = 2 := by kernel_rfl
theorem cellsRng : Try.prog.cellsOf 37 = 2 := by kernel_rfl
theorem cellsFlt : Try.prog.cellsOf 41 = 9 := by kernel_rfl
theorem cellsInt : Try.prog.cellsOf 3 = 1 := by kernel_rfl
theorem cellsU32 : Try.prog.cellsOf 27 = 1 := by kernel_rfl
theorem cellsU16 : Try.prog.cellsOf 28 = 1 := by kernel_rfl
section
variable {H : Type} {enc : TypeId × Value → H} {P : Program} {W : World} {base : Nat} {sp : Nat → Bool} {held : Bool} {n : Nat}
/-- One field of a struct that reads: its type, and where it begins. -/
theorem trod_field {t : TypeId} {fs : Array Field} {cs : List Value} {x : DataW H × List MemPlace} (ht : P.underlying t = some (.struct fs)) (h : DataW.trod enc P W base sp held n t cs = some x)
    (i : Nat) (T : TypeId) (o : Nat) (hf : fs[i]?.map (fun f => (f.type, f.offset)) = some (T, o)) : ∃ m y, DataW.trod enc P W base sp held m T ((cs.drop o).take (P.cellsOf T)) = some y := by
  obtain ⟨xs, m, -, -, -, hl, k⟩ := DataW.trod_struct ht h
  rw [Option.map_eq_some_iff] at hf
  obtain ⟨f, hf, he⟩ := hf
  obtain ⟨rfl, rfl⟩ := Prod.mk.inj he
  have hi : i < fs.size := by
    rcases Nat.lt_or_ge i fs.size with q | q
    · exact q
    · rw [Array.getElem?_eq_none q] at hf; cases hf
  have := k i f hf
  rw [List.getElem?_eq_getElem (by omega)] at this
  exact ⟨m, _, this⟩
theorem int_cell {q : IntKind} {t : TypeId} {c : Value} {y : DataW H × List MemPlace} (ht : P.underlying t = some (.int q)) (h : DataW.trod enc P W base sp held n t [c] = some y) : ∃ x, c = .int q x ∧ (Lit.int q x).wf = true := by
  obtain ⟨x, e, -, wx⟩ := DataW.trod_int ht h
  simp at e
  exact ⟨x, e, wx⟩
set_option maxRecDepth 100000 in
theorem pre_cells {c0 c1 : Value} {y : DataW H × List MemPlace} (h : DataW.trod enc Try.prog W base sp held n 39 [c0, c1] = some y) :
    ∃ (a : Nat) (k : Int), a < 4294967296 ∧ -9223372036854775808 ≤ k ∧ k ≤ 9223372036854775807 ∧ c0 = .int .u32 a ∧ c1 = .int .i64 k := by
  obtain ⟨m0, y0, h0⟩ := trod_field Try.underlying39 h 0 27 0 rfl
  obtain ⟨m1, y1, h1⟩ := trod_field Try.underlying39 h 1 3 1 rfl
  simp only [cellsU32, cellsInt, List.drop_zero, List.drop_succ_cons, List.take_succ_cons, List.take_zero] at h0 h1
  obtain ⟨x, rfl, wx⟩ := int_cell Try.underlying27 h0
  obtain ⟨k, rfl, wk⟩ := int_cell Try.underlying3 h1
  obtain ⟨x0, x1⟩ := bounds_u32 wx
  obtain ⟨k0, k1⟩ := bounds_i64 wk
  obtain ⟨x, rfl⟩ := Int.eq_ofNat_of_zero_le x0
  exact ⟨x, k, by omega, by omega, by omega, rfl, rfl⟩
set_option maxRecDepth 100000 in
theorem rng_cells {c0 c1 : Value} {y : DataW H × List MemPlace} (h : DataW.trod enc Try.prog W base sp held n 37 [c0, c1] = some y) :
    ∃ a k : Nat, a < 65536 ∧ k < 65536 ∧ c0 = .int .u16 a ∧ c1 = .int .u16 k := by
  obtain ⟨m0, y0, h0⟩ := trod_field Try.underlying37 h 0 28 0 rfl
  obtain ⟨m1, y1, h1⟩ := trod_field Try.underlying37 h 1 28 1 rfl
  simp only [cellsU16, List.drop_zero, List.drop_succ_cons, List.take_succ_cons, List.take_zero] at h0 h1
  obtain ⟨x, rfl, wx⟩ := int_cell Try.underlying28 h0
  obtain ⟨k, rfl, wk⟩ := int_cell Try.underlying28 h1
  obtain ⟨x0, x1⟩ := bounds_u16 wx
  obtain ⟨k0, k1⟩ := bounds_u16 wk
  obtain ⟨x, rfl⟩ := Int.eq_ofNat_of_zero_le x0
  obtain ⟨k, rfl⟩ := Int.eq_ofNat_of_zero_le k0
  exact ⟨x, k, by omega, by omega, rfl, rfl⟩
/-- What a filter that is handed in may be. -/
structure FlB (a : Nat) (n : Int) (b : Nat) (m p : Int) (l h u v : Nat) : Prop where
  a : a < 4294967296
  n0 : -9223372036854775808 ≤ n
  n1 : n ≤ 9223372036854775807
  b : b < 4294967296
  m0 : -9223372036854775808 ≤ m
  m1 : m ≤ 9223372036854775807
  p0 : -9223372036854775808 ≤ p
  p1 : p ≤ 9223372036854775807
  l : l < 65536
  h : h < 65536
  u : u < 65536
  v : v < 65536
set_option maxRecDepth 100000 in
theorem flt_cells {c0 c1 c2 c3 c4 c5 c6 c7 c8 : Value} {y : DataW H × List MemPlace} (hh : DataW.trod enc Try.prog W base sp held n 41 [c0, c1, c2, c3, c4, c5, c6, c7, c8] = some y) :
    ∃ (a : Nat) (n : Int) (b : Nat) (m p : Int) (l h u v : Nat), FlB a n b m p l h u v ∧ c0 = .int .u32 a ∧ c1 = .int .i64 n ∧ c2 = .int .u32 b ∧ c3 = .int .i64 m ∧ c4 = .int .i64 p ∧ c5 = .int .u16 l ∧ c6 = .int .u16 h ∧ c7 = .int .u16 u ∧ c8 = .int .u16 v := by
  obtain ⟨m0, y0, h0⟩ := trod_field Try.underlying41 hh 0 39 0 rfl
  obtain ⟨m1, y1, h1⟩ := trod_field Try.underlying41 hh 1 39 2 rfl
  obtain ⟨m2, y2, h2⟩ := trod_field Try.underlying41 hh 2 3 4 rfl
  obtain ⟨m3, y3, h3⟩ := trod_field Try.underlying41 hh 3 37 5 rfl
  obtain ⟨m4, y4, h4⟩ := trod_field Try.underlying41 hh 4 37 7 rfl
  simp only [cellsPre, cellsRng, cellsInt, List.drop_zero, List.drop_succ_cons, List.take_succ_cons, List.take_zero] at h0 h1 h2 h3 h4
  obtain ⟨a, n, ha, n0, n1, rfl, rfl⟩ := pre_cells h0
  obtain ⟨b, m, hb, m0, m1, rfl, rfl⟩ := pre_cells h1
  obtain ⟨p, rfl, wp⟩ := int_cell Try.underlying3 h2
  obtain ⟨l, h, hl, hk, rfl, rfl⟩ := rng_cells h3
  obtain ⟨u, v, hu, hv, rfl, rfl⟩ := rng_cells h4
  obtain ⟨p0, p1⟩ := bounds_i64 wp
  exact ⟨a, n, b, m, p, l, h, u, v, ⟨ha, n0, n1, hb, m0, m1, by omega, by omega, hl, hk, hu, hv⟩, rfl, rfl, rfl, rfl, rfl, rfl, rfl, rfl, rfl⟩
set_option maxRecDepth 100000 in
theorem flt_open {v0 : Value} {d : DataW H} {p0 : List MemPlace} (hv : Value.okWide Try.prog W .any base 41 v0) (hh : DataW.Trod enc Try.prog W 0 sp held 41 v0 d p0) :
    ∃ (a : Nat) (n : Int) (b : Nat) (m p : Int) (l h u v : Nat), FlB a n b m p l h u v ∧ v0 = fv a n b m p l h u v := by
  obtain ⟨cs, rfl, hsz⟩ := okWide_struct Try.underlying41 hv
  obtain ⟨c0, c1, c2, c3, c4, c5, c6, c7, c8, rfl⟩ := array9 (hsz.trans cellsFlt)
  obtain ⟨fuel, hf⟩ := hh
  obtain ⟨a, n, b, m, p, l, h, u, v, B, rfl, rfl, rfl, rfl, rfl, rfl, rfl, rfl, rfl⟩ := flt_cells (show DataW.trod enc Try.prog W 0 sp held fuel 41 [c0, c1, c2, c3, c4, c5, c6, c7, c8] = some (d, p0) by simpa [Value.cells] using hf)
  exact ⟨a, n, b, m, p, l, h, u, v, B, rfl⟩
end
end Go.Proofs.Ytoiopjdbmaffeaa
