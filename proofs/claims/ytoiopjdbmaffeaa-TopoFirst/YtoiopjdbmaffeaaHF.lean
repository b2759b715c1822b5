/- How a header that is handed in reads, and reads again. -/
import Derived.Test.YtoiopjdbmaffeaaH1
import Derived.Test.YtoiopjdbmaffeaaPostB
import Derived.ProofKit
import Derived.OpenShut
import Derived.Lib.SmallJoins
import Derived.LaidMore
import Derived.Stop.Joined
namespace Go.Proofs.Ytoiopjdbmaffeaa
open Go.ChangeShapes Go.WideShapes Go.ChangeAt Go.RowKit Go.Joins Go.Deep Go.WideElems Go.Maps

theorem array5 {α : Type} {cs : Array α} (h : cs.size = 5) : ∃ c0 c1 c2 c3 c4, cs = #[c0, c1, c2, c3, c4] := by
  obtain ⟨l⟩ := cs
  match l, h with
  | [c0, c1, c2, c3, c4], _ => exact ⟨c0, c1, c2, c3, c4, rfl⟩
section
variable {H : Type} {enc : TypeId × Value → H} {P : Program} {w : World} {base : Nat} {spare : Nat → Bool} {held : Bool}
theorem open_agg5 {r : Reach} {b0 : Nat} {t : TypeId} {f0 f1 f2 f3 f4 : Field} {v : Value} {d : DataW H} {p : List MemPlace} (hs : P.underlying t = some (.struct #[f0, f1, f2, f3, f4])) (hone : oneCellFields P #[f0, f1, f2, f3, f4] = true) (hC : P.cellsOf t = 5)
    (hv : Value.okWide P w r b0 t v) (h : DataW.Trod enc P w base spare held t v d p) :
    ∃ (v0 v1 v2 v3 v4 : Value) (y0 y1 y2 y3 y4 : DataW H × List MemPlace) (n : Nat), v = .agg #[v0, v1, v2, v3, v4] ∧ d = .agg [y0.1, y1.1, y2.1, y3.1, y4.1] ∧ p = y0.2 ++ (y1.2 ++ (y2.2 ++ (y3.2 ++ y4.2))) ∧
      DataW.trod enc P w base spare held n f0.type [v0] = some y0 ∧ DataW.trod enc P w base spare held n f1.type [v1] = some y1 ∧ DataW.trod enc P w base spare held n f2.type [v2] = some y2 ∧ DataW.trod enc P w base spare held n f3.type [v3] = some y3 ∧ DataW.trod enc P w base spare held n f4.type [v4] = some y4 := by
  obtain ⟨cs, rfl, hsz⟩ := okWide_struct hs hv
  obtain ⟨c0, c1, c2, c3, c4, rfl⟩ := array5 (hsz.trans hC)
  obtain ⟨fuel, hf⟩ := h
  obtain ⟨xs, n, _, hx, hl, hlen, hf⟩ := DataW.trod_struct hs hf
  obtain ⟨o0, k0⟩ := hone_of hone 0 f0 rfl
  obtain ⟨o1, k1⟩ := hone_of hone 1 f1 rfl
  obtain ⟨o2, k2⟩ := hone_of hone 2 f2 rfl
  obtain ⟨o3, k3⟩ := hone_of hone 3 f3 rfl
  obtain ⟨o4, k4⟩ := hone_of hone 4 f4 rfl
  match xs, hlen, hx, hf with
  | [y0, y1, y2, y3, y4], _, hx, hf =>
    simp at hx
    exact ⟨c0, c1, c2, c3, c4, y0, y1, y2, y3, y4, n, rfl, hx.1, hx.2, by simpa [Value.cells, o0, k0] using hf 0 f0 rfl, by simpa [Value.cells, o1, k1] using hf 1 f1 rfl, by simpa [Value.cells, o2, k2] using hf 2 f2 rfl, by simpa [Value.cells, o3, k3] using hf 3 f3 rfl, by simpa [Value.cells, o4, k4] using hf 4 f4 rfl⟩
theorem shut_agg5 {t : TypeId} {f0 f1 f2 f3 f4 : Field} {v0 v1 v2 v3 v4 : Value} {n : Nat} {y0 y1 y2 y3 y4 : DataW H × List MemPlace} (hs : P.underlying t = some (.struct #[f0, f1, f2, f3, f4])) (hone : oneCellFields P #[f0, f1, f2, f3, f4] = true) (hC : P.cellsOf t = 5)
    (t0 : DataW.trod enc P w base spare held n f0.type [v0] = some y0) (t1 : DataW.trod enc P w base spare held n f1.type [v1] = some y1) (t2 : DataW.trod enc P w base spare held n f2.type [v2] = some y2) (t3 : DataW.trod enc P w base spare held n f3.type [v3] = some y3) (t4 : DataW.trod enc P w base spare held n f4.type [v4] = some y4) :
    DataW.Trod enc P w base spare held t (.agg #[v0, v1, v2, v3, v4]) (.agg [y0.1, y1.1, y2.1, y3.1, y4.1]) (y0.2 ++ (y1.2 ++ (y2.2 ++ (y3.2 ++ y4.2)))) := by
  obtain ⟨o0, k0⟩ := hone_of hone 0 f0 rfl
  obtain ⟨o1, k1⟩ := hone_of hone 1 f1 rfl
  obtain ⟨o2, k2⟩ := hone_of hone 2 f2 rfl
  obtain ⟨o3, k3⟩ := hone_of hone 3 f3 rfl
  obtain ⟨o4, k4⟩ := hone_of hone 4 f4 rfl
  have ts := trod_struct_mk (enc := enc) (w := w) (base := base) (spare := spare) (held := held) (n := n) (cs := [v0, v1, v2, v3, v4]) (xs := [y0, y1, y2, y3, y4]) hs (by simp [hC]) (by simp [o0, k0, o1, k1, o2, k2, o3, k3, o4, k4, t0, t1, t2, t3, t4])
  exact ⟨n + 1, by simpa [Value.cells] using ts⟩
end
theorem cellsHdr : Try.prog.cellsOf 30 = 5 := by kernel_rfl
set_option maxRecDepth 100000 in
theorem hdr_five {H : Type} {enc : TypeId × Value → H} {W : World} {base : Nat} {v : Value} {d : DataW H} {p : List MemPlace}
    (hv0 : Value.okWide Try.prog W .any base 30 v) (h : DataW.Trod enc Try.prog W 0 (fun _ => true) true 30 v d p) :
    ∃ x0 x1 x2 x3 x4 : Nat, x0 < 4294967296 ∧ x1 < 4294967296 ∧ x2 < 256 ∧ x3 < 65536 ∧ x4 < 65536 ∧ v = hv x0 x1 x2 x3 x4 ∧ p = [] ∧ ∀ (W' : World) (sp : Nat → Bool), DataW.Trod enc Try.prog W' 0 sp true 30 v d [] := by
  obtain ⟨c0, c1, c2, c3, c4, y0, y1, y2, y3, y4, m, rfl, rfl, rfl, g0, g1, g2, g3, g4⟩ := open_agg5 Try.underlying30 (by kernel_rfl) cellsHdr hv0 h
  obtain ⟨x0, e0, rfl, w0⟩ := DataW.trod_int Try.underlying27 g0
  obtain ⟨x1, e1, rfl, w1⟩ := DataW.trod_int Try.underlying27 g1
  obtain ⟨x2, e2, rfl, w2⟩ := DataW.trod_int Try.underlying5 g2
  obtain ⟨x3, e3, rfl, w3⟩ := DataW.trod_int Try.underlying28 g3
  obtain ⟨x4, e4, rfl, w4⟩ := DataW.trod_int Try.underlying28 g4
  simp at e0 e1 e2 e3 e4
  subst e0 e1 e2 e3 e4
  obtain ⟨l0, u0⟩ := bounds_u32 w0
  obtain ⟨l1, u1⟩ := bounds_u32 w1
  obtain ⟨l2, u2⟩ := bounds_u8 w2
  obtain ⟨l3, u3⟩ := bounds_u16 w3
  obtain ⟨l4, u4⟩ := bounds_u16 w4
  obtain ⟨x0, rfl⟩ := Int.eq_ofNat_of_zero_le l0
  obtain ⟨x1, rfl⟩ := Int.eq_ofNat_of_zero_le l1
  obtain ⟨x2, rfl⟩ := Int.eq_ofNat_of_zero_le l2
  obtain ⟨x3, rfl⟩ := Int.eq_ofNat_of_zero_le l3
  obtain ⟨x4, rfl⟩ := Int.eq_ofNat_of_zero_le l4
  refine ⟨x0, x1, x2, x3, x4, by omega, by omega, by omega, by omega, by omega, rfl, rfl, fun W' sp => ?_⟩
  exact shut_agg5 (n := 1) (y0 := (.lit (.int .u32 x0), [])) (y1 := (.lit (.int .u32 x1), [])) (y2 := (.lit (.int .u8 x2), [])) (y3 := (.lit (.int .u16 x3), [])) (y4 := (.lit (.int .u16 x4), [])) Try.underlying30 (by kernel_rfl) cellsHdr
    (by simp [DataW.trod, Try.underlying27, w0]) (by simp [DataW.trod, Try.underlying27, w1]) (by simp [DataW.trod, Try.underlying5, w2]) (by simp [DataW.trod, Try.underlying28, w3]) (by simp [DataW.trod, Try.underlying28, w4])
end Go.Proofs.Ytoiopjdbmaffeaa
