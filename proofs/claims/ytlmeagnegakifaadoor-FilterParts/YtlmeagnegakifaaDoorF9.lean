/- The walk of FilterParts. -/
import Derived.Test.YtlmeagnegakifaaDoorF5
import Derived.Test.YtlmeagnegakifaaDoorAt
import Derived.Test.YtlmeagnegakifaaDoorInv
import Derived.LoopN
namespace Go.Proofs.YtlmeagnegakifaaDoor
open Go.RowKit
set_option linter.unusedVariables false

/-- One of the five: whether its value is loaded, its block laid, and written. -/
def Ch (W wx : World) (lo al st : Bool) (x y : Value) (g : Nat) : Prop :=
  (lo = true → y = Value.agg #[.int .u32 0, .int .i64 0, .int .u32 0, .int .i64 0, .int .i64 (-1), .int .u16 0, .int .u16 65535, .int .u16 0, .int .u16 65535]) ∧ (st = true → al = true) ∧ (al = true → x = .pointer (some ⟨g, 0, none⟩) ∧ W.heap.size ≤ g ∧ Blk wx g (if st = true then [.int .u32 0, .int .i64 0, .int .u32 0, .int .i64 0, .int .i64 (-1), .int .u16 0, .int .u16 65535, .int .u16 0, .int .u16 65535] else [.int .u32 0, .int .i64 0, .int .u32 0, .int .i64 0, .int .i64 0, .int .u16 0, .int .u16 0, .int .u16 0, .int .u16 0]))
theorem Ch.on {W wx wy : World} {lo al st : Bool} {x y : Value} {g : Nat} (h : Ch W wx lo al st x y g) (hb : Below wx.heap.size wx wy) : Ch W wy lo al st x y g :=
  ⟨h.1, h.2.1, fun q => ⟨(h.2.2 q).1, (h.2.2 q).2.1, (h.2.2 q).2.2.on hb⟩⟩
theorem ch_none (W wx : World) : Ch W wx false false false undef undef 0 := ⟨fun q => by simp at q, fun q => by simp at q, fun q => by simp at q⟩
theorem Ch.lt {W wx : World} {lo al st : Bool} {x y : Value} {g : Nat} (h : Ch W wx lo al st x y g) (q : al = true) : g < wx.heap.size := by
  have k := (h.2.2 q).2.2
  cases st
  · exact Blk.lt k
  · exact Blk.lt k
theorem Blk.far9 {w : World} {b b' : Nat} {cs : List Value} (h : Blk w b cs) (hne : b' ≠ b) (v0 v1 v2 v3 v4 v5 v6 v7 v8 : Value) :
    Blk (((((((((w.setCell ⟨b', 0, none⟩ v0).setCell ⟨b', 1, none⟩ v1).setCell ⟨b', 2, none⟩ v2).setCell ⟨b', 3, none⟩ v3).setCell ⟨b', 4, none⟩ v4).setCell ⟨b', 5, none⟩ v5).setCell ⟨b', 6, none⟩ v6).setCell ⟨b', 7, none⟩ v7).setCell ⟨b', 8, none⟩ v8) b cs :=
  ((((((((h.far _ _ hne).far _ _ hne).far _ _ hne).far _ _ hne).far _ _ hne).far _ _ hne).far _ _ hne).far _ _ hne).far _ _ hne
theorem Ch.far {W wx : World} {lo al st : Bool} {x y : Value} {g b' : Nat} (h : Ch W wx lo al st x y g) (hne : al = true → b' ≠ g) (v0 v1 v2 v3 v4 v5 v6 v7 v8 : Value) :
    Ch W (((((((((wx.setCell ⟨b', 0, none⟩ v0).setCell ⟨b', 1, none⟩ v1).setCell ⟨b', 2, none⟩ v2).setCell ⟨b', 3, none⟩ v3).setCell ⟨b', 4, none⟩ v4).setCell ⟨b', 5, none⟩ v5).setCell ⟨b', 6, none⟩ v6).setCell ⟨b', 7, none⟩ v7).setCell ⟨b', 8, none⟩ v8) lo al st x y g :=
  ⟨h.1, h.2.1, fun q => ⟨(h.2.2 q).1, (h.2.2 q).2.1, (h.2.2 q).2.2.far9 (hne q) _ _ _ _ _ _ _ _ _⟩⟩
/-- One of the five in region 5: whether its field is pointed at, loaded, its place pointed at, and written. -/
def C5 (wx : World) (fa ld ga st : Bool) (t v z : Value) (f g o : Nat) (V : Value) (cs ds : List Value) : Prop :=
  (fa = true → t = .pointer (some ⟨f, o, none⟩)) ∧ (ld = true → v = V) ∧ (ga = true → z = .pointer (some ⟨g, o, none⟩)) ∧ Blk wx g (if st = true then ds else cs)
theorem C5.far {wx : World} {fa ld ga st : Bool} {t v z : Value} {f g o : Nat} {V : Value} {cs ds : List Value} (h : C5 wx fa ld ga st t v z f g o V cs ds) (p : Addr) (y : Value) (hp : p.block ≠ g) : C5 (wx.setCell p y) fa ld ga st t v z f g o V cs ds :=
  ⟨h.1, h.2.1, h.2.2.1, h.2.2.2.far p y hp⟩
theorem c5_none {wx : World} {f g o : Nat} {V : Value} {cs ds : List Value} (h : Blk wx g cs) : C5 wx false false false false undef undef undef f g o V cs ds := ⟨fun q => by simp at q, fun q => by simp at q, fun q => by simp at q, h⟩
set_option maxRecDepth 100000 in
set_option maxHeartbeats 8000000 in
theorem fparts_core (a n b m p l h u v d s q x y E : Int) (M0 M1 M2 M3 M4 M : Bool) (P : World → Prop) (HP : Hid (∀ W w, P W → Below W.heap.size W w → P w))
    (RC : Hid (∀ w, Calls Tryd.prog 33 #[fv a n b m p l h u v] w fun e w' => e = .returned (.int .i64 E) ∧ Below w.heap.size w w'))
    (AW : Hid (∀ w, P w → Calls Tryd.prog 36 #[] w fun e w' => e = .returned (.bool true) ∧ Below w.heap.size w w'))
    (AL : Hid (∀ w, Calls Tryd.prog 35 #[] w fun e w' => e = .returned (fv 0 0 0 0 (-1) 0 65535 0 65535) ∧ Below w.heap.size w w'))
    (K0 : Hid (E = 0 → ∀ w, Calls Tryd.prog 32 #[fv a n 0 0 (-1) 0 65535 0 65535] w fun e w' => e = .returned (.int .i64 0) ∧ Below w.heap.size w w'))
    (T0 : Hid (E = 0 → ∀ w, Calls Tryd.prog 40 #[fv a n 0 0 (-1) 0 65535 0 65535, fv 0 0 0 0 (-1) 0 65535 0 65535] w fun e w' => e = .returned (.bool true) ∧ Below w.heap.size w w'))
    (N0 : Hid (E = 0 → ∀ w, Calls Tryd.prog 34 #[fv a n 0 0 (-1) 0 65535 0 65535, hv d s q x y] w fun e w' => e = .returned (.bool M0) ∧ Below w.heap.size w w'))
    (K1 : Hid (E = 0 → ∀ w, Calls Tryd.prog 32 #[fv 0 0 b m (-1) 0 65535 0 65535] w fun e w' => e = .returned (.int .i64 0) ∧ Below w.heap.size w w'))
    (T1 : Hid (E = 0 → ∀ w, Calls Tryd.prog 40 #[fv 0 0 b m (-1) 0 65535 0 65535, fv 0 0 0 0 (-1) 0 65535 0 65535] w fun e w' => e = .returned (.bool true) ∧ Below w.heap.size w w'))
    (N1 : Hid (E = 0 → ∀ w, Calls Tryd.prog 34 #[fv 0 0 b m (-1) 0 65535 0 65535, hv d s q x y] w fun e w' => e = .returned (.bool M1) ∧ Below w.heap.size w w'))
    (K2 : Hid (E = 0 → ∀ w, Calls Tryd.prog 32 #[fv 0 0 0 0 p 0 65535 0 65535] w fun e w' => e = .returned (.int .i64 0) ∧ Below w.heap.size w w'))
    (T2 : Hid (E = 0 → ∀ w, Calls Tryd.prog 40 #[fv 0 0 0 0 p 0 65535 0 65535, fv 0 0 0 0 (-1) 0 65535 0 65535] w fun e w' => e = .returned (.bool true) ∧ Below w.heap.size w w'))
    (N2 : Hid (E = 0 → ∀ w, Calls Tryd.prog 34 #[fv 0 0 0 0 p 0 65535 0 65535, hv d s q x y] w fun e w' => e = .returned (.bool M2) ∧ Below w.heap.size w w'))
    (K3 : Hid (E = 0 → ∀ w, Calls Tryd.prog 32 #[fv 0 0 0 0 (-1) l h 0 65535] w fun e w' => e = .returned (.int .i64 0) ∧ Below w.heap.size w w'))
    (T3 : Hid (E = 0 → ∀ w, Calls Tryd.prog 40 #[fv 0 0 0 0 (-1) l h 0 65535, fv 0 0 0 0 (-1) 0 65535 0 65535] w fun e w' => e = .returned (.bool true) ∧ Below w.heap.size w w'))
    (N3 : Hid (E = 0 → ∀ w, Calls Tryd.prog 34 #[fv 0 0 0 0 (-1) l h 0 65535, hv d s q x y] w fun e w' => e = .returned (.bool M3) ∧ Below w.heap.size w w'))
    (K4 : Hid (E = 0 → ∀ w, Calls Tryd.prog 32 #[fv 0 0 0 0 (-1) 0 65535 u v] w fun e w' => e = .returned (.int .i64 0) ∧ Below w.heap.size w w'))
    (T4 : Hid (E = 0 → ∀ w, Calls Tryd.prog 40 #[fv 0 0 0 0 (-1) 0 65535 u v, fv 0 0 0 0 (-1) 0 65535 0 65535] w fun e w' => e = .returned (.bool true) ∧ Below w.heap.size w w'))
    (N4 : Hid (E = 0 → ∀ w, Calls Tryd.prog 34 #[fv 0 0 0 0 (-1) 0 65535 u v, hv d s q x y] w fun e w' => e = .returned (.bool M4) ∧ Below w.heap.size w w'))
    (NM : Hid (E = 0 → ∀ w, Calls Tryd.prog 34 #[fv a n b m p l h u v, hv d s q x y] w fun e w' => e = .returned (.bool M) ∧ Below w.heap.size w w')) (hM : Hid (E = 0 → (M0 && M1 && M2 && M3 && M4) = M))
    (w : World) (ht : P w) : Calls Tryd.prog 10 #[fv a n b m p l h u v, hv d s q x y] w fun e w' => e = .returned (.bool true) ∧ Below w.heap.size w w' := by
  obtain ⟨W0, hW0⟩ : ∃ W0, (w.alloc (Obj.cells (fc a n b m p l h u v).toArray 62)).alloc (Obj.cells (hc d s q x y).toArray 25) = W0 := ⟨_, rfl⟩
  have F0 := Lib.hid (show Blk W0 w.heap.size (fc a n b m p l h u v) by rw [← hW0]; exact (Blk.new _ _ _).on (cbelow_al (Below.refl _ _) _))
  have G0 := Lib.hid (show Blk W0 (w.heap.size + 1) (hc d s q x y) by rw [← hW0]; have k := Blk.new (w.alloc (Obj.cells (fc a n b m p l h u v).toArray 62)) 25 (hc d s q x y); rw [World.size_alloc] at k; exact k)
  have B0 := Lib.hid (show Below w.heap.size w W0 by rw [← hW0]; exact cbelow_al (cbelow_al (Below.refl _ _) _) _)
  have hP0 := Lib.hid (HP.out _ _ ht B0.out)
  clear ht
  unfold fc hc at *
  unfold fv hv at *
  go_enter Tryd.func10, Tryd.ntmps10
  go_upto_region 1 with fail
  clear hW0
  obtain ⟨f_0, f_1, f_2, f_3, f_4, f_5, f_6, f_7, f_8⟩ : _ ∧ _ ∧ _ ∧ _ ∧ _ ∧ _ ∧ _ ∧ _ ∧ _ := ⟨F0.out.1 0 _ rfl, F0.out.1 1 _ rfl, F0.out.1 2 _ rfl, F0.out.1 3 _ rfl, F0.out.1 4 _ rfl, F0.out.1 5 _ rfl, F0.out.1 6 _ rfl, F0.out.1 7 _ rfl, F0.out.1 8 _ rfl⟩
  obtain ⟨g_0, g_1, g_2, g_3, g_4⟩ : _ ∧ _ ∧ _ ∧ _ ∧ _ := ⟨G0.out.1 0 _ rfl, G0.out.1 1 _ rfl, G0.out.1 2 _ rfl, G0.out.1 3 _ rfl, G0.out.1 4 _ rfl⟩
  go_wp2_with fail
  refine (RC.out _).mono ?_
  rintro e w1 ⟨rfl, hb⟩
  have F1 := Lib.hid (F0.out.on hb)
  have G1 := Lib.hid (G0.out.on hb)
  have B1 := Lib.hid (cbelow_on B0.out hb)
  have hP1 := Lib.hid (HP.out _ _ hP0.out hb)
  clear hb f_0 f_1 f_2 f_3 f_4 f_5 f_6 f_7 f_8 g_0 g_1 g_2 g_3 g_4 F0 G0 B0 hP0
  obtain ⟨f_0, f_1, f_2, f_3, f_4, f_5, f_6, f_7, f_8⟩ : _ ∧ _ ∧ _ ∧ _ ∧ _ ∧ _ ∧ _ ∧ _ ∧ _ := ⟨F1.out.1 0 _ rfl, F1.out.1 1 _ rfl, F1.out.1 2 _ rfl, F1.out.1 3 _ rfl, F1.out.1 4 _ rfl, F1.out.1 5 _ rfl, F1.out.1 6 _ rfl, F1.out.1 7 _ rfl, F1.out.1 8 _ rfl⟩
  obtain ⟨g_0, g_1, g_2, g_3, g_4⟩ : _ ∧ _ ∧ _ ∧ _ ∧ _ := ⟨G1.out.1 0 _ rfl, G1.out.1 1 _ rfl, G1.out.1 2 _ rfl, G1.out.1 3 _ rfl, G1.out.1 4 _ rfl⟩
  by_cases e1 : E = 0
  · subst e1
    clear f_0 f_1 f_2 f_3 f_4 f_5 f_6 f_7 f_8 g_0 g_1 g_2 g_3 g_4
    go_wp2_with fail
    refine (AL.out _).mono ?_
    rintro e w2 ⟨rfl, hb⟩
    have F2 := Lib.hid (F1.out.on hb)
    have G2 := Lib.hid (G1.out.on hb)
    have B2 := Lib.hid (cbelow_on B1.out hb)
    have hP2 := Lib.hid (HP.out _ _ hP1.out hb)
    clear hb F1 G1 B1 hP1
    go_upto_region 4 with fail
    refine at_code (S := fun W => Blk W w2.heap.size [.int .u32 0, .int .i64 0, .int .u32 0, .int .i64 0, .int .i64 (-1), .int .u16 0, .int .u16 65535, .int .u16 0, .int .u16 65535] ∧ Below w2.heap.size w2 W) ⟨Blk.new _ _ _, cbelow_al (Below.refl _ _) _⟩ (fun W3 hW => ?_)
    obtain ⟨hN, hb⟩ := hW
    have F3 := Lib.hid (F2.out.on hb)
    have G3 := Lib.hid (G2.out.on hb)
    have B3 := Lib.hid (cbelow_on B2.out hb)
    have hP3 := Lib.hid (HP.out _ _ hP2.out hb)
    clear hb F2 G2 B2 hP2
    have A3 := Lib.hid hN
    clear hN
    obtain ⟨kA, hkA⟩ : ∃ k, w2.heap.size = k := ⟨_, rfl⟩
    rw [hkA] at A3 ⊢
    clear hkA
    refine wp_region_inv (fun dn act wx => ∃ (lo0 lo1 lo2 lo3 lo4 al0 al1 al2 al3 al4 st0 st1 st2 st3 st4 : Bool) (x0 x1 x2 x3 x4 y0 y1 y2 y3 y4 : Value) (g0 g1 g2 g3 g4 : Nat), dn = #[lo0, lo1, lo2, lo3, lo4, al0, al1, al2, al3, al4, st0, st1, st2, st3, st4] ∧ act = { tmps := #[.agg #[.int .u32 a, .int .i64 n, .int .u32 b, .int .i64 m, .int .i64 p, .int .u16 l, .int .u16 h, .int .u16 u, .int .u16 v], .agg #[.int .u32 d, .int .u32 s, .int .u8 q, .int .u16 x, .int .u16 y], .pointer (some ⟨w.heap.size, 0, none⟩), .pointer (some ⟨w.heap.size + 1, 0, none⟩), .bool false, .pointer (some ⟨kA, 0, none⟩), x0, x1, x2, x3, x4, undef, undef, undef, .agg #[.int .u32 a, .int .i64 n, .int .u32 b, .int .i64 m, .int .i64 p, .int .u16 l, .int .u16 h, .int .u16 u, .int .u16 v], .int .i64 0, .bool false, undef, Value.agg #[.int .u32 0, .int .i64 0, .int .u32 0, .int .i64 0, .int .i64 (-1), .int .u16 0, .int .u16 65535, .int .u16 0, .int .u16 65535], y0, y1, y2, y3, y4, undef, undef, undef, undef, undef, undef, undef, undef, undef, undef, undef, undef, undef, undef, undef, undef, undef, undef, undef, undef, undef, undef, undef, undef, undef, undef, undef, undef, undef, undef, undef, undef, undef, undef, undef, undef, undef, undef, undef, undef, undef, undef, undef, undef, undef, undef, undef, undef, undef, undef], defers := [] } ∧ Below W3.heap.size W3 wx ∧ Ch W3 wx lo0 al0 st0 x0 y0 g0 ∧ Ch W3 wx lo1 al1 st1 x1 y1 g1 ∧ Ch W3 wx lo2 al2 st2 x2 y2 g2 ∧ Ch W3 wx lo3 al3 st3 x3 y3 g3 ∧ Ch W3 wx lo4 al4 st4 x4 y4 g4 ∧ (al0 = true → al1 = true → g0 ≠ g1) ∧ (al0 = true → al2 = true → g0 ≠ g2) ∧ (al0 = true → al3 = true → g0 ≠ g3) ∧ (al0 = true → al4 = true → g0 ≠ g4) ∧ (al1 = true → al2 = true → g1 ≠ g2) ∧ (al1 = true → al3 = true → g1 ≠ g3) ∧ (al1 = true → al4 = true → g1 ≠ g4) ∧ (al2 = true → al3 = true → g2 ≠ g3) ∧ (al2 = true → al4 = true → g2 ≠ g4) ∧ (al3 = true → al4 = true → g3 ≠ g4)) (by kernel_rfl) ?_ ?_ ?_
    · clear RC AW AL NM hM HP K0 T0 N0 K1 T1 N1 K2 T2 N2 K3 T3 N3 K4 T4 N4 F3 G3 B3 hP3
      intro d0 act wx i o hJ hr ho K' hK
      obtain ⟨lo0, lo1, lo2, lo3, lo4, al0, al1, al2, al3, al4, st0, st1, st2, st3, st4, x0, x1, x2, x3, x4, y0, y1, y2, y3, y4, g0, g1, g2, g3, g4, rfl, rfl, hB, c0, c1, c2, c3, c4, n01, n02, n03, n04, n12, n13, n14, n23, n24, n34⟩ := hJ
      have hi : i < 15 := (ready_undone hr).2
      have hA := A3.out.on hB
      obtain ⟨a_0, a_1, a_2, a_3, a_4, a_5, a_6, a_7, a_8⟩ : _ ∧ _ ∧ _ ∧ _ ∧ _ ∧ _ ∧ _ ∧ _ ∧ _ := ⟨hA.1 0 _ rfl, hA.1 1 _ rfl, hA.1 2 _ rfl, hA.1 3 _ rfl, hA.1 4 _ rfl, hA.1 5 _ rfl, hA.1 6 _ rfl, hA.1 7 _ rfl, hA.1 8 _ rfl⟩
      clear hA
      obtain rfl | rfl | rfl | rfl | rfl | rfl | rfl | rfl | rfl | rfl | rfl | rfl | rfl | rfl | rfl : i = 0 ∨ i = 1 ∨ i = 2 ∨ i = 3 ∨ i = 4 ∨ i = 5 ∨ i = 6 ∨ i = 7 ∨ i = 8 ∨ i = 9 ∨ i = 10 ∨ i = 11 ∨ i = 12 ∨ i = 13 ∨ i = 14 := by omega
      · obtain rfl := Option.some.inj ho
        go_simp
        refine hK _ _ ⟨true, lo1, lo2, lo3, lo4, al0, al1, al2, al3, al4, st0, st1, st2, st3, st4, x0, x1, x2, x3, x4, _, y1, y2, y3, y4, g0, g1, g2, g3, g4, rfl, rfl, hB, ⟨fun _ => rfl, c0.2⟩, c1, c2, c3, c4, n01, n02, n03, n04, n12, n13, n14, n23, n24, n34⟩
      · obtain rfl := Option.some.inj ho
        go_simp
        refine hK _ _ ⟨lo0, true, lo2, lo3, lo4, al0, al1, al2, al3, al4, st0, st1, st2, st3, st4, x0, x1, x2, x3, x4, y0, _, y2, y3, y4, g0, g1, g2, g3, g4, rfl, rfl, hB, c0, ⟨fun _ => rfl, c1.2⟩, c2, c3, c4, n01, n02, n03, n04, n12, n13, n14, n23, n24, n34⟩
      · obtain rfl := Option.some.inj ho
        go_simp
        refine hK _ _ ⟨lo0, lo1, true, lo3, lo4, al0, al1, al2, al3, al4, st0, st1, st2, st3, st4, x0, x1, x2, x3, x4, y0, y1, _, y3, y4, g0, g1, g2, g3, g4, rfl, rfl, hB, c0, c1, ⟨fun _ => rfl, c2.2⟩, c3, c4, n01, n02, n03, n04, n12, n13, n14, n23, n24, n34⟩
      · obtain rfl := Option.some.inj ho
        go_simp
        refine hK _ _ ⟨lo0, lo1, lo2, true, lo4, al0, al1, al2, al3, al4, st0, st1, st2, st3, st4, x0, x1, x2, x3, x4, y0, y1, y2, _, y4, g0, g1, g2, g3, g4, rfl, rfl, hB, c0, c1, c2, ⟨fun _ => rfl, c3.2⟩, c4, n01, n02, n03, n04, n12, n13, n14, n23, n24, n34⟩
      · obtain rfl := Option.some.inj ho
        go_simp
        refine hK _ _ ⟨lo0, lo1, lo2, lo3, true, al0, al1, al2, al3, al4, st0, st1, st2, st3, st4, x0, x1, x2, x3, x4, y0, y1, y2, y3, _, g0, g1, g2, g3, g4, rfl, rfl, hB, c0, c1, c2, c3, ⟨fun _ => rfl, c4.2⟩, n01, n02, n03, n04, n12, n13, n14, n23, n24, n34⟩
      · obtain rfl := Option.some.inj ho
        simp [Region.ready, Region.binds] at hr
        have hs : st0 = false := by
          cases q : st0
          · rfl
          · have := c0.2.1 q; simp [this] at hr
        go_simp
        refine hK _ _ ⟨lo0, lo1, lo2, lo3, lo4, true, al1, al2, al3, al4, st0, st1, st2, st3, st4, _, x1, x2, x3, x4, y0, y1, y2, y3, y4, wx.heap.size, g1, g2, g3, g4, rfl, rfl, cbelow_al hB _, ⟨c0.1, fun _ => rfl, fun _ => ⟨rfl, hB.size, (by rw [hs]; exact Blk.new _ _ _)⟩⟩, c1.on (cbelow_al (Below.refl _ _) _), c2.on (cbelow_al (Below.refl _ _) _), c3.on (cbelow_al (Below.refl _ _) _), c4.on (cbelow_al (Below.refl _ _) _), (fun _ q => by have := c1.lt q; omega), (fun _ q => by have := c2.lt q; omega), (fun _ q => by have := c3.lt q; omega), (fun _ q => by have := c4.lt q; omega), n12, n13, n14, n23, n24, n34⟩
      · obtain rfl := Option.some.inj ho
        simp [Region.ready, Region.binds] at hr
        have hs : st1 = false := by
          cases q : st1
          · rfl
          · have := c1.2.1 q; simp [this] at hr
        go_simp
        refine hK _ _ ⟨lo0, lo1, lo2, lo3, lo4, al0, true, al2, al3, al4, st0, st1, st2, st3, st4, x0, _, x2, x3, x4, y0, y1, y2, y3, y4, g0, wx.heap.size, g2, g3, g4, rfl, rfl, cbelow_al hB _, c0.on (cbelow_al (Below.refl _ _) _), ⟨c1.1, fun _ => rfl, fun _ => ⟨rfl, hB.size, (by rw [hs]; exact Blk.new _ _ _)⟩⟩, c2.on (cbelow_al (Below.refl _ _) _), c3.on (cbelow_al (Below.refl _ _) _), c4.on (cbelow_al (Below.refl _ _) _), (fun q _ => by have := c0.lt q; omega), n02, n03, n04, (fun _ q => by have := c2.lt q; omega), (fun _ q => by have := c3.lt q; omega), (fun _ q => by have := c4.lt q; omega), n23, n24, n34⟩
      · obtain rfl := Option.some.inj ho
        simp [Region.ready, Region.binds] at hr
        have hs : st2 = false := by
          cases q : st2
          · rfl
          · have := c2.2.1 q; simp [this] at hr
        go_simp
        refine hK _ _ ⟨lo0, lo1, lo2, lo3, lo4, al0, al1, true, al3, al4, st0, st1, st2, st3, st4, x0, x1, _, x3, x4, y0, y1, y2, y3, y4, g0, g1, wx.heap.size, g3, g4, rfl, rfl, cbelow_al hB _, c0.on (cbelow_al (Below.refl _ _) _), c1.on (cbelow_al (Below.refl _ _) _), ⟨c2.1, fun _ => rfl, fun _ => ⟨rfl, hB.size, (by rw [hs]; exact Blk.new _ _ _)⟩⟩, c3.on (cbelow_al (Below.refl _ _) _), c4.on (cbelow_al (Below.refl _ _) _), n01, (fun q _ => by have := c0.lt q; omega), n03, n04, (fun q _ => by have := c1.lt q; omega), n13, n14, (fun _ q => by have := c3.lt q; omega), (fun _ q => by have := c4.lt q; omega), n34⟩
      · obtain rfl := Option.some.inj ho
        simp [Region.ready, Region.binds] at hr
        have hs : st3 = false := by
          cases q : st3
          · rfl
          · have := c3.2.1 q; simp [this] at hr
        go_simp
        refine hK _ _ ⟨lo0, lo1, lo2, lo3, lo4, al0, al1, al2, true, al4, st0, st1, st2, st3, st4, x0, x1, x2, _, x4, y0, y1, y2, y3, y4, g0, g1, g2, wx.heap.size, g4, rfl, rfl, cbelow_al hB _, c0.on (cbelow_al (Below.refl _ _) _), c1.on (cbelow_al (Below.refl _ _) _), c2.on (cbelow_al (Below.refl _ _) _), ⟨c3.1, fun _ => rfl, fun _ => ⟨rfl, hB.size, (by rw [hs]; exact Blk.new _ _ _)⟩⟩, c4.on (cbelow_al (Below.refl _ _) _), n01, n02, (fun q _ => by have := c0.lt q; omega), n04, n12, (fun q _ => by have := c1.lt q; omega), n14, (fun q _ => by have := c2.lt q; omega), n24, (fun _ q => by have := c4.lt q; omega)⟩
      · obtain rfl := Option.some.inj ho
        simp [Region.ready, Region.binds] at hr
        have hs : st4 = false := by
          cases q : st4
          · rfl
          · have := c4.2.1 q; simp [this] at hr
        go_simp
        refine hK _ _ ⟨lo0, lo1, lo2, lo3, lo4, al0, al1, al2, al3, true, st0, st1, st2, st3, st4, x0, x1, x2, x3, _, y0, y1, y2, y3, y4, g0, g1, g2, g3, wx.heap.size, rfl, rfl, cbelow_al hB _, c0.on (cbelow_al (Below.refl _ _) _), c1.on (cbelow_al (Below.refl _ _) _), c2.on (cbelow_al (Below.refl _ _) _), c3.on (cbelow_al (Below.refl _ _) _), ⟨c4.1, fun _ => rfl, fun _ => ⟨rfl, hB.size, (by rw [hs]; exact Blk.new _ _ _)⟩⟩, n01, n02, n03, (fun q _ => by have := c0.lt q; omega), n12, n13, (fun q _ => by have := c1.lt q; omega), n23, (fun q _ => by have := c2.lt q; omega), (fun q _ => by have := c3.lt q; omega)⟩
      · obtain rfl := Option.some.inj ho
        simp [Region.ready, Region.binds] at hr
        obtain ⟨hst, hal, hlo⟩ : st0 = false ∧ al0 = true ∧ lo0 = true := ⟨by simp [hr], by simp [hr], by simp [hr]⟩
        subst hst; subst hal; subst hlo
        obtain ⟨hx, hg, hk⟩ := c0.2.2 rfl
        have hy := c0.1 rfl
        subst hx; subst hy
        replace hk : Blk wx g0 [.int .u32 0, .int .i64 0, .int .u32 0, .int .i64 0, .int .i64 0, .int .u16 0, .int .u16 0, .int .u16 0, .int .u16 0] := hk
        obtain ⟨k_0, k_1, k_2, k_3, k_4, k_5, k_6, k_7, k_8⟩ : _ ∧ _ ∧ _ ∧ _ ∧ _ ∧ _ ∧ _ ∧ _ ∧ _ := ⟨hk.1 0 _ rfl, hk.1 1 _ rfl, hk.1 2 _ rfl, hk.1 3 _ rfl, hk.1 4 _ rfl, hk.1 5 _ rfl, hk.1 6 _ rfl, hk.1 7 _ rfl, hk.1 8 _ rfl⟩
        obtain ⟨kz_0, kz_1, kz_2, kz_3, kz_4, kz_5, kz_6, kz_7, kz_8⟩ : _ ∧ _ ∧ _ ∧ _ ∧ _ ∧ _ ∧ _ ∧ _ ∧ _ := ⟨hk.2 0 _ rfl, hk.2 1 _ rfl, hk.2 2 _ rfl, hk.2 3 _ rfl, hk.2 4 _ rfl, hk.2 5 _ rfl, hk.2 6 _ rfl, hk.2 7 _ rfl, hk.2 8 _ rfl⟩
        go_simp
        refine hK _ _ ⟨true, lo1, lo2, lo3, lo4, true, al1, al2, al3, al4, true, st1, st2, st3, st4, _, x1, x2, x3, x4, _, y1, y2, y3, y4, g0, g1, g2, g3, g4, rfl, rfl, below_put9 hB hg _ _ _ _ _ _ _ _ _, ⟨fun _ => rfl, fun _ => rfl, fun _ => ⟨rfl, hg, hk.put9 _ _ _ _ _ _ _ _ _⟩⟩, c1.far (fun q => n01 rfl q) _ _ _ _ _ _ _ _ _, c2.far (fun q => n02 rfl q) _ _ _ _ _ _ _ _ _, c3.far (fun q => n03 rfl q) _ _ _ _ _ _ _ _ _, c4.far (fun q => n04 rfl q) _ _ _ _ _ _ _ _ _, n01, n02, n03, n04, n12, n13, n14, n23, n24, n34⟩
      · obtain rfl := Option.some.inj ho
        simp [Region.ready, Region.binds] at hr
        obtain ⟨hst, hal, hlo⟩ : st1 = false ∧ al1 = true ∧ lo1 = true := ⟨by simp [hr], by simp [hr], by simp [hr]⟩
        subst hst; subst hal; subst hlo
        obtain ⟨hx, hg, hk⟩ := c1.2.2 rfl
        have hy := c1.1 rfl
        subst hx; subst hy
        replace hk : Blk wx g1 [.int .u32 0, .int .i64 0, .int .u32 0, .int .i64 0, .int .i64 0, .int .u16 0, .int .u16 0, .int .u16 0, .int .u16 0] := hk
        obtain ⟨k_0, k_1, k_2, k_3, k_4, k_5, k_6, k_7, k_8⟩ : _ ∧ _ ∧ _ ∧ _ ∧ _ ∧ _ ∧ _ ∧ _ ∧ _ := ⟨hk.1 0 _ rfl, hk.1 1 _ rfl, hk.1 2 _ rfl, hk.1 3 _ rfl, hk.1 4 _ rfl, hk.1 5 _ rfl, hk.1 6 _ rfl, hk.1 7 _ rfl, hk.1 8 _ rfl⟩
        obtain ⟨kz_0, kz_1, kz_2, kz_3, kz_4, kz_5, kz_6, kz_7, kz_8⟩ : _ ∧ _ ∧ _ ∧ _ ∧ _ ∧ _ ∧ _ ∧ _ ∧ _ := ⟨hk.2 0 _ rfl, hk.2 1 _ rfl, hk.2 2 _ rfl, hk.2 3 _ rfl, hk.2 4 _ rfl, hk.2 5 _ rfl, hk.2 6 _ rfl, hk.2 7 _ rfl, hk.2 8 _ rfl⟩
        go_simp
        refine hK _ _ ⟨lo0, true, lo2, lo3, lo4, al0, true, al2, al3, al4, st0, true, st2, st3, st4, x0, _, x2, x3, x4, y0, _, y2, y3, y4, g0, g1, g2, g3, g4, rfl, rfl, below_put9 hB hg _ _ _ _ _ _ _ _ _, c0.far (fun q => (n01 q rfl).symm) _ _ _ _ _ _ _ _ _, ⟨fun _ => rfl, fun _ => rfl, fun _ => ⟨rfl, hg, hk.put9 _ _ _ _ _ _ _ _ _⟩⟩, c2.far (fun q => n12 rfl q) _ _ _ _ _ _ _ _ _, c3.far (fun q => n13 rfl q) _ _ _ _ _ _ _ _ _, c4.far (fun q => n14 rfl q) _ _ _ _ _ _ _ _ _, n01, n02, n03, n04, n12, n13, n14, n23, n24, n34⟩
      · obtain rfl := Option.some.inj ho
        simp [Region.ready, Region.binds] at hr
        obtain ⟨hst, hal, hlo⟩ : st2 = false ∧ al2 = true ∧ lo2 = true := ⟨by simp [hr], by simp [hr], by simp [hr]⟩
        subst hst; subst hal; subst hlo
        obtain ⟨hx, hg, hk⟩ := c2.2.2 rfl
        have hy := c2.1 rfl
        subst hx; subst hy
        replace hk : Blk wx g2 [.int .u32 0, .int .i64 0, .int .u32 0, .int .i64 0, .int .i64 0, .int .u16 0, .int .u16 0, .int .u16 0, .int .u16 0] := hk
        obtain ⟨k_0, k_1, k_2, k_3, k_4, k_5, k_6, k_7, k_8⟩ : _ ∧ _ ∧ _ ∧ _ ∧ _ ∧ _ ∧ _ ∧ _ ∧ _ := ⟨hk.1 0 _ rfl, hk.1 1 _ rfl, hk.1 2 _ rfl, hk.1 3 _ rfl, hk.1 4 _ rfl, hk.1 5 _ rfl, hk.1 6 _ rfl, hk.1 7 _ rfl, hk.1 8 _ rfl⟩
        obtain ⟨kz_0, kz_1, kz_2, kz_3, kz_4, kz_5, kz_6, kz_7, kz_8⟩ : _ ∧ _ ∧ _ ∧ _ ∧ _ ∧ _ ∧ _ ∧ _ ∧ _ := ⟨hk.2 0 _ rfl, hk.2 1 _ rfl, hk.2 2 _ rfl, hk.2 3 _ rfl, hk.2 4 _ rfl, hk.2 5 _ rfl, hk.2 6 _ rfl, hk.2 7 _ rfl, hk.2 8 _ rfl⟩
        go_simp
        refine hK _ _ ⟨lo0, lo1, true, lo3, lo4, al0, al1, true, al3, al4, st0, st1, true, st3, st4, x0, x1, _, x3, x4, y0, y1, _, y3, y4, g0, g1, g2, g3, g4, rfl, rfl, below_put9 hB hg _ _ _ _ _ _ _ _ _, c0.far (fun q => (n02 q rfl).symm) _ _ _ _ _ _ _ _ _, c1.far (fun q => (n12 q rfl).symm) _ _ _ _ _ _ _ _ _, ⟨fun _ => rfl, fun _ => rfl, fun _ => ⟨rfl, hg, hk.put9 _ _ _ _ _ _ _ _ _⟩⟩, c3.far (fun q => n23 rfl q) _ _ _ _ _ _ _ _ _, c4.far (fun q => n24 rfl q) _ _ _ _ _ _ _ _ _, n01, n02, n03, n04, n12, n13, n14, n23, n24, n34⟩
      · obtain rfl := Option.some.inj ho
        simp [Region.ready, Region.binds] at hr
        obtain ⟨hst, hal, hlo⟩ : st3 = false ∧ al3 = true ∧ lo3 = true := ⟨by simp [hr], by simp [hr], by simp [hr]⟩
        subst hst; subst hal; subst hlo
        obtain ⟨hx, hg, hk⟩ := c3.2.2 rfl
        have hy := c3.1 rfl
        subst hx; subst hy
        replace hk : Blk wx g3 [.int .u32 0, .int .i64 0, .int .u32 0, .int .i64 0, .int .i64 0, .int .u16 0, .int .u16 0, .int .u16 0, .int .u16 0] := hk
        obtain ⟨k_0, k_1, k_2, k_3, k_4, k_5, k_6, k_7, k_8⟩ : _ ∧ _ ∧ _ ∧ _ ∧ _ ∧ _ ∧ _ ∧ _ ∧ _ := ⟨hk.1 0 _ rfl, hk.1 1 _ rfl, hk.1 2 _ rfl, hk.1 3 _ rfl, hk.1 4 _ rfl, hk.1 5 _ rfl, hk.1 6 _ rfl, hk.1 7 _ rfl, hk.1 8 _ rfl⟩
        obtain ⟨kz_0, kz_1, kz_2, kz_3, kz_4, kz_5, kz_6, kz_7, kz_8⟩ : _ ∧ _ ∧ _ ∧ _ ∧ _ ∧ _ ∧ _ ∧ _ ∧ _ := ⟨hk.2 0 _ rfl, hk.2 1 _ rfl, hk.2 2 _ rfl, hk.2 3 _ rfl, hk.2 4 _ rfl, hk.2 5 _ rfl, hk.2 6 _ rfl, hk.2 7 _ rfl, hk.2 8 _ rfl⟩
        go_simp
        refine hK _ _ ⟨lo0, lo1, lo2, true, lo4, al0, al1, al2, true, al4, st0, st1, st2, true, st4, x0, x1, x2, _, x4, y0, y1, y2, _, y4, g0, g1, g2, g3, g4, rfl, rfl, below_put9 hB hg _ _ _ _ _ _ _ _ _, c0.far (fun q => (n03 q rfl).symm) _ _ _ _ _ _ _ _ _, c1.far (fun q => (n13 q rfl).symm) _ _ _ _ _ _ _ _ _, c2.far (fun q => (n23 q rfl).symm) _ _ _ _ _ _ _ _ _, ⟨fun _ => rfl, fun _ => rfl, fun _ => ⟨rfl, hg, hk.put9 _ _ _ _ _ _ _ _ _⟩⟩, c4.far (fun q => n34 rfl q) _ _ _ _ _ _ _ _ _, n01, n02, n03, n04, n12, n13, n14, n23, n24, n34⟩
      · obtain rfl := Option.some.inj ho
        simp [Region.ready, Region.binds] at hr
        obtain ⟨hst, hal, hlo⟩ : st4 = false ∧ al4 = true ∧ lo4 = true := ⟨by simp [hr], by simp [hr], by simp [hr]⟩
        subst hst; subst hal; subst hlo
        obtain ⟨hx, hg, hk⟩ := c4.2.2 rfl
        have hy := c4.1 rfl
        subst hx; subst hy
        replace hk : Blk wx g4 [.int .u32 0, .int .i64 0, .int .u32 0, .int .i64 0, .int .i64 0, .int .u16 0, .int .u16 0, .int .u16 0, .int .u16 0] := hk
        obtain ⟨k_0, k_1, k_2, k_3, k_4, k_5, k_6, k_7, k_8⟩ : _ ∧ _ ∧ _ ∧ _ ∧ _ ∧ _ ∧ _ ∧ _ ∧ _ := ⟨hk.1 0 _ rfl, hk.1 1 _ rfl, hk.1 2 _ rfl, hk.1 3 _ rfl, hk.1 4 _ rfl, hk.1 5 _ rfl, hk.1 6 _ rfl, hk.1 7 _ rfl, hk.1 8 _ rfl⟩
        obtain ⟨kz_0, kz_1, kz_2, kz_3, kz_4, kz_5, kz_6, kz_7, kz_8⟩ : _ ∧ _ ∧ _ ∧ _ ∧ _ ∧ _ ∧ _ ∧ _ ∧ _ := ⟨hk.2 0 _ rfl, hk.2 1 _ rfl, hk.2 2 _ rfl, hk.2 3 _ rfl, hk.2 4 _ rfl, hk.2 5 _ rfl, hk.2 6 _ rfl, hk.2 7 _ rfl, hk.2 8 _ rfl⟩
        go_simp
        refine hK _ _ ⟨lo0, lo1, lo2, lo3, true, al0, al1, al2, al3, true, st0, st1, st2, st3, true, x0, x1, x2, x3, _, y0, y1, y2, y3, _, g0, g1, g2, g3, g4, rfl, rfl, below_put9 hB hg _ _ _ _ _ _ _ _ _, c0.far (fun q => (n04 q rfl).symm) _ _ _ _ _ _ _ _ _, c1.far (fun q => (n14 q rfl).symm) _ _ _ _ _ _ _ _ _, c2.far (fun q => (n24 q rfl).symm) _ _ _ _ _ _ _ _ _, c3.far (fun q => (n34 q rfl).symm) _ _ _ _ _ _ _ _ _, ⟨fun _ => rfl, fun _ => rfl, fun _ => ⟨rfl, hg, hk.put9 _ _ _ _ _ _ _ _ _⟩⟩, n01, n02, n03, n04, n12, n13, n14, n23, n24, n34⟩
    · intro d0 act wx hJ hr
      obtain ⟨lo0, lo1, lo2, lo3, lo4, al0, al1, al2, al3, al4, st0, st1, st2, st3, st4, x0, x1, x2, x3, x4, y0, y1, y2, y3, y4, g0, g1, g2, g3, g4, rfl, rfl, hB, c0, c1, c2, c3, c4, n01, n02, n03, n04, n12, n13, n14, n23, n24, n34⟩ := hJ
      have hall := ready_nil hr (by kernel_rfl) (Nat.le_refl 15)
      clear hr
      have r0 : lo0 = true := hall 0 (by decide)
      have r1 : lo1 = true := hall 1 (by decide)
      have r2 : lo2 = true := hall 2 (by decide)
      have r3 : lo3 = true := hall 3 (by decide)
      have r4 : lo4 = true := hall 4 (by decide)
      have r5 : al0 = true := hall 5 (by decide)
      have r6 : al1 = true := hall 6 (by decide)
      have r7 : al2 = true := hall 7 (by decide)
      have r8 : al3 = true := hall 8 (by decide)
      have r9 : al4 = true := hall 9 (by decide)
      have r10 : st0 = true := hall 10 (by decide)
      have r11 : st1 = true := hall 11 (by decide)
      have r12 : st2 = true := hall 12 (by decide)
      have r13 : st3 = true := hall 13 (by decide)
      have r14 : st4 = true := hall 14 (by decide)
      clear hall
      subst r0; subst r1; subst r2; subst r3; subst r4; subst r5; subst r6; subst r7; subst r8; subst r9; subst r10; subst r11; subst r12; subst r13; subst r14
      obtain ⟨⟨hy0, -, hx0⟩, ⟨hy1, -, hx1⟩, ⟨hy2, -, hx2⟩, ⟨hy3, -, hx3⟩, ⟨hy4, -, hx4⟩⟩ : _ ∧ _ ∧ _ ∧ _ ∧ _ := ⟨c0, c1, c2, c3, c4⟩
      obtain ⟨rfl, e0, D0⟩ := hx0 rfl; obtain ⟨rfl, e1, D1⟩ := hx1 rfl; obtain ⟨rfl, e2, D2⟩ := hx2 rfl; obtain ⟨rfl, e3, D3⟩ := hx3 rfl; obtain ⟨rfl, e4, D4⟩ := hx4 rfl
      obtain rfl := hy0 rfl; obtain rfl := hy1 rfl; obtain rfl := hy2 rfl; obtain rfl := hy3 rfl; obtain rfl := hy4 rfl
      replace D0 : Blk wx g0 [.int .u32 0, .int .i64 0, .int .u32 0, .int .i64 0, .int .i64 (-1), .int .u16 0, .int .u16 65535, .int .u16 0, .int .u16 65535] := D0; replace D1 : Blk wx g1 [.int .u32 0, .int .i64 0, .int .u32 0, .int .i64 0, .int .i64 (-1), .int .u16 0, .int .u16 65535, .int .u16 0, .int .u16 65535] := D1; replace D2 : Blk wx g2 [.int .u32 0, .int .i64 0, .int .u32 0, .int .i64 0, .int .i64 (-1), .int .u16 0, .int .u16 65535, .int .u16 0, .int .u16 65535] := D2; replace D3 : Blk wx g3 [.int .u32 0, .int .i64 0, .int .u32 0, .int .i64 0, .int .i64 (-1), .int .u16 0, .int .u16 65535, .int .u16 0, .int .u16 65535] := D3; replace D4 : Blk wx g4 [.int .u32 0, .int .i64 0, .int .u32 0, .int .i64 0, .int .i64 (-1), .int .u16 0, .int .u16 65535, .int .u16 0, .int .u16 65535] := D4
      clear hx0 hy0 c0 hx1 hy1 c1 hx2 hy2 c2 hx3 hy3 c3 hx4 hy4 c4
      replace n01 := n01 rfl rfl; replace n02 := n02 rfl rfl; replace n03 := n03 rfl rfl; replace n04 := n04 rfl rfl; replace n12 := n12 rfl rfl; replace n13 := n13 rfl rfl; replace n14 := n14 rfl rfl; replace n23 := n23 rfl rfl; replace n24 := n24 rfl rfl; replace n34 := n34 rfl rfl
      go_upto_region 5 with fail
      refine wp_region_inv (fun dn act wx => ∃ (fa0 ld0 fa1 ld1 fa2 ld2 fa3 ld3 fa4 ld4 ga0 st0 ga1 st1 ga2 st2 ga3 st3 ga4 st4 : Bool) (t0 t1 t2 t3 t4 v0 v1 v2 v3 v4 z0 z1 z2 z3 z4 : Value), dn = #[fa0, ld0, fa1, ld1, fa2, ld2, fa3, ld3, fa4, ld4, ga0, st0, ga1, st1, ga2, st2, ga3, st3, ga4, st4] ∧ act = { tmps := #[.agg #[.int .u32 a, .int .i64 n, .int .u32 b, .int .i64 m, .int .i64 p, .int .u16 l, .int .u16 h, .int .u16 u, .int .u16 v], .agg #[.int .u32 d, .int .u32 s, .int .u8 q, .int .u16 x, .int .u16 y], .pointer (some ⟨w.heap.size, 0, none⟩), .pointer (some ⟨w.heap.size + 1, 0, none⟩), .bool false, .pointer (some ⟨kA, 0, none⟩), .pointer (some ⟨g0, 0, none⟩), .pointer (some ⟨g1, 0, none⟩), .pointer (some ⟨g2, 0, none⟩), .pointer (some ⟨g3, 0, none⟩), .pointer (some ⟨g4, 0, none⟩), undef, undef, undef, .agg #[.int .u32 a, .int .i64 n, .int .u32 b, .int .i64 m, .int .i64 p, .int .u16 l, .int .u16 h, .int .u16 u, .int .u16 v], .int .i64 0, .bool false, undef, Value.agg #[.int .u32 0, .int .i64 0, .int .u32 0, .int .i64 0, .int .i64 (-1), .int .u16 0, .int .u16 65535, .int .u16 0, .int .u16 65535], Value.agg #[.int .u32 0, .int .i64 0, .int .u32 0, .int .i64 0, .int .i64 (-1), .int .u16 0, .int .u16 65535, .int .u16 0, .int .u16 65535], Value.agg #[.int .u32 0, .int .i64 0, .int .u32 0, .int .i64 0, .int .i64 (-1), .int .u16 0, .int .u16 65535, .int .u16 0, .int .u16 65535], Value.agg #[.int .u32 0, .int .i64 0, .int .u32 0, .int .i64 0, .int .i64 (-1), .int .u16 0, .int .u16 65535, .int .u16 0, .int .u16 65535], Value.agg #[.int .u32 0, .int .i64 0, .int .u32 0, .int .i64 0, .int .i64 (-1), .int .u16 0, .int .u16 65535, .int .u16 0, .int .u16 65535], Value.agg #[.int .u32 0, .int .i64 0, .int .u32 0, .int .i64 0, .int .i64 (-1), .int .u16 0, .int .u16 65535, .int .u16 0, .int .u16 65535], t0, v0, t1, v1, t2, v2, t3, v3, t4, v4, z0, z1, z2, z3, z4, undef, undef, undef, undef, undef, undef, undef, undef, undef, undef, undef, undef, undef, undef, undef, undef, undef, undef, undef, undef, undef, undef, undef, undef, undef, undef, undef, undef, undef, undef, undef, undef, undef, undef, undef], defers := [] } ∧ Below W3.heap.size W3 wx ∧ C5 wx fa0 ld0 ga0 st0 t0 v0 z0 w.heap.size g0 0 (.agg #[.int .u32 a, .int .i64 n]) [.int .u32 0, .int .i64 0, .int .u32 0, .int .i64 0, .int .i64 (-1), .int .u16 0, .int .u16 65535, .int .u16 0, .int .u16 65535] [.int .u32 a, .int .i64 n, .int .u32 0, .int .i64 0, .int .i64 (-1), .int .u16 0, .int .u16 65535, .int .u16 0, .int .u16 65535] ∧ C5 wx fa1 ld1 ga1 st1 t1 v1 z1 w.heap.size g1 2 (.agg #[.int .u32 b, .int .i64 m]) [.int .u32 0, .int .i64 0, .int .u32 0, .int .i64 0, .int .i64 (-1), .int .u16 0, .int .u16 65535, .int .u16 0, .int .u16 65535] [.int .u32 0, .int .i64 0, .int .u32 b, .int .i64 m, .int .i64 (-1), .int .u16 0, .int .u16 65535, .int .u16 0, .int .u16 65535] ∧ C5 wx fa2 ld2 ga2 st2 t2 v2 z2 w.heap.size g2 4 (.int .i64 p) [.int .u32 0, .int .i64 0, .int .u32 0, .int .i64 0, .int .i64 (-1), .int .u16 0, .int .u16 65535, .int .u16 0, .int .u16 65535] [.int .u32 0, .int .i64 0, .int .u32 0, .int .i64 0, .int .i64 p, .int .u16 0, .int .u16 65535, .int .u16 0, .int .u16 65535] ∧ C5 wx fa3 ld3 ga3 st3 t3 v3 z3 w.heap.size g3 5 (.agg #[.int .u16 l, .int .u16 h]) [.int .u32 0, .int .i64 0, .int .u32 0, .int .i64 0, .int .i64 (-1), .int .u16 0, .int .u16 65535, .int .u16 0, .int .u16 65535] [.int .u32 0, .int .i64 0, .int .u32 0, .int .i64 0, .int .i64 (-1), .int .u16 l, .int .u16 h, .int .u16 0, .int .u16 65535] ∧ C5 wx fa4 ld4 ga4 st4 t4 v4 z4 w.heap.size g4 7 (.agg #[.int .u16 u, .int .u16 v]) [.int .u32 0, .int .i64 0, .int .u32 0, .int .i64 0, .int .i64 (-1), .int .u16 0, .int .u16 65535, .int .u16 0, .int .u16 65535] [.int .u32 0, .int .i64 0, .int .u32 0, .int .i64 0, .int .i64 (-1), .int .u16 0, .int .u16 65535, .int .u16 u, .int .u16 v]) (by kernel_rfl) ?_ ?_ ?_
      · clear RC AW AL NM hM HP K0 T0 N0 K1 T1 N1 K2 T2 N2 K3 T3 N3 K4 T4 N4 D0 D1 D2 D3 D4 G3 B3 hP3 hB
        intro d0 act wx i o hJ hr ho K' hK
        obtain ⟨fa0, ld0, fa1, ld1, fa2, ld2, fa3, ld3, fa4, ld4, ga0, st0, ga1, st1, ga2, st2, ga3, st3, ga4, st4, t0, t1, t2, t3, t4, v0, v1, v2, v3, v4, z0, z1, z2, z3, z4, rfl, rfl, hB, c0, c1, c2, c3, c4⟩ := hJ
        have hi : i < 20 := (ready_undone hr).2
        have hA := F3.out.on hB
        obtain ⟨f_0, f_1, f_2, f_3, f_4, f_5, f_6, f_7, f_8⟩ : _ ∧ _ ∧ _ ∧ _ ∧ _ ∧ _ ∧ _ ∧ _ ∧ _ := ⟨hA.1 0 _ rfl, hA.1 1 _ rfl, hA.1 2 _ rfl, hA.1 3 _ rfl, hA.1 4 _ rfl, hA.1 5 _ rfl, hA.1 6 _ rfl, hA.1 7 _ rfl, hA.1 8 _ rfl⟩
        clear hA
        obtain rfl | rfl | rfl | rfl | rfl | rfl | rfl | rfl | rfl | rfl | rfl | rfl | rfl | rfl | rfl | rfl | rfl | rfl | rfl | rfl : i = 0 ∨ i = 1 ∨ i = 2 ∨ i = 3 ∨ i = 4 ∨ i = 5 ∨ i = 6 ∨ i = 7 ∨ i = 8 ∨ i = 9 ∨ i = 10 ∨ i = 11 ∨ i = 12 ∨ i = 13 ∨ i = 14 ∨ i = 15 ∨ i = 16 ∨ i = 17 ∨ i = 18 ∨ i = 19 := by omega
        · obtain rfl := Option.some.inj ho
          go_simp
          refine hK _ _ ⟨true, ld0, fa1, ld1, fa2, ld2, fa3, ld3, fa4, ld4, ga0, st0, ga1, st1, ga2, st2, ga3, st3, ga4, st4, _, t1, t2, t3, t4, v0, v1, v2, v3, v4, z0, z1, z2, z3, z4, rfl, rfl, hB, ⟨fun _ => rfl, c0.2⟩, c1, c2, c3, c4⟩
        · obtain rfl := Option.some.inj ho
          simp [Region.ready, Region.binds] at hr
          have q0 : fa0 = true := by simp [hr]
          subst q0
          obtain rfl := c0.1 rfl
          go_simp
          refine hK _ _ ⟨true, true, fa1, ld1, fa2, ld2, fa3, ld3, fa4, ld4, ga0, st0, ga1, st1, ga2, st2, ga3, st3, ga4, st4, _, t1, t2, t3, t4, _, v1, v2, v3, v4, z0, z1, z2, z3, z4, rfl, rfl, hB, ⟨c0.1, fun _ => rfl, c0.2.2⟩, c1, c2, c3, c4⟩
        · obtain rfl := Option.some.inj ho
          go_simp
          refine hK _ _ ⟨fa0, ld0, true, ld1, fa2, ld2, fa3, ld3, fa4, ld4, ga0, st0, ga1, st1, ga2, st2, ga3, st3, ga4, st4, t0, _, t2, t3, t4, v0, v1, v2, v3, v4, z0, z1, z2, z3, z4, rfl, rfl, hB, c0, ⟨fun _ => rfl, c1.2⟩, c2, c3, c4⟩
        · obtain rfl := Option.some.inj ho
          simp [Region.ready, Region.binds] at hr
          have q0 : fa1 = true := by simp [hr]
          subst q0
          obtain rfl := c1.1 rfl
          go_simp
          refine hK _ _ ⟨fa0, ld0, true, true, fa2, ld2, fa3, ld3, fa4, ld4, ga0, st0, ga1, st1, ga2, st2, ga3, st3, ga4, st4, t0, _, t2, t3, t4, v0, _, v2, v3, v4, z0, z1, z2, z3, z4, rfl, rfl, hB, c0, ⟨c1.1, fun _ => rfl, c1.2.2⟩, c2, c3, c4⟩
        · obtain rfl := Option.some.inj ho
          go_simp
          refine hK _ _ ⟨fa0, ld0, fa1, ld1, true, ld2, fa3, ld3, fa4, ld4, ga0, st0, ga1, st1, ga2, st2, ga3, st3, ga4, st4, t0, t1, _, t3, t4, v0, v1, v2, v3, v4, z0, z1, z2, z3, z4, rfl, rfl, hB, c0, c1, ⟨fun _ => rfl, c2.2⟩, c3, c4⟩
        · obtain rfl := Option.some.inj ho
          simp [Region.ready, Region.binds] at hr
          have q0 : fa2 = true := by simp [hr]
          subst q0
          obtain rfl := c2.1 rfl
          go_simp
          refine hK _ _ ⟨fa0, ld0, fa1, ld1, true, true, fa3, ld3, fa4, ld4, ga0, st0, ga1, st1, ga2, st2, ga3, st3, ga4, st4, t0, t1, _, t3, t4, v0, v1, _, v3, v4, z0, z1, z2, z3, z4, rfl, rfl, hB, c0, c1, ⟨c2.1, fun _ => rfl, c2.2.2⟩, c3, c4⟩
        · obtain rfl := Option.some.inj ho
          go_simp
          refine hK _ _ ⟨fa0, ld0, fa1, ld1, fa2, ld2, true, ld3, fa4, ld4, ga0, st0, ga1, st1, ga2, st2, ga3, st3, ga4, st4, t0, t1, t2, _, t4, v0, v1, v2, v3, v4, z0, z1, z2, z3, z4, rfl, rfl, hB, c0, c1, c2, ⟨fun _ => rfl, c3.2⟩, c4⟩
        · obtain rfl := Option.some.inj ho
          simp [Region.ready, Region.binds] at hr
          have q0 : fa3 = true := by simp [hr]
          subst q0
          obtain rfl := c3.1 rfl
          go_simp
          refine hK _ _ ⟨fa0, ld0, fa1, ld1, fa2, ld2, true, true, fa4, ld4, ga0, st0, ga1, st1, ga2, st2, ga3, st3, ga4, st4, t0, t1, t2, _, t4, v0, v1, v2, _, v4, z0, z1, z2, z3, z4, rfl, rfl, hB, c0, c1, c2, ⟨c3.1, fun _ => rfl, c3.2.2⟩, c4⟩
        · obtain rfl := Option.some.inj ho
          go_simp
          refine hK _ _ ⟨fa0, ld0, fa1, ld1, fa2, ld2, fa3, ld3, true, ld4, ga0, st0, ga1, st1, ga2, st2, ga3, st3, ga4, st4, t0, t1, t2, t3, _, v0, v1, v2, v3, v4, z0, z1, z2, z3, z4, rfl, rfl, hB, c0, c1, c2, c3, ⟨fun _ => rfl, c4.2⟩⟩
        · obtain rfl := Option.some.inj ho
          simp [Region.ready, Region.binds] at hr
          have q0 : fa4 = true := by simp [hr]
          subst q0
          obtain rfl := c4.1 rfl
          go_simp
          refine hK _ _ ⟨fa0, ld0, fa1, ld1, fa2, ld2, fa3, ld3, true, true, ga0, st0, ga1, st1, ga2, st2, ga3, st3, ga4, st4, t0, t1, t2, t3, _, v0, v1, v2, v3, _, z0, z1, z2, z3, z4, rfl, rfl, hB, c0, c1, c2, c3, ⟨c4.1, fun _ => rfl, c4.2.2⟩⟩
        · obtain rfl := Option.some.inj ho
          go_simp
          refine hK _ _ ⟨fa0, ld0, fa1, ld1, fa2, ld2, fa3, ld3, fa4, ld4, true, st0, ga1, st1, ga2, st2, ga3, st3, ga4, st4, t0, t1, t2, t3, t4, v0, v1, v2, v3, v4, _, z1, z2, z3, z4, rfl, rfl, hB, ⟨c0.1, c0.2.1, fun _ => rfl, c0.2.2.2⟩, c1, c2, c3, c4⟩
        · obtain rfl := Option.some.inj ho
          simp [Region.ready, Region.binds] at hr
          obtain ⟨q0, q1, q2⟩ : st0 = false ∧ ga0 = true ∧ ld0 = true := ⟨by simp [hr], by simp [hr], by simp [hr]⟩
          subst q0; subst q1; subst q2
          obtain rfl := c0.2.1 rfl
          obtain rfl := c0.2.2.1 rfl
          have hk : Blk wx g0 [.int .u32 0, .int .i64 0, .int .u32 0, .int .i64 0, .int .i64 (-1), .int .u16 0, .int .u16 65535, .int .u16 0, .int .u16 65535] := c0.2.2.2
          obtain ⟨k_0, k_1, k_2, k_3, k_4, k_5, k_6, k_7, k_8⟩ : _ ∧ _ ∧ _ ∧ _ ∧ _ ∧ _ ∧ _ ∧ _ ∧ _ := ⟨hk.1 0 _ rfl, hk.1 1 _ rfl, hk.1 2 _ rfl, hk.1 3 _ rfl, hk.1 4 _ rfl, hk.1 5 _ rfl, hk.1 6 _ rfl, hk.1 7 _ rfl, hk.1 8 _ rfl⟩
          obtain ⟨kz_0, kz_1, kz_2, kz_3, kz_4, kz_5, kz_6, kz_7, kz_8⟩ : _ ∧ _ ∧ _ ∧ _ ∧ _ ∧ _ ∧ _ ∧ _ ∧ _ := ⟨hk.2 0 _ rfl, hk.2 1 _ rfl, hk.2 2 _ rfl, hk.2 3 _ rfl, hk.2 4 _ rfl, hk.2 5 _ rfl, hk.2 6 _ rfl, hk.2 7 _ rfl, hk.2 8 _ rfl⟩
          go_simp
          refine hK _ _ ⟨fa0, true, fa1, ld1, fa2, ld2, fa3, ld3, fa4, ld4, true, true, ga1, st1, ga2, st2, ga3, st3, ga4, st4, t0, t1, t2, t3, t4, _, v1, v2, v3, v4, _, z1, z2, z3, z4, rfl, rfl, (hB.setCell e0 _).setCell e0 _, ⟨c0.1, fun _ => rfl, fun _ => rfl, (hk.set 0 _ (by simp)).set 1 _ (by simp)⟩, (c1.far _ _ (n01)).far _ _ (n01), (c2.far _ _ (n02)).far _ _ (n02), (c3.far _ _ (n03)).far _ _ (n03), (c4.far _ _ (n04)).far _ _ (n04)⟩
        · obtain rfl := Option.some.inj ho
          go_simp
          refine hK _ _ ⟨fa0, ld0, fa1, ld1, fa2, ld2, fa3, ld3, fa4, ld4, ga0, st0, true, st1, ga2, st2, ga3, st3, ga4, st4, t0, t1, t2, t3, t4, v0, v1, v2, v3, v4, z0, _, z2, z3, z4, rfl, rfl, hB, c0, ⟨c1.1, c1.2.1, fun _ => rfl, c1.2.2.2⟩, c2, c3, c4⟩
        · obtain rfl := Option.some.inj ho
          simp [Region.ready, Region.binds] at hr
          obtain ⟨q0, q1, q2⟩ : st1 = false ∧ ga1 = true ∧ ld1 = true := ⟨by simp [hr], by simp [hr], by simp [hr]⟩
          subst q0; subst q1; subst q2
          obtain rfl := c1.2.1 rfl
          obtain rfl := c1.2.2.1 rfl
          have hk : Blk wx g1 [.int .u32 0, .int .i64 0, .int .u32 0, .int .i64 0, .int .i64 (-1), .int .u16 0, .int .u16 65535, .int .u16 0, .int .u16 65535] := c1.2.2.2
          obtain ⟨k_0, k_1, k_2, k_3, k_4, k_5, k_6, k_7, k_8⟩ : _ ∧ _ ∧ _ ∧ _ ∧ _ ∧ _ ∧ _ ∧ _ ∧ _ := ⟨hk.1 0 _ rfl, hk.1 1 _ rfl, hk.1 2 _ rfl, hk.1 3 _ rfl, hk.1 4 _ rfl, hk.1 5 _ rfl, hk.1 6 _ rfl, hk.1 7 _ rfl, hk.1 8 _ rfl⟩
          obtain ⟨kz_0, kz_1, kz_2, kz_3, kz_4, kz_5, kz_6, kz_7, kz_8⟩ : _ ∧ _ ∧ _ ∧ _ ∧ _ ∧ _ ∧ _ ∧ _ ∧ _ := ⟨hk.2 0 _ rfl, hk.2 1 _ rfl, hk.2 2 _ rfl, hk.2 3 _ rfl, hk.2 4 _ rfl, hk.2 5 _ rfl, hk.2 6 _ rfl, hk.2 7 _ rfl, hk.2 8 _ rfl⟩
          go_simp
          refine hK _ _ ⟨fa0, ld0, fa1, true, fa2, ld2, fa3, ld3, fa4, ld4, ga0, st0, true, true, ga2, st2, ga3, st3, ga4, st4, t0, t1, t2, t3, t4, v0, _, v2, v3, v4, z0, _, z2, z3, z4, rfl, rfl, (hB.setCell e1 _).setCell e1 _, (c0.far _ _ (n01.symm)).far _ _ (n01.symm), ⟨c1.1, fun _ => rfl, fun _ => rfl, (hk.set 2 _ (by simp)).set 3 _ (by simp)⟩, (c2.far _ _ (n12)).far _ _ (n12), (c3.far _ _ (n13)).far _ _ (n13), (c4.far _ _ (n14)).far _ _ (n14)⟩
        · obtain rfl := Option.some.inj ho
          go_simp
          refine hK _ _ ⟨fa0, ld0, fa1, ld1, fa2, ld2, fa3, ld3, fa4, ld4, ga0, st0, ga1, st1, true, st2, ga3, st3, ga4, st4, t0, t1, t2, t3, t4, v0, v1, v2, v3, v4, z0, z1, _, z3, z4, rfl, rfl, hB, c0, c1, ⟨c2.1, c2.2.1, fun _ => rfl, c2.2.2.2⟩, c3, c4⟩
        · obtain rfl := Option.some.inj ho
          simp [Region.ready, Region.binds] at hr
          obtain ⟨q0, q1, q2⟩ : st2 = false ∧ ga2 = true ∧ ld2 = true := ⟨by simp [hr], by simp [hr], by simp [hr]⟩
          subst q0; subst q1; subst q2
          obtain rfl := c2.2.1 rfl
          obtain rfl := c2.2.2.1 rfl
          have hk : Blk wx g2 [.int .u32 0, .int .i64 0, .int .u32 0, .int .i64 0, .int .i64 (-1), .int .u16 0, .int .u16 65535, .int .u16 0, .int .u16 65535] := c2.2.2.2
          obtain ⟨k_0, k_1, k_2, k_3, k_4, k_5, k_6, k_7, k_8⟩ : _ ∧ _ ∧ _ ∧ _ ∧ _ ∧ _ ∧ _ ∧ _ ∧ _ := ⟨hk.1 0 _ rfl, hk.1 1 _ rfl, hk.1 2 _ rfl, hk.1 3 _ rfl, hk.1 4 _ rfl, hk.1 5 _ rfl, hk.1 6 _ rfl, hk.1 7 _ rfl, hk.1 8 _ rfl⟩
          obtain ⟨kz_0, kz_1, kz_2, kz_3, kz_4, kz_5, kz_6, kz_7, kz_8⟩ : _ ∧ _ ∧ _ ∧ _ ∧ _ ∧ _ ∧ _ ∧ _ ∧ _ := ⟨hk.2 0 _ rfl, hk.2 1 _ rfl, hk.2 2 _ rfl, hk.2 3 _ rfl, hk.2 4 _ rfl, hk.2 5 _ rfl, hk.2 6 _ rfl, hk.2 7 _ rfl, hk.2 8 _ rfl⟩
          go_simp
          refine hK _ _ ⟨fa0, ld0, fa1, ld1, fa2, true, fa3, ld3, fa4, ld4, ga0, st0, ga1, st1, true, true, ga3, st3, ga4, st4, t0, t1, t2, t3, t4, v0, v1, _, v3, v4, z0, z1, _, z3, z4, rfl, rfl, hB.setCell e2 _, c0.far _ _ (n02.symm), c1.far _ _ (n12.symm), ⟨c2.1, fun _ => rfl, fun _ => rfl, hk.set 4 _ (by simp)⟩, c3.far _ _ (n23), c4.far _ _ (n24)⟩
        · obtain rfl := Option.some.inj ho
          go_simp
          refine hK _ _ ⟨fa0, ld0, fa1, ld1, fa2, ld2, fa3, ld3, fa4, ld4, ga0, st0, ga1, st1, ga2, st2, true, st3, ga4, st4, t0, t1, t2, t3, t4, v0, v1, v2, v3, v4, z0, z1, z2, _, z4, rfl, rfl, hB, c0, c1, c2, ⟨c3.1, c3.2.1, fun _ => rfl, c3.2.2.2⟩, c4⟩
        · obtain rfl := Option.some.inj ho
          simp [Region.ready, Region.binds] at hr
          obtain ⟨q0, q1, q2⟩ : st3 = false ∧ ga3 = true ∧ ld3 = true := ⟨by simp [hr], by simp [hr], by simp [hr]⟩
          subst q0; subst q1; subst q2
          obtain rfl := c3.2.1 rfl
          obtain rfl := c3.2.2.1 rfl
          have hk : Blk wx g3 [.int .u32 0, .int .i64 0, .int .u32 0, .int .i64 0, .int .i64 (-1), .int .u16 0, .int .u16 65535, .int .u16 0, .int .u16 65535] := c3.2.2.2
          obtain ⟨k_0, k_1, k_2, k_3, k_4, k_5, k_6, k_7, k_8⟩ : _ ∧ _ ∧ _ ∧ _ ∧ _ ∧ _ ∧ _ ∧ _ ∧ _ := ⟨hk.1 0 _ rfl, hk.1 1 _ rfl, hk.1 2 _ rfl, hk.1 3 _ rfl, hk.1 4 _ rfl, hk.1 5 _ rfl, hk.1 6 _ rfl, hk.1 7 _ rfl, hk.1 8 _ rfl⟩
          obtain ⟨kz_0, kz_1, kz_2, kz_3, kz_4, kz_5, kz_6, kz_7, kz_8⟩ : _ ∧ _ ∧ _ ∧ _ ∧ _ ∧ _ ∧ _ ∧ _ ∧ _ := ⟨hk.2 0 _ rfl, hk.2 1 _ rfl, hk.2 2 _ rfl, hk.2 3 _ rfl, hk.2 4 _ rfl, hk.2 5 _ rfl, hk.2 6 _ rfl, hk.2 7 _ rfl, hk.2 8 _ rfl⟩
          go_simp
          refine hK _ _ ⟨fa0, ld0, fa1, ld1, fa2, ld2, fa3, true, fa4, ld4, ga0, st0, ga1, st1, ga2, st2, true, true, ga4, st4, t0, t1, t2, t3, t4, v0, v1, v2, _, v4, z0, z1, z2, _, z4, rfl, rfl, (hB.setCell e3 _).setCell e3 _, (c0.far _ _ (n03.symm)).far _ _ (n03.symm), (c1.far _ _ (n13.symm)).far _ _ (n13.symm), (c2.far _ _ (n23.symm)).far _ _ (n23.symm), ⟨c3.1, fun _ => rfl, fun _ => rfl, (hk.set 5 _ (by simp)).set 6 _ (by simp)⟩, (c4.far _ _ (n34)).far _ _ (n34)⟩
        · obtain rfl := Option.some.inj ho
          go_simp
          refine hK _ _ ⟨fa0, ld0, fa1, ld1, fa2, ld2, fa3, ld3, fa4, ld4, ga0, st0, ga1, st1, ga2, st2, ga3, st3, true, st4, t0, t1, t2, t3, t4, v0, v1, v2, v3, v4, z0, z1, z2, z3, _, rfl, rfl, hB, c0, c1, c2, c3, ⟨c4.1, c4.2.1, fun _ => rfl, c4.2.2.2⟩⟩
        · obtain rfl := Option.some.inj ho
          simp [Region.ready, Region.binds] at hr
          obtain ⟨q0, q1, q2⟩ : st4 = false ∧ ga4 = true ∧ ld4 = true := ⟨by simp [hr], by simp [hr], by simp [hr]⟩
          subst q0; subst q1; subst q2
          obtain rfl := c4.2.1 rfl
          obtain rfl := c4.2.2.1 rfl
          have hk : Blk wx g4 [.int .u32 0, .int .i64 0, .int .u32 0, .int .i64 0, .int .i64 (-1), .int .u16 0, .int .u16 65535, .int .u16 0, .int .u16 65535] := c4.2.2.2
          obtain ⟨k_0, k_1, k_2, k_3, k_4, k_5, k_6, k_7, k_8⟩ : _ ∧ _ ∧ _ ∧ _ ∧ _ ∧ _ ∧ _ ∧ _ ∧ _ := ⟨hk.1 0 _ rfl, hk.1 1 _ rfl, hk.1 2 _ rfl, hk.1 3 _ rfl, hk.1 4 _ rfl, hk.1 5 _ rfl, hk.1 6 _ rfl, hk.1 7 _ rfl, hk.1 8 _ rfl⟩
          obtain ⟨kz_0, kz_1, kz_2, kz_3, kz_4, kz_5, kz_6, kz_7, kz_8⟩ : _ ∧ _ ∧ _ ∧ _ ∧ _ ∧ _ ∧ _ ∧ _ ∧ _ := ⟨hk.2 0 _ rfl, hk.2 1 _ rfl, hk.2 2 _ rfl, hk.2 3 _ rfl, hk.2 4 _ rfl, hk.2 5 _ rfl, hk.2 6 _ rfl, hk.2 7 _ rfl, hk.2 8 _ rfl⟩
          go_simp
          refine hK _ _ ⟨fa0, ld0, fa1, ld1, fa2, ld2, fa3, ld3, fa4, true, ga0, st0, ga1, st1, ga2, st2, ga3, st3, true, true, t0, t1, t2, t3, t4, v0, v1, v2, v3, _, z0, z1, z2, z3, _, rfl, rfl, (hB.setCell e4 _).setCell e4 _, (c0.far _ _ (n04.symm)).far _ _ (n04.symm), (c1.far _ _ (n14.symm)).far _ _ (n14.symm), (c2.far _ _ (n24.symm)).far _ _ (n24.symm), (c3.far _ _ (n34.symm)).far _ _ (n34.symm), ⟨c4.1, fun _ => rfl, fun _ => rfl, (hk.set 7 _ (by simp)).set 8 _ (by simp)⟩⟩
      · clear D0 D1 D2 D3 D4 hB
        intro d0 act wx hJ hr
        obtain ⟨fa0, ld0, fa1, ld1, fa2, ld2, fa3, ld3, fa4, ld4, ga0, st0, ga1, st1, ga2, st2, ga3, st3, ga4, st4, t0, t1, t2, t3, t4, v0, v1, v2, v3, v4, z0, z1, z2, z3, z4, rfl, rfl, hB, c0, c1, c2, c3, c4⟩ := hJ
        have hall := ready_nil hr (by kernel_rfl) (Nat.le_refl 20)
        clear hr
        have r0 : fa0 = true := hall 0 (by decide)
        have r1 : ld0 = true := hall 1 (by decide)
        have r2 : fa1 = true := hall 2 (by decide)
        have r3 : ld1 = true := hall 3 (by decide)
        have r4 : fa2 = true := hall 4 (by decide)
        have r5 : ld2 = true := hall 5 (by decide)
        have r6 : fa3 = true := hall 6 (by decide)
        have r7 : ld3 = true := hall 7 (by decide)
        have r8 : fa4 = true := hall 8 (by decide)
        have r9 : ld4 = true := hall 9 (by decide)
        have r10 : ga0 = true := hall 10 (by decide)
        have r11 : st0 = true := hall 11 (by decide)
        have r12 : ga1 = true := hall 12 (by decide)
        have r13 : st1 = true := hall 13 (by decide)
        have r14 : ga2 = true := hall 14 (by decide)
        have r15 : st2 = true := hall 15 (by decide)
        have r16 : ga3 = true := hall 16 (by decide)
        have r17 : st3 = true := hall 17 (by decide)
        have r18 : ga4 = true := hall 18 (by decide)
        have r19 : st4 = true := hall 19 (by decide)
        clear hall
        subst r0; subst r1; subst r2; subst r3; subst r4; subst r5; subst r6; subst r7; subst r8; subst r9; subst r10; subst r11; subst r12; subst r13; subst r14; subst r15; subst r16; subst r17; subst r18; subst r19
        obtain ⟨⟨ht0, hv0, hz0, D0⟩, ⟨ht1, hv1, hz1, D1⟩, ⟨ht2, hv2, hz2, D2⟩, ⟨ht3, hv3, hz3, D3⟩, ⟨ht4, hv4, hz4, D4⟩⟩ : _ ∧ _ ∧ _ ∧ _ ∧ _ := ⟨c0, c1, c2, c3, c4⟩
        obtain rfl := ht0 rfl; obtain rfl := hv0 rfl; obtain rfl := hz0 rfl; obtain rfl := ht1 rfl; obtain rfl := hv1 rfl; obtain rfl := hz1 rfl; obtain rfl := ht2 rfl; obtain rfl := hv2 rfl; obtain rfl := hz2 rfl; obtain rfl := ht3 rfl; obtain rfl := hv3 rfl; obtain rfl := hz3 rfl; obtain rfl := ht4 rfl; obtain rfl := hv4 rfl; obtain rfl := hz4 rfl
        replace D0 : Blk wx g0 [.int .u32 a, .int .i64 n, .int .u32 0, .int .i64 0, .int .i64 (-1), .int .u16 0, .int .u16 65535, .int .u16 0, .int .u16 65535] := D0; replace D1 : Blk wx g1 [.int .u32 0, .int .i64 0, .int .u32 b, .int .i64 m, .int .i64 (-1), .int .u16 0, .int .u16 65535, .int .u16 0, .int .u16 65535] := D1; replace D2 : Blk wx g2 [.int .u32 0, .int .i64 0, .int .u32 0, .int .i64 0, .int .i64 p, .int .u16 0, .int .u16 65535, .int .u16 0, .int .u16 65535] := D2; replace D3 : Blk wx g3 [.int .u32 0, .int .i64 0, .int .u32 0, .int .i64 0, .int .i64 (-1), .int .u16 l, .int .u16 h, .int .u16 0, .int .u16 65535] := D3; replace D4 : Blk wx g4 [.int .u32 0, .int .i64 0, .int .u32 0, .int .i64 0, .int .i64 (-1), .int .u16 0, .int .u16 65535, .int .u16 u, .int .u16 v] := D4
        clear c0 ht0 hv0 hz0 c1 ht1 hv1 hz1 c2 ht2 hv2 hz2 c3 ht3 hv3 hz3 c4 ht4 hv4 hz4
        go_upto_region 7 with fail
        have F4 := Lib.hid (F3.out.on hB)
        have G4 := Lib.hid (G3.out.on hB)
        have A4 := Lib.hid (A3.out.on hB)
        have B4 := Lib.hid (cbelow_on B3.out hB)
        have hP4 := Lib.hid (HP.out _ _ hP3.out hB)
        have Da4 := Lib.hid D0
        have Db4 := Lib.hid D1
        have Dc4 := Lib.hid D2
        have Dd4 := Lib.hid D3
        have De4 := Lib.hid D4
        clear F3 G3 A3 B3 hP3 hB D0 D1 D2 D3 D4 n01 n02 n03 n04 n12 n13 n14 n23 n24 n34
        replace K0 := Lib.hid (K0.out (by trivial))
        replace T0 := Lib.hid (T0.out (by trivial))
        replace N0 := Lib.hid (N0.out (by trivial))
        replace K1 := Lib.hid (K1.out (by trivial))
        replace T1 := Lib.hid (T1.out (by trivial))
        replace N1 := Lib.hid (N1.out (by trivial))
        replace K2 := Lib.hid (K2.out (by trivial))
        replace T2 := Lib.hid (T2.out (by trivial))
        replace N2 := Lib.hid (N2.out (by trivial))
        replace K3 := Lib.hid (K3.out (by trivial))
        replace T3 := Lib.hid (T3.out (by trivial))
        replace N3 := Lib.hid (N3.out (by trivial))
        replace K4 := Lib.hid (K4.out (by trivial))
        replace T4 := Lib.hid (T4.out (by trivial))
        replace N4 := Lib.hid (N4.out (by trivial))
        replace NM := Lib.hid (NM.out (by trivial))
        replace hM := Lib.hid (hM.out (by trivial))
        obtain ⟨W4, rfl⟩ : ∃ W4 : World, W4 = wx := ⟨_, rfl⟩
        obtain ⟨f_0, f_1, f_2, f_3, f_4, f_5, f_6, f_7, f_8⟩ : _ ∧ _ ∧ _ ∧ _ ∧ _ ∧ _ ∧ _ ∧ _ ∧ _ := ⟨F4.out.1 0 _ rfl, F4.out.1 1 _ rfl, F4.out.1 2 _ rfl, F4.out.1 3 _ rfl, F4.out.1 4 _ rfl, F4.out.1 5 _ rfl, F4.out.1 6 _ rfl, F4.out.1 7 _ rfl, F4.out.1 8 _ rfl⟩
        obtain ⟨g_0, g_1, g_2, g_3, g_4⟩ : _ ∧ _ ∧ _ ∧ _ ∧ _ := ⟨G4.out.1 0 _ rfl, G4.out.1 1 _ rfl, G4.out.1 2 _ rfl, G4.out.1 3 _ rfl, G4.out.1 4 _ rfl⟩
        obtain ⟨a_0, a_1, a_2, a_3, a_4, a_5, a_6, a_7, a_8⟩ : _ ∧ _ ∧ _ ∧ _ ∧ _ ∧ _ ∧ _ ∧ _ ∧ _ := ⟨A4.out.1 0 _ rfl, A4.out.1 1 _ rfl, A4.out.1 2 _ rfl, A4.out.1 3 _ rfl, A4.out.1 4 _ rfl, A4.out.1 5 _ rfl, A4.out.1 6 _ rfl, A4.out.1 7 _ rfl, A4.out.1 8 _ rfl⟩
        obtain ⟨da_0, da_1, da_2, da_3, da_4, da_5, da_6, da_7, da_8⟩ : _ ∧ _ ∧ _ ∧ _ ∧ _ ∧ _ ∧ _ ∧ _ ∧ _ := ⟨Da4.out.1 0 _ rfl, Da4.out.1 1 _ rfl, Da4.out.1 2 _ rfl, Da4.out.1 3 _ rfl, Da4.out.1 4 _ rfl, Da4.out.1 5 _ rfl, Da4.out.1 6 _ rfl, Da4.out.1 7 _ rfl, Da4.out.1 8 _ rfl⟩
        obtain ⟨db_0, db_1, db_2, db_3, db_4, db_5, db_6, db_7, db_8⟩ : _ ∧ _ ∧ _ ∧ _ ∧ _ ∧ _ ∧ _ ∧ _ ∧ _ := ⟨Db4.out.1 0 _ rfl, Db4.out.1 1 _ rfl, Db4.out.1 2 _ rfl, Db4.out.1 3 _ rfl, Db4.out.1 4 _ rfl, Db4.out.1 5 _ rfl, Db4.out.1 6 _ rfl, Db4.out.1 7 _ rfl, Db4.out.1 8 _ rfl⟩
        obtain ⟨dc_0, dc_1, dc_2, dc_3, dc_4, dc_5, dc_6, dc_7, dc_8⟩ : _ ∧ _ ∧ _ ∧ _ ∧ _ ∧ _ ∧ _ ∧ _ ∧ _ := ⟨Dc4.out.1 0 _ rfl, Dc4.out.1 1 _ rfl, Dc4.out.1 2 _ rfl, Dc4.out.1 3 _ rfl, Dc4.out.1 4 _ rfl, Dc4.out.1 5 _ rfl, Dc4.out.1 6 _ rfl, Dc4.out.1 7 _ rfl, Dc4.out.1 8 _ rfl⟩
        obtain ⟨dd_0, dd_1, dd_2, dd_3, dd_4, dd_5, dd_6, dd_7, dd_8⟩ : _ ∧ _ ∧ _ ∧ _ ∧ _ ∧ _ ∧ _ ∧ _ ∧ _ := ⟨Dd4.out.1 0 _ rfl, Dd4.out.1 1 _ rfl, Dd4.out.1 2 _ rfl, Dd4.out.1 3 _ rfl, Dd4.out.1 4 _ rfl, Dd4.out.1 5 _ rfl, Dd4.out.1 6 _ rfl, Dd4.out.1 7 _ rfl, Dd4.out.1 8 _ rfl⟩
        obtain ⟨de_0, de_1, de_2, de_3, de_4, de_5, de_6, de_7, de_8⟩ : _ ∧ _ ∧ _ ∧ _ ∧ _ ∧ _ ∧ _ ∧ _ ∧ _ := ⟨De4.out.1 0 _ rfl, De4.out.1 1 _ rfl, De4.out.1 2 _ rfl, De4.out.1 3 _ rfl, De4.out.1 4 _ rfl, De4.out.1 5 _ rfl, De4.out.1 6 _ rfl, De4.out.1 7 _ rfl, De4.out.1 8 _ rfl⟩
        go_wp2_with fail
        refine at_code (S := fun W => Blk W W4.heap.size [.int .u32 a, .int .i64 n, .int .u32 0, .int .i64 0, .int .i64 (-1), .int .u16 0, .int .u16 65535, .int .u16 0, .int .u16 65535, .int .u32 0, .int .i64 0, .int .u32 b, .int .i64 m, .int .i64 (-1), .int .u16 0, .int .u16 65535, .int .u16 0, .int .u16 65535, .int .u32 0, .int .i64 0, .int .u32 0, .int .i64 0, .int .i64 p, .int .u16 0, .int .u16 65535, .int .u16 0, .int .u16 65535, .int .u32 0, .int .i64 0, .int .u32 0, .int .i64 0, .int .i64 (-1), .int .u16 l, .int .u16 h, .int .u16 0, .int .u16 65535, .int .u32 0, .int .i64 0, .int .u32 0, .int .i64 0, .int .i64 (-1), .int .u16 0, .int .u16 65535, .int .u16 u, .int .u16 v] ∧ Below W4.heap.size W4 W) ⟨Blk.new _ _ _, cbelow_al (Below.refl _ _) _⟩ (fun W5 hW => ?_)
        obtain ⟨hN, hb⟩ := hW
        have F5 := Lib.hid (F4.out.on hb)
        have G5 := Lib.hid (G4.out.on hb)
        have A5 := Lib.hid (A4.out.on hb)
        have Da5 := Lib.hid (Da4.out.on hb)
        have Db5 := Lib.hid (Db4.out.on hb)
        have Dc5 := Lib.hid (Dc4.out.on hb)
        have Dd5 := Lib.hid (Dd4.out.on hb)
        have De5 := Lib.hid (De4.out.on hb)
        have B5 := Lib.hid (cbelow_on B4.out hb)
        have hP5 := Lib.hid (HP.out _ _ hP4.out hb)
        clear hb f_0 f_1 f_2 f_3 f_4 f_5 f_6 f_7 f_8 g_0 g_1 g_2 g_3 g_4 a_0 a_1 a_2 a_3 a_4 a_5 a_6 a_7 a_8 da_0 da_1 da_2 da_3 da_4 da_5 da_6 da_7 da_8 db_0 db_1 db_2 db_3 db_4 db_5 db_6 db_7 db_8 dc_0 dc_1 dc_2 dc_3 dc_4 dc_5 dc_6 dc_7 dc_8 dd_0 dd_1 dd_2 dd_3 dd_4 dd_5 dd_6 dd_7 dd_8 de_0 de_1 de_2 de_3 de_4 de_5 de_6 de_7 de_8 F4 G4 A4 Da4 Db4 Dc4 Dd4 De4 B4 hP4
        have S5 := Lib.hid hN
        clear hN
        clear Da5 Db5 Dc5 Dd5 De5
        refine wp_loop_rounds 6 ?_
        rw [rounds_succ]
        obtain ⟨s_0, s_1, s_2, s_3, s_4, s_5, s_6, s_7, s_8⟩ : _ ∧ _ ∧ _ ∧ _ ∧ _ ∧ _ ∧ _ ∧ _ ∧ _ := ⟨S5.out.1 0 _ rfl, S5.out.1 1 _ rfl, S5.out.1 2 _ rfl, S5.out.1 3 _ rfl, S5.out.1 4 _ rfl, S5.out.1 5 _ rfl, S5.out.1 6 _ rfl, S5.out.1 7 _ rfl, S5.out.1 8 _ rfl⟩
        go_upto_region 10 with fail
        refine at_code (S := fun W => Blk W W5.heap.size [.int .u32 a, .int .i64 n, .int .u32 0, .int .i64 0, .int .i64 (-1), .int .u16 0, .int .u16 65535, .int .u16 0, .int .u16 65535] ∧ Below W5.heap.size W5 W) ⟨Blk.new _ _ _, cbelow_al (Below.refl _ _) _⟩ (fun W6 hW => ?_)
        obtain ⟨hN, hb⟩ := hW
        have F6 := Lib.hid (F5.out.on hb)
        have G6 := Lib.hid (G5.out.on hb)
        have A6 := Lib.hid (A5.out.on hb)
        have S6 := Lib.hid (S5.out.on hb)
        have B6 := Lib.hid (cbelow_on B5.out hb)
        have hP6 := Lib.hid (HP.out _ _ hP5.out hb)
        clear hb s_0 s_1 s_2 s_3 s_4 s_5 s_6 s_7 s_8 F5 G5 A5 S5 B5 hP5
        have X6 := Lib.hid hN
        clear hN
        obtain ⟨x_0, x_1, x_2, x_3, x_4, x_5, x_6, x_7, x_8⟩ : _ ∧ _ ∧ _ ∧ _ ∧ _ ∧ _ ∧ _ ∧ _ ∧ _ := ⟨X6.out.1 0 _ rfl, X6.out.1 1 _ rfl, X6.out.1 2 _ rfl, X6.out.1 3 _ rfl, X6.out.1 4 _ rfl, X6.out.1 5 _ rfl, X6.out.1 6 _ rfl, X6.out.1 7 _ rfl, X6.out.1 8 _ rfl⟩
        go_wp2_with fail
        refine (K0.out _).mono ?_
        rintro e w7 ⟨rfl, hb⟩
        have F7 := Lib.hid (F6.out.on hb)
        have G7 := Lib.hid (G6.out.on hb)
        have A7 := Lib.hid (A6.out.on hb)
        have S7 := Lib.hid (S6.out.on hb)
        have X7 := Lib.hid (X6.out.on hb)
        have B7 := Lib.hid (cbelow_on B6.out hb)
        have hP7 := Lib.hid (HP.out _ _ hP6.out hb)
        clear hb x_0 x_1 x_2 x_3 x_4 x_5 x_6 x_7 x_8 F6 G6 A6 S6 X6 B6 hP6
        obtain ⟨a_0, a_1, a_2, a_3, a_4, a_5, a_6, a_7, a_8⟩ : _ ∧ _ ∧ _ ∧ _ ∧ _ ∧ _ ∧ _ ∧ _ ∧ _ := ⟨A7.out.1 0 _ rfl, A7.out.1 1 _ rfl, A7.out.1 2 _ rfl, A7.out.1 3 _ rfl, A7.out.1 4 _ rfl, A7.out.1 5 _ rfl, A7.out.1 6 _ rfl, A7.out.1 7 _ rfl, A7.out.1 8 _ rfl⟩
        obtain ⟨x_0, x_1, x_2, x_3, x_4, x_5, x_6, x_7, x_8⟩ : _ ∧ _ ∧ _ ∧ _ ∧ _ ∧ _ ∧ _ ∧ _ ∧ _ := ⟨X7.out.1 0 _ rfl, X7.out.1 1 _ rfl, X7.out.1 2 _ rfl, X7.out.1 3 _ rfl, X7.out.1 4 _ rfl, X7.out.1 5 _ rfl, X7.out.1 6 _ rfl, X7.out.1 7 _ rfl, X7.out.1 8 _ rfl⟩
        go_wp2_with fail
        refine (T0.out _).mono ?_
        rintro e w8 ⟨rfl, hb⟩
        have F8 := Lib.hid (F7.out.on hb)
        have G8 := Lib.hid (G7.out.on hb)
        have A8 := Lib.hid (A7.out.on hb)
        have S8 := Lib.hid (S7.out.on hb)
        have X8 := Lib.hid (X7.out.on hb)
        have B8 := Lib.hid (cbelow_on B7.out hb)
        have hP8 := Lib.hid (HP.out _ _ hP7.out hb)
        clear hb a_0 a_1 a_2 a_3 a_4 a_5 a_6 a_7 a_8 x_0 x_1 x_2 x_3 x_4 x_5 x_6 x_7 x_8 F7 G7 A7 S7 X7 B7 hP7
        obtain ⟨g_0, g_1, g_2, g_3, g_4⟩ : _ ∧ _ ∧ _ ∧ _ ∧ _ := ⟨G8.out.1 0 _ rfl, G8.out.1 1 _ rfl, G8.out.1 2 _ rfl, G8.out.1 3 _ rfl, G8.out.1 4 _ rfl⟩
        obtain ⟨x_0, x_1, x_2, x_3, x_4, x_5, x_6, x_7, x_8⟩ : _ ∧ _ ∧ _ ∧ _ ∧ _ ∧ _ ∧ _ ∧ _ ∧ _ := ⟨X8.out.1 0 _ rfl, X8.out.1 1 _ rfl, X8.out.1 2 _ rfl, X8.out.1 3 _ rfl, X8.out.1 4 _ rfl, X8.out.1 5 _ rfl, X8.out.1 6 _ rfl, X8.out.1 7 _ rfl, X8.out.1 8 _ rfl⟩
        go_wp2_with fail
        refine (N0.out _).mono ?_
        rintro e w9 ⟨rfl, hb⟩
        have F9 := Lib.hid (F8.out.on hb)
        have G9 := Lib.hid (G8.out.on hb)
        have A9 := Lib.hid (A8.out.on hb)
        have S9 := Lib.hid (S8.out.on hb)
        have X9 := Lib.hid (X8.out.on hb)
        have B9 := Lib.hid (cbelow_on B8.out hb)
        have hP9 := Lib.hid (HP.out _ _ hP8.out hb)
        clear hb g_0 g_1 g_2 g_3 g_4 x_0 x_1 x_2 x_3 x_4 x_5 x_6 x_7 x_8 F8 G8 A8 S8 X8 B8 hP8
        clear X9
        cases M0
        · go_wp2_with fail
          rw [rounds_succ]
          obtain ⟨s_9, s_10, s_11, s_12, s_13, s_14, s_15, s_16, s_17⟩ : _ ∧ _ ∧ _ ∧ _ ∧ _ ∧ _ ∧ _ ∧ _ ∧ _ := ⟨S9.out.1 9 _ rfl, S9.out.1 10 _ rfl, S9.out.1 11 _ rfl, S9.out.1 12 _ rfl, S9.out.1 13 _ rfl, S9.out.1 14 _ rfl, S9.out.1 15 _ rfl, S9.out.1 16 _ rfl, S9.out.1 17 _ rfl⟩
          go_upto_region 10 with fail
          refine at_code (S := fun W => Blk W w9.heap.size [.int .u32 0, .int .i64 0, .int .u32 b, .int .i64 m, .int .i64 (-1), .int .u16 0, .int .u16 65535, .int .u16 0, .int .u16 65535] ∧ Below w9.heap.size w9 W) ⟨Blk.new _ _ _, cbelow_al (Below.refl _ _) _⟩ (fun W10 hW => ?_)
          obtain ⟨hN, hb⟩ := hW
          have F10 := Lib.hid (F9.out.on hb)
          have G10 := Lib.hid (G9.out.on hb)
          have A10 := Lib.hid (A9.out.on hb)
          have S10 := Lib.hid (S9.out.on hb)
          have B10 := Lib.hid (cbelow_on B9.out hb)
          have hP10 := Lib.hid (HP.out _ _ hP9.out hb)
          clear hb s_9 s_10 s_11 s_12 s_13 s_14 s_15 s_16 s_17 F9 G9 A9 S9 B9 hP9
          have X10 := Lib.hid hN
          clear hN
          obtain ⟨x_0, x_1, x_2, x_3, x_4, x_5, x_6, x_7, x_8⟩ : _ ∧ _ ∧ _ ∧ _ ∧ _ ∧ _ ∧ _ ∧ _ ∧ _ := ⟨X10.out.1 0 _ rfl, X10.out.1 1 _ rfl, X10.out.1 2 _ rfl, X10.out.1 3 _ rfl, X10.out.1 4 _ rfl, X10.out.1 5 _ rfl, X10.out.1 6 _ rfl, X10.out.1 7 _ rfl, X10.out.1 8 _ rfl⟩
          go_wp2_with fail
          refine (K1.out _).mono ?_
          rintro e w11 ⟨rfl, hb⟩
          have F11 := Lib.hid (F10.out.on hb)
          have G11 := Lib.hid (G10.out.on hb)
          have A11 := Lib.hid (A10.out.on hb)
          have S11 := Lib.hid (S10.out.on hb)
          have X11 := Lib.hid (X10.out.on hb)
          have B11 := Lib.hid (cbelow_on B10.out hb)
          have hP11 := Lib.hid (HP.out _ _ hP10.out hb)
          clear hb x_0 x_1 x_2 x_3 x_4 x_5 x_6 x_7 x_8 F10 G10 A10 S10 X10 B10 hP10
          obtain ⟨a_0, a_1, a_2, a_3, a_4, a_5, a_6, a_7, a_8⟩ : _ ∧ _ ∧ _ ∧ _ ∧ _ ∧ _ ∧ _ ∧ _ ∧ _ := ⟨A11.out.1 0 _ rfl, A11.out.1 1 _ rfl, A11.out.1 2 _ rfl, A11.out.1 3 _ rfl, A11.out.1 4 _ rfl, A11.out.1 5 _ rfl, A11.out.1 6 _ rfl, A11.out.1 7 _ rfl, A11.out.1 8 _ rfl⟩
          obtain ⟨x_0, x_1, x_2, x_3, x_4, x_5, x_6, x_7, x_8⟩ : _ ∧ _ ∧ _ ∧ _ ∧ _ ∧ _ ∧ _ ∧ _ ∧ _ := ⟨X11.out.1 0 _ rfl, X11.out.1 1 _ rfl, X11.out.1 2 _ rfl, X11.out.1 3 _ rfl, X11.out.1 4 _ rfl, X11.out.1 5 _ rfl, X11.out.1 6 _ rfl, X11.out.1 7 _ rfl, X11.out.1 8 _ rfl⟩
          go_wp2_with fail
          refine (T1.out _).mono ?_
          rintro e w12 ⟨rfl, hb⟩
          have F12 := Lib.hid (F11.out.on hb)
          have G12 := Lib.hid (G11.out.on hb)
          have A12 := Lib.hid (A11.out.on hb)
          have S12 := Lib.hid (S11.out.on hb)
          have X12 := Lib.hid (X11.out.on hb)
          have B12 := Lib.hid (cbelow_on B11.out hb)
          have hP12 := Lib.hid (HP.out _ _ hP11.out hb)
          clear hb a_0 a_1 a_2 a_3 a_4 a_5 a_6 a_7 a_8 x_0 x_1 x_2 x_3 x_4 x_5 x_6 x_7 x_8 F11 G11 A11 S11 X11 B11 hP11
          clear X12
          go_wp2_with fail
          rw [rounds_succ]
          obtain ⟨s_18, s_19, s_20, s_21, s_22, s_23, s_24, s_25, s_26⟩ : _ ∧ _ ∧ _ ∧ _ ∧ _ ∧ _ ∧ _ ∧ _ ∧ _ := ⟨S12.out.1 18 _ rfl, S12.out.1 19 _ rfl, S12.out.1 20 _ rfl, S12.out.1 21 _ rfl, S12.out.1 22 _ rfl, S12.out.1 23 _ rfl, S12.out.1 24 _ rfl, S12.out.1 25 _ rfl, S12.out.1 26 _ rfl⟩
          go_upto_region 10 with fail
          refine at_code (S := fun W => Blk W w12.heap.size [.int .u32 0, .int .i64 0, .int .u32 0, .int .i64 0, .int .i64 p, .int .u16 0, .int .u16 65535, .int .u16 0, .int .u16 65535] ∧ Below w12.heap.size w12 W) ⟨Blk.new _ _ _, cbelow_al (Below.refl _ _) _⟩ (fun W13 hW => ?_)
          obtain ⟨hN, hb⟩ := hW
          have F13 := Lib.hid (F12.out.on hb)
          have G13 := Lib.hid (G12.out.on hb)
          have A13 := Lib.hid (A12.out.on hb)
          have S13 := Lib.hid (S12.out.on hb)
          have B13 := Lib.hid (cbelow_on B12.out hb)
          have hP13 := Lib.hid (HP.out _ _ hP12.out hb)
          clear hb s_18 s_19 s_20 s_21 s_22 s_23 s_24 s_25 s_26 F12 G12 A12 S12 B12 hP12
          have X13 := Lib.hid hN
          clear hN
          obtain ⟨x_0, x_1, x_2, x_3, x_4, x_5, x_6, x_7, x_8⟩ : _ ∧ _ ∧ _ ∧ _ ∧ _ ∧ _ ∧ _ ∧ _ ∧ _ := ⟨X13.out.1 0 _ rfl, X13.out.1 1 _ rfl, X13.out.1 2 _ rfl, X13.out.1 3 _ rfl, X13.out.1 4 _ rfl, X13.out.1 5 _ rfl, X13.out.1 6 _ rfl, X13.out.1 7 _ rfl, X13.out.1 8 _ rfl⟩
          go_wp2_with fail
          refine (K2.out _).mono ?_
          rintro e w14 ⟨rfl, hb⟩
          have F14 := Lib.hid (F13.out.on hb)
          have G14 := Lib.hid (G13.out.on hb)
          have A14 := Lib.hid (A13.out.on hb)
          have S14 := Lib.hid (S13.out.on hb)
          have X14 := Lib.hid (X13.out.on hb)
          have B14 := Lib.hid (cbelow_on B13.out hb)
          have hP14 := Lib.hid (HP.out _ _ hP13.out hb)
          clear hb x_0 x_1 x_2 x_3 x_4 x_5 x_6 x_7 x_8 F13 G13 A13 S13 X13 B13 hP13
          obtain ⟨a_0, a_1, a_2, a_3, a_4, a_5, a_6, a_7, a_8⟩ : _ ∧ _ ∧ _ ∧ _ ∧ _ ∧ _ ∧ _ ∧ _ ∧ _ := ⟨A14.out.1 0 _ rfl, A14.out.1 1 _ rfl, A14.out.1 2 _ rfl, A14.out.1 3 _ rfl, A14.out.1 4 _ rfl, A14.out.1 5 _ rfl, A14.out.1 6 _ rfl, A14.out.1 7 _ rfl, A14.out.1 8 _ rfl⟩
          obtain ⟨x_0, x_1, x_2, x_3, x_4, x_5, x_6, x_7, x_8⟩ : _ ∧ _ ∧ _ ∧ _ ∧ _ ∧ _ ∧ _ ∧ _ ∧ _ := ⟨X14.out.1 0 _ rfl, X14.out.1 1 _ rfl, X14.out.1 2 _ rfl, X14.out.1 3 _ rfl, X14.out.1 4 _ rfl, X14.out.1 5 _ rfl, X14.out.1 6 _ rfl, X14.out.1 7 _ rfl, X14.out.1 8 _ rfl⟩
          go_wp2_with fail
          refine (T2.out _).mono ?_
          rintro e w15 ⟨rfl, hb⟩
          have F15 := Lib.hid (F14.out.on hb)
          have G15 := Lib.hid (G14.out.on hb)
          have A15 := Lib.hid (A14.out.on hb)
          have S15 := Lib.hid (S14.out.on hb)
          have X15 := Lib.hid (X14.out.on hb)
          have B15 := Lib.hid (cbelow_on B14.out hb)
          have hP15 := Lib.hid (HP.out _ _ hP14.out hb)
          clear hb a_0 a_1 a_2 a_3 a_4 a_5 a_6 a_7 a_8 x_0 x_1 x_2 x_3 x_4 x_5 x_6 x_7 x_8 F14 G14 A14 S14 X14 B14 hP14
          clear X15
          go_wp2_with fail
          rw [rounds_succ]
          obtain ⟨s_27, s_28, s_29, s_30, s_31, s_32, s_33, s_34, s_35⟩ : _ ∧ _ ∧ _ ∧ _ ∧ _ ∧ _ ∧ _ ∧ _ ∧ _ := ⟨S15.out.1 27 _ rfl, S15.out.1 28 _ rfl, S15.out.1 29 _ rfl, S15.out.1 30 _ rfl, S15.out.1 31 _ rfl, S15.out.1 32 _ rfl, S15.out.1 33 _ rfl, S15.out.1 34 _ rfl, S15.out.1 35 _ rfl⟩
          go_upto_region 10 with fail
          refine at_code (S := fun W => Blk W w15.heap.size [.int .u32 0, .int .i64 0, .int .u32 0, .int .i64 0, .int .i64 (-1), .int .u16 l, .int .u16 h, .int .u16 0, .int .u16 65535] ∧ Below w15.heap.size w15 W) ⟨Blk.new _ _ _, cbelow_al (Below.refl _ _) _⟩ (fun W16 hW => ?_)
          obtain ⟨hN, hb⟩ := hW
          have F16 := Lib.hid (F15.out.on hb)
          have G16 := Lib.hid (G15.out.on hb)
          have A16 := Lib.hid (A15.out.on hb)
          have S16 := Lib.hid (S15.out.on hb)
          have B16 := Lib.hid (cbelow_on B15.out hb)
          have hP16 := Lib.hid (HP.out _ _ hP15.out hb)
          clear hb s_27 s_28 s_29 s_30 s_31 s_32 s_33 s_34 s_35 F15 G15 A15 S15 B15 hP15
          have X16 := Lib.hid hN
          clear hN
          obtain ⟨x_0, x_1, x_2, x_3, x_4, x_5, x_6, x_7, x_8⟩ : _ ∧ _ ∧ _ ∧ _ ∧ _ ∧ _ ∧ _ ∧ _ ∧ _ := ⟨X16.out.1 0 _ rfl, X16.out.1 1 _ rfl, X16.out.1 2 _ rfl, X16.out.1 3 _ rfl, X16.out.1 4 _ rfl, X16.out.1 5 _ rfl, X16.out.1 6 _ rfl, X16.out.1 7 _ rfl, X16.out.1 8 _ rfl⟩
          go_wp2_with fail
          refine (K3.out _).mono ?_
          rintro e w17 ⟨rfl, hb⟩
          have F17 := Lib.hid (F16.out.on hb)
          have G17 := Lib.hid (G16.out.on hb)
          have A17 := Lib.hid (A16.out.on hb)
          have S17 := Lib.hid (S16.out.on hb)
          have X17 := Lib.hid (X16.out.on hb)
          have B17 := Lib.hid (cbelow_on B16.out hb)
          have hP17 := Lib.hid (HP.out _ _ hP16.out hb)
          clear hb x_0 x_1 x_2 x_3 x_4 x_5 x_6 x_7 x_8 F16 G16 A16 S16 X16 B16 hP16
          obtain ⟨a_0, a_1, a_2, a_3, a_4, a_5, a_6, a_7, a_8⟩ : _ ∧ _ ∧ _ ∧ _ ∧ _ ∧ _ ∧ _ ∧ _ ∧ _ := ⟨A17.out.1 0 _ rfl, A17.out.1 1 _ rfl, A17.out.1 2 _ rfl, A17.out.1 3 _ rfl, A17.out.1 4 _ rfl, A17.out.1 5 _ rfl, A17.out.1 6 _ rfl, A17.out.1 7 _ rfl, A17.out.1 8 _ rfl⟩
          obtain ⟨x_0, x_1, x_2, x_3, x_4, x_5, x_6, x_7, x_8⟩ : _ ∧ _ ∧ _ ∧ _ ∧ _ ∧ _ ∧ _ ∧ _ ∧ _ := ⟨X17.out.1 0 _ rfl, X17.out.1 1 _ rfl, X17.out.1 2 _ rfl, X17.out.1 3 _ rfl, X17.out.1 4 _ rfl, X17.out.1 5 _ rfl, X17.out.1 6 _ rfl, X17.out.1 7 _ rfl, X17.out.1 8 _ rfl⟩
          go_wp2_with fail
          refine (T3.out _).mono ?_
          rintro e w18 ⟨rfl, hb⟩
          have F18 := Lib.hid (F17.out.on hb)
          have G18 := Lib.hid (G17.out.on hb)
          have A18 := Lib.hid (A17.out.on hb)
          have S18 := Lib.hid (S17.out.on hb)
          have X18 := Lib.hid (X17.out.on hb)
          have B18 := Lib.hid (cbelow_on B17.out hb)
          have hP18 := Lib.hid (HP.out _ _ hP17.out hb)
          clear hb a_0 a_1 a_2 a_3 a_4 a_5 a_6 a_7 a_8 x_0 x_1 x_2 x_3 x_4 x_5 x_6 x_7 x_8 F17 G17 A17 S17 X17 B17 hP17
          clear X18
          go_wp2_with fail
          rw [rounds_succ]
          obtain ⟨s_36, s_37, s_38, s_39, s_40, s_41, s_42, s_43, s_44⟩ : _ ∧ _ ∧ _ ∧ _ ∧ _ ∧ _ ∧ _ ∧ _ ∧ _ := ⟨S18.out.1 36 _ rfl, S18.out.1 37 _ rfl, S18.out.1 38 _ rfl, S18.out.1 39 _ rfl, S18.out.1 40 _ rfl, S18.out.1 41 _ rfl, S18.out.1 42 _ rfl, S18.out.1 43 _ rfl, S18.out.1 44 _ rfl⟩
          go_upto_region 10 with fail
          refine at_code (S := fun W => Blk W w18.heap.size [.int .u32 0, .int .i64 0, .int .u32 0, .int .i64 0, .int .i64 (-1), .int .u16 0, .int .u16 65535, .int .u16 u, .int .u16 v] ∧ Below w18.heap.size w18 W) ⟨Blk.new _ _ _, cbelow_al (Below.refl _ _) _⟩ (fun W19 hW => ?_)
          obtain ⟨hN, hb⟩ := hW
          have F19 := Lib.hid (F18.out.on hb)
          have G19 := Lib.hid (G18.out.on hb)
          have A19 := Lib.hid (A18.out.on hb)
          have S19 := Lib.hid (S18.out.on hb)
          have B19 := Lib.hid (cbelow_on B18.out hb)
          have hP19 := Lib.hid (HP.out _ _ hP18.out hb)
          clear hb s_36 s_37 s_38 s_39 s_40 s_41 s_42 s_43 s_44 F18 G18 A18 S18 B18 hP18
          have X19 := Lib.hid hN
          clear hN
          obtain ⟨x_0, x_1, x_2, x_3, x_4, x_5, x_6, x_7, x_8⟩ : _ ∧ _ ∧ _ ∧ _ ∧ _ ∧ _ ∧ _ ∧ _ ∧ _ := ⟨X19.out.1 0 _ rfl, X19.out.1 1 _ rfl, X19.out.1 2 _ rfl, X19.out.1 3 _ rfl, X19.out.1 4 _ rfl, X19.out.1 5 _ rfl, X19.out.1 6 _ rfl, X19.out.1 7 _ rfl, X19.out.1 8 _ rfl⟩
          go_wp2_with fail
          refine (K4.out _).mono ?_
          rintro e w20 ⟨rfl, hb⟩
          have F20 := Lib.hid (F19.out.on hb)
          have G20 := Lib.hid (G19.out.on hb)
          have A20 := Lib.hid (A19.out.on hb)
          have S20 := Lib.hid (S19.out.on hb)
          have X20 := Lib.hid (X19.out.on hb)
          have B20 := Lib.hid (cbelow_on B19.out hb)
          have hP20 := Lib.hid (HP.out _ _ hP19.out hb)
          clear hb x_0 x_1 x_2 x_3 x_4 x_5 x_6 x_7 x_8 F19 G19 A19 S19 X19 B19 hP19
          obtain ⟨a_0, a_1, a_2, a_3, a_4, a_5, a_6, a_7, a_8⟩ : _ ∧ _ ∧ _ ∧ _ ∧ _ ∧ _ ∧ _ ∧ _ ∧ _ := ⟨A20.out.1 0 _ rfl, A20.out.1 1 _ rfl, A20.out.1 2 _ rfl, A20.out.1 3 _ rfl, A20.out.1 4 _ rfl, A20.out.1 5 _ rfl, A20.out.1 6 _ rfl, A20.out.1 7 _ rfl, A20.out.1 8 _ rfl⟩
          obtain ⟨x_0, x_1, x_2, x_3, x_4, x_5, x_6, x_7, x_8⟩ : _ ∧ _ ∧ _ ∧ _ ∧ _ ∧ _ ∧ _ ∧ _ ∧ _ := ⟨X20.out.1 0 _ rfl, X20.out.1 1 _ rfl, X20.out.1 2 _ rfl, X20.out.1 3 _ rfl, X20.out.1 4 _ rfl, X20.out.1 5 _ rfl, X20.out.1 6 _ rfl, X20.out.1 7 _ rfl, X20.out.1 8 _ rfl⟩
          go_wp2_with fail
          refine (T4.out _).mono ?_
          rintro e w21 ⟨rfl, hb⟩
          have F21 := Lib.hid (F20.out.on hb)
          have G21 := Lib.hid (G20.out.on hb)
          have A21 := Lib.hid (A20.out.on hb)
          have S21 := Lib.hid (S20.out.on hb)
          have X21 := Lib.hid (X20.out.on hb)
          have B21 := Lib.hid (cbelow_on B20.out hb)
          have hP21 := Lib.hid (HP.out _ _ hP20.out hb)
          clear hb a_0 a_1 a_2 a_3 a_4 a_5 a_6 a_7 a_8 x_0 x_1 x_2 x_3 x_4 x_5 x_6 x_7 x_8 F20 G20 A20 S20 X20 B20 hP20
          clear X21
          go_wp2_with fail
          rw [rounds_succ]
          go_wp2_with fail
          refine (AW.out _ hP21.out).mono ?_
          rintro e w22 ⟨rfl, hb⟩
          have F22 := Lib.hid (F21.out.on hb)
          have G22 := Lib.hid (G21.out.on hb)
          have A22 := Lib.hid (A21.out.on hb)
          have S22 := Lib.hid (S21.out.on hb)
          have B22 := Lib.hid (cbelow_on B21.out hb)
          have hP22 := Lib.hid (HP.out _ _ hP21.out hb)
          clear hb F21 G21 A21 S21 B21 hP21
          obtain ⟨f_0, f_1, f_2, f_3, f_4, f_5, f_6, f_7, f_8⟩ : _ ∧ _ ∧ _ ∧ _ ∧ _ ∧ _ ∧ _ ∧ _ ∧ _ := ⟨F22.out.1 0 _ rfl, F22.out.1 1 _ rfl, F22.out.1 2 _ rfl, F22.out.1 3 _ rfl, F22.out.1 4 _ rfl, F22.out.1 5 _ rfl, F22.out.1 6 _ rfl, F22.out.1 7 _ rfl, F22.out.1 8 _ rfl⟩
          obtain ⟨g_0, g_1, g_2, g_3, g_4⟩ : _ ∧ _ ∧ _ ∧ _ ∧ _ := ⟨G22.out.1 0 _ rfl, G22.out.1 1 _ rfl, G22.out.1 2 _ rfl, G22.out.1 3 _ rfl, G22.out.1 4 _ rfl⟩
          go_wp2_with fail
          refine (NM.out _).mono ?_
          rintro e w23 ⟨rfl, hb⟩
          have F23 := Lib.hid (F22.out.on hb)
          have G23 := Lib.hid (G22.out.on hb)
          have A23 := Lib.hid (A22.out.on hb)
          have S23 := Lib.hid (S22.out.on hb)
          have B23 := Lib.hid (cbelow_on B22.out hb)
          have hP23 := Lib.hid (HP.out _ _ hP22.out hb)
          clear hb f_0 f_1 f_2 f_3 f_4 f_5 f_6 f_7 f_8 g_0 g_1 g_2 g_3 g_4 F22 G22 A22 S22 B22 hP22
          go_wp2
          go_ret
          have := hM.out
          simp at this
          subst this
          exact ⟨rfl, B23.out⟩
        · go_wp2_with fail
          rw [rounds_succ]
          obtain ⟨s_9, s_10, s_11, s_12, s_13, s_14, s_15, s_16, s_17⟩ : _ ∧ _ ∧ _ ∧ _ ∧ _ ∧ _ ∧ _ ∧ _ ∧ _ := ⟨S9.out.1 9 _ rfl, S9.out.1 10 _ rfl, S9.out.1 11 _ rfl, S9.out.1 12 _ rfl, S9.out.1 13 _ rfl, S9.out.1 14 _ rfl, S9.out.1 15 _ rfl, S9.out.1 16 _ rfl, S9.out.1 17 _ rfl⟩
          go_upto_region 10 with fail
          refine at_code (S := fun W => Blk W w9.heap.size [.int .u32 0, .int .i64 0, .int .u32 b, .int .i64 m, .int .i64 (-1), .int .u16 0, .int .u16 65535, .int .u16 0, .int .u16 65535] ∧ Below w9.heap.size w9 W) ⟨Blk.new _ _ _, cbelow_al (Below.refl _ _) _⟩ (fun W10 hW => ?_)
          obtain ⟨hN, hb⟩ := hW
          have F10 := Lib.hid (F9.out.on hb)
          have G10 := Lib.hid (G9.out.on hb)
          have A10 := Lib.hid (A9.out.on hb)
          have S10 := Lib.hid (S9.out.on hb)
          have B10 := Lib.hid (cbelow_on B9.out hb)
          have hP10 := Lib.hid (HP.out _ _ hP9.out hb)
          clear hb s_9 s_10 s_11 s_12 s_13 s_14 s_15 s_16 s_17 F9 G9 A9 S9 B9 hP9
          have X10 := Lib.hid hN
          clear hN
          obtain ⟨x_0, x_1, x_2, x_3, x_4, x_5, x_6, x_7, x_8⟩ : _ ∧ _ ∧ _ ∧ _ ∧ _ ∧ _ ∧ _ ∧ _ ∧ _ := ⟨X10.out.1 0 _ rfl, X10.out.1 1 _ rfl, X10.out.1 2 _ rfl, X10.out.1 3 _ rfl, X10.out.1 4 _ rfl, X10.out.1 5 _ rfl, X10.out.1 6 _ rfl, X10.out.1 7 _ rfl, X10.out.1 8 _ rfl⟩
          go_wp2_with fail
          refine (K1.out _).mono ?_
          rintro e w11 ⟨rfl, hb⟩
          have F11 := Lib.hid (F10.out.on hb)
          have G11 := Lib.hid (G10.out.on hb)
          have A11 := Lib.hid (A10.out.on hb)
          have S11 := Lib.hid (S10.out.on hb)
          have X11 := Lib.hid (X10.out.on hb)
          have B11 := Lib.hid (cbelow_on B10.out hb)
          have hP11 := Lib.hid (HP.out _ _ hP10.out hb)
          clear hb x_0 x_1 x_2 x_3 x_4 x_5 x_6 x_7 x_8 F10 G10 A10 S10 X10 B10 hP10
          obtain ⟨a_0, a_1, a_2, a_3, a_4, a_5, a_6, a_7, a_8⟩ : _ ∧ _ ∧ _ ∧ _ ∧ _ ∧ _ ∧ _ ∧ _ ∧ _ := ⟨A11.out.1 0 _ rfl, A11.out.1 1 _ rfl, A11.out.1 2 _ rfl, A11.out.1 3 _ rfl, A11.out.1 4 _ rfl, A11.out.1 5 _ rfl, A11.out.1 6 _ rfl, A11.out.1 7 _ rfl, A11.out.1 8 _ rfl⟩
          obtain ⟨x_0, x_1, x_2, x_3, x_4, x_5, x_6, x_7, x_8⟩ : _ ∧ _ ∧ _ ∧ _ ∧ _ ∧ _ ∧ _ ∧ _ ∧ _ := ⟨X11.out.1 0 _ rfl, X11.out.1 1 _ rfl, X11.out.1 2 _ rfl, X11.out.1 3 _ rfl, X11.out.1 4 _ rfl, X11.out.1 5 _ rfl, X11.out.1 6 _ rfl, X11.out.1 7 _ rfl, X11.out.1 8 _ rfl⟩
          go_wp2_with fail
          refine (T1.out _).mono ?_
          rintro e w12 ⟨rfl, hb⟩
          have F12 := Lib.hid (F11.out.on hb)
          have G12 := Lib.hid (G11.out.on hb)
          have A12 := Lib.hid (A11.out.on hb)
          have S12 := Lib.hid (S11.out.on hb)
          have X12 := Lib.hid (X11.out.on hb)
          have B12 := Lib.hid (cbelow_on B11.out hb)
          have hP12 := Lib.hid (HP.out _ _ hP11.out hb)
          clear hb a_0 a_1 a_2 a_3 a_4 a_5 a_6 a_7 a_8 x_0 x_1 x_2 x_3 x_4 x_5 x_6 x_7 x_8 F11 G11 A11 S11 X11 B11 hP11
          obtain ⟨g_0, g_1, g_2, g_3, g_4⟩ : _ ∧ _ ∧ _ ∧ _ ∧ _ := ⟨G12.out.1 0 _ rfl, G12.out.1 1 _ rfl, G12.out.1 2 _ rfl, G12.out.1 3 _ rfl, G12.out.1 4 _ rfl⟩
          obtain ⟨x_0, x_1, x_2, x_3, x_4, x_5, x_6, x_7, x_8⟩ : _ ∧ _ ∧ _ ∧ _ ∧ _ ∧ _ ∧ _ ∧ _ ∧ _ := ⟨X12.out.1 0 _ rfl, X12.out.1 1 _ rfl, X12.out.1 2 _ rfl, X12.out.1 3 _ rfl, X12.out.1 4 _ rfl, X12.out.1 5 _ rfl, X12.out.1 6 _ rfl, X12.out.1 7 _ rfl, X12.out.1 8 _ rfl⟩
          go_wp2_with fail
          refine (N1.out _).mono ?_
          rintro e w13 ⟨rfl, hb⟩
          have F13 := Lib.hid (F12.out.on hb)
          have G13 := Lib.hid (G12.out.on hb)
          have A13 := Lib.hid (A12.out.on hb)
          have S13 := Lib.hid (S12.out.on hb)
          have X13 := Lib.hid (X12.out.on hb)
          have B13 := Lib.hid (cbelow_on B12.out hb)
          have hP13 := Lib.hid (HP.out _ _ hP12.out hb)
          clear hb g_0 g_1 g_2 g_3 g_4 x_0 x_1 x_2 x_3 x_4 x_5 x_6 x_7 x_8 F12 G12 A12 S12 X12 B12 hP12
          clear X13
          cases M1
          · go_wp2_with fail
            rw [rounds_succ]
            obtain ⟨s_18, s_19, s_20, s_21, s_22, s_23, s_24, s_25, s_26⟩ : _ ∧ _ ∧ _ ∧ _ ∧ _ ∧ _ ∧ _ ∧ _ ∧ _ := ⟨S13.out.1 18 _ rfl, S13.out.1 19 _ rfl, S13.out.1 20 _ rfl, S13.out.1 21 _ rfl, S13.out.1 22 _ rfl, S13.out.1 23 _ rfl, S13.out.1 24 _ rfl, S13.out.1 25 _ rfl, S13.out.1 26 _ rfl⟩
            go_upto_region 10 with fail
            refine at_code (S := fun W => Blk W w13.heap.size [.int .u32 0, .int .i64 0, .int .u32 0, .int .i64 0, .int .i64 p, .int .u16 0, .int .u16 65535, .int .u16 0, .int .u16 65535] ∧ Below w13.heap.size w13 W) ⟨Blk.new _ _ _, cbelow_al (Below.refl _ _) _⟩ (fun W14 hW => ?_)
            obtain ⟨hN, hb⟩ := hW
            have F14 := Lib.hid (F13.out.on hb)
            have G14 := Lib.hid (G13.out.on hb)
            have A14 := Lib.hid (A13.out.on hb)
            have S14 := Lib.hid (S13.out.on hb)
            have B14 := Lib.hid (cbelow_on B13.out hb)
            have hP14 := Lib.hid (HP.out _ _ hP13.out hb)
            clear hb s_18 s_19 s_20 s_21 s_22 s_23 s_24 s_25 s_26 F13 G13 A13 S13 B13 hP13
            have X14 := Lib.hid hN
            clear hN
            obtain ⟨x_0, x_1, x_2, x_3, x_4, x_5, x_6, x_7, x_8⟩ : _ ∧ _ ∧ _ ∧ _ ∧ _ ∧ _ ∧ _ ∧ _ ∧ _ := ⟨X14.out.1 0 _ rfl, X14.out.1 1 _ rfl, X14.out.1 2 _ rfl, X14.out.1 3 _ rfl, X14.out.1 4 _ rfl, X14.out.1 5 _ rfl, X14.out.1 6 _ rfl, X14.out.1 7 _ rfl, X14.out.1 8 _ rfl⟩
            go_wp2_with fail
            refine (K2.out _).mono ?_
            rintro e w15 ⟨rfl, hb⟩
            have F15 := Lib.hid (F14.out.on hb)
            have G15 := Lib.hid (G14.out.on hb)
            have A15 := Lib.hid (A14.out.on hb)
            have S15 := Lib.hid (S14.out.on hb)
            have X15 := Lib.hid (X14.out.on hb)
            have B15 := Lib.hid (cbelow_on B14.out hb)
            have hP15 := Lib.hid (HP.out _ _ hP14.out hb)
            clear hb x_0 x_1 x_2 x_3 x_4 x_5 x_6 x_7 x_8 F14 G14 A14 S14 X14 B14 hP14
            obtain ⟨a_0, a_1, a_2, a_3, a_4, a_5, a_6, a_7, a_8⟩ : _ ∧ _ ∧ _ ∧ _ ∧ _ ∧ _ ∧ _ ∧ _ ∧ _ := ⟨A15.out.1 0 _ rfl, A15.out.1 1 _ rfl, A15.out.1 2 _ rfl, A15.out.1 3 _ rfl, A15.out.1 4 _ rfl, A15.out.1 5 _ rfl, A15.out.1 6 _ rfl, A15.out.1 7 _ rfl, A15.out.1 8 _ rfl⟩
            obtain ⟨x_0, x_1, x_2, x_3, x_4, x_5, x_6, x_7, x_8⟩ : _ ∧ _ ∧ _ ∧ _ ∧ _ ∧ _ ∧ _ ∧ _ ∧ _ := ⟨X15.out.1 0 _ rfl, X15.out.1 1 _ rfl, X15.out.1 2 _ rfl, X15.out.1 3 _ rfl, X15.out.1 4 _ rfl, X15.out.1 5 _ rfl, X15.out.1 6 _ rfl, X15.out.1 7 _ rfl, X15.out.1 8 _ rfl⟩
            go_wp2_with fail
            refine (T2.out _).mono ?_
            rintro e w16 ⟨rfl, hb⟩
            have F16 := Lib.hid (F15.out.on hb)
            have G16 := Lib.hid (G15.out.on hb)
            have A16 := Lib.hid (A15.out.on hb)
            have S16 := Lib.hid (S15.out.on hb)
            have X16 := Lib.hid (X15.out.on hb)
            have B16 := Lib.hid (cbelow_on B15.out hb)
            have hP16 := Lib.hid (HP.out _ _ hP15.out hb)
            clear hb a_0 a_1 a_2 a_3 a_4 a_5 a_6 a_7 a_8 x_0 x_1 x_2 x_3 x_4 x_5 x_6 x_7 x_8 F15 G15 A15 S15 X15 B15 hP15
            clear X16
            go_wp2_with fail
            rw [rounds_succ]
            obtain ⟨s_27, s_28, s_29, s_30, s_31, s_32, s_33, s_34, s_35⟩ : _ ∧ _ ∧ _ ∧ _ ∧ _ ∧ _ ∧ _ ∧ _ ∧ _ := ⟨S16.out.1 27 _ rfl, S16.out.1 28 _ rfl, S16.out.1 29 _ rfl, S16.out.1 30 _ rfl, S16.out.1 31 _ rfl, S16.out.1 32 _ rfl, S16.out.1 33 _ rfl, S16.out.1 34 _ rfl, S16.out.1 35 _ rfl⟩
            go_upto_region 10 with fail
            refine at_code (S := fun W => Blk W w16.heap.size [.int .u32 0, .int .i64 0, .int .u32 0, .int .i64 0, .int .i64 (-1), .int .u16 l, .int .u16 h, .int .u16 0, .int .u16 65535] ∧ Below w16.heap.size w16 W) ⟨Blk.new _ _ _, cbelow_al (Below.refl _ _) _⟩ (fun W17 hW => ?_)
            obtain ⟨hN, hb⟩ := hW
            have F17 := Lib.hid (F16.out.on hb)
            have G17 := Lib.hid (G16.out.on hb)
            have A17 := Lib.hid (A16.out.on hb)
            have S17 := Lib.hid (S16.out.on hb)
            have B17 := Lib.hid (cbelow_on B16.out hb)
            have hP17 := Lib.hid (HP.out _ _ hP16.out hb)
            clear hb s_27 s_28 s_29 s_30 s_31 s_32 s_33 s_34 s_35 F16 G16 A16 S16 B16 hP16
            have X17 := Lib.hid hN
            clear hN
            obtain ⟨x_0, x_1, x_2, x_3, x_4, x_5, x_6, x_7, x_8⟩ : _ ∧ _ ∧ _ ∧ _ ∧ _ ∧ _ ∧ _ ∧ _ ∧ _ := ⟨X17.out.1 0 _ rfl, X17.out.1 1 _ rfl, X17.out.1 2 _ rfl, X17.out.1 3 _ rfl, X17.out.1 4 _ rfl, X17.out.1 5 _ rfl, X17.out.1 6 _ rfl, X17.out.1 7 _ rfl, X17.out.1 8 _ rfl⟩
            go_wp2_with fail
            refine (K3.out _).mono ?_
            rintro e w18 ⟨rfl, hb⟩
            have F18 := Lib.hid (F17.out.on hb)
            have G18 := Lib.hid (G17.out.on hb)
            have A18 := Lib.hid (A17.out.on hb)
            have S18 := Lib.hid (S17.out.on hb)
            have X18 := Lib.hid (X17.out.on hb)
            have B18 := Lib.hid (cbelow_on B17.out hb)
            have hP18 := Lib.hid (HP.out _ _ hP17.out hb)
            clear hb x_0 x_1 x_2 x_3 x_4 x_5 x_6 x_7 x_8 F17 G17 A17 S17 X17 B17 hP17
            obtain ⟨a_0, a_1, a_2, a_3, a_4, a_5, a_6, a_7, a_8⟩ : _ ∧ _ ∧ _ ∧ _ ∧ _ ∧ _ ∧ _ ∧ _ ∧ _ := ⟨A18.out.1 0 _ rfl, A18.out.1 1 _ rfl, A18.out.1 2 _ rfl, A18.out.1 3 _ rfl, A18.out.1 4 _ rfl, A18.out.1 5 _ rfl, A18.out.1 6 _ rfl, A18.out.1 7 _ rfl, A18.out.1 8 _ rfl⟩
            obtain ⟨x_0, x_1, x_2, x_3, x_4, x_5, x_6, x_7, x_8⟩ : _ ∧ _ ∧ _ ∧ _ ∧ _ ∧ _ ∧ _ ∧ _ ∧ _ := ⟨X18.out.1 0 _ rfl, X18.out.1 1 _ rfl, X18.out.1 2 _ rfl, X18.out.1 3 _ rfl, X18.out.1 4 _ rfl, X18.out.1 5 _ rfl, X18.out.1 6 _ rfl, X18.out.1 7 _ rfl, X18.out.1 8 _ rfl⟩
            go_wp2_with fail
            refine (T3.out _).mono ?_
            rintro e w19 ⟨rfl, hb⟩
            have F19 := Lib.hid (F18.out.on hb)
            have G19 := Lib.hid (G18.out.on hb)
            have A19 := Lib.hid (A18.out.on hb)
            have S19 := Lib.hid (S18.out.on hb)
            have X19 := Lib.hid (X18.out.on hb)
            have B19 := Lib.hid (cbelow_on B18.out hb)
            have hP19 := Lib.hid (HP.out _ _ hP18.out hb)
            clear hb a_0 a_1 a_2 a_3 a_4 a_5 a_6 a_7 a_8 x_0 x_1 x_2 x_3 x_4 x_5 x_6 x_7 x_8 F18 G18 A18 S18 X18 B18 hP18
            clear X19
            go_wp2_with fail
            rw [rounds_succ]
            obtain ⟨s_36, s_37, s_38, s_39, s_40, s_41, s_42, s_43, s_44⟩ : _ ∧ _ ∧ _ ∧ _ ∧ _ ∧ _ ∧ _ ∧ _ ∧ _ := ⟨S19.out.1 36 _ rfl, S19.out.1 37 _ rfl, S19.out.1 38 _ rfl, S19.out.1 39 _ rfl, S19.out.1 40 _ rfl, S19.out.1 41 _ rfl, S19.out.1 42 _ rfl, S19.out.1 43 _ rfl, S19.out.1 44 _ rfl⟩
            go_upto_region 10 with fail
            refine at_code (S := fun W => Blk W w19.heap.size [.int .u32 0, .int .i64 0, .int .u32 0, .int .i64 0, .int .i64 (-1), .int .u16 0, .int .u16 65535, .int .u16 u, .int .u16 v] ∧ Below w19.heap.size w19 W) ⟨Blk.new _ _ _, cbelow_al (Below.refl _ _) _⟩ (fun W20 hW => ?_)
            obtain ⟨hN, hb⟩ := hW
            have F20 := Lib.hid (F19.out.on hb)
            have G20 := Lib.hid (G19.out.on hb)
            have A20 := Lib.hid (A19.out.on hb)
            have S20 := Lib.hid (S19.out.on hb)
            have B20 := Lib.hid (cbelow_on B19.out hb)
            have hP20 := Lib.hid (HP.out _ _ hP19.out hb)
            clear hb s_36 s_37 s_38 s_39 s_40 s_41 s_42 s_43 s_44 F19 G19 A19 S19 B19 hP19
            have X20 := Lib.hid hN
            clear hN
            obtain ⟨x_0, x_1, x_2, x_3, x_4, x_5, x_6, x_7, x_8⟩ : _ ∧ _ ∧ _ ∧ _ ∧ _ ∧ _ ∧ _ ∧ _ ∧ _ := ⟨X20.out.1 0 _ rfl, X20.out.1 1 _ rfl, X20.out.1 2 _ rfl, X20.out.1 3 _ rfl, X20.out.1 4 _ rfl, X20.out.1 5 _ rfl, X20.out.1 6 _ rfl, X20.out.1 7 _ rfl, X20.out.1 8 _ rfl⟩
            go_wp2_with fail
            refine (K4.out _).mono ?_
            rintro e w21 ⟨rfl, hb⟩
            have F21 := Lib.hid (F20.out.on hb)
            have G21 := Lib.hid (G20.out.on hb)
            have A21 := Lib.hid (A20.out.on hb)
            have S21 := Lib.hid (S20.out.on hb)
            have X21 := Lib.hid (X20.out.on hb)
            have B21 := Lib.hid (cbelow_on B20.out hb)
            have hP21 := Lib.hid (HP.out _ _ hP20.out hb)
            clear hb x_0 x_1 x_2 x_3 x_4 x_5 x_6 x_7 x_8 F20 G20 A20 S20 X20 B20 hP20
            obtain ⟨a_0, a_1, a_2, a_3, a_4, a_5, a_6, a_7, a_8⟩ : _ ∧ _ ∧ _ ∧ _ ∧ _ ∧ _ ∧ _ ∧ _ ∧ _ := ⟨A21.out.1 0 _ rfl, A21.out.1 1 _ rfl, A21.out.1 2 _ rfl, A21.out.1 3 _ rfl, A21.out.1 4 _ rfl, A21.out.1 5 _ rfl, A21.out.1 6 _ rfl, A21.out.1 7 _ rfl, A21.out.1 8 _ rfl⟩
            obtain ⟨x_0, x_1, x_2, x_3, x_4, x_5, x_6, x_7, x_8⟩ : _ ∧ _ ∧ _ ∧ _ ∧ _ ∧ _ ∧ _ ∧ _ ∧ _ := ⟨X21.out.1 0 _ rfl, X21.out.1 1 _ rfl, X21.out.1 2 _ rfl, X21.out.1 3 _ rfl, X21.out.1 4 _ rfl, X21.out.1 5 _ rfl, X21.out.1 6 _ rfl, X21.out.1 7 _ rfl, X21.out.1 8 _ rfl⟩
            go_wp2_with fail
            refine (T4.out _).mono ?_
            rintro e w22 ⟨rfl, hb⟩
            have F22 := Lib.hid (F21.out.on hb)
            have G22 := Lib.hid (G21.out.on hb)
            have A22 := Lib.hid (A21.out.on hb)
            have S22 := Lib.hid (S21.out.on hb)
            have X22 := Lib.hid (X21.out.on hb)
            have B22 := Lib.hid (cbelow_on B21.out hb)
            have hP22 := Lib.hid (HP.out _ _ hP21.out hb)
            clear hb a_0 a_1 a_2 a_3 a_4 a_5 a_6 a_7 a_8 x_0 x_1 x_2 x_3 x_4 x_5 x_6 x_7 x_8 F21 G21 A21 S21 X21 B21 hP21
            clear X22
            go_wp2_with fail
            rw [rounds_succ]
            go_wp2_with fail
            refine (AW.out _ hP22.out).mono ?_
            rintro e w23 ⟨rfl, hb⟩
            have F23 := Lib.hid (F22.out.on hb)
            have G23 := Lib.hid (G22.out.on hb)
            have A23 := Lib.hid (A22.out.on hb)
            have S23 := Lib.hid (S22.out.on hb)
            have B23 := Lib.hid (cbelow_on B22.out hb)
            have hP23 := Lib.hid (HP.out _ _ hP22.out hb)
            clear hb F22 G22 A22 S22 B22 hP22
            obtain ⟨f_0, f_1, f_2, f_3, f_4, f_5, f_6, f_7, f_8⟩ : _ ∧ _ ∧ _ ∧ _ ∧ _ ∧ _ ∧ _ ∧ _ ∧ _ := ⟨F23.out.1 0 _ rfl, F23.out.1 1 _ rfl, F23.out.1 2 _ rfl, F23.out.1 3 _ rfl, F23.out.1 4 _ rfl, F23.out.1 5 _ rfl, F23.out.1 6 _ rfl, F23.out.1 7 _ rfl, F23.out.1 8 _ rfl⟩
            obtain ⟨g_0, g_1, g_2, g_3, g_4⟩ : _ ∧ _ ∧ _ ∧ _ ∧ _ := ⟨G23.out.1 0 _ rfl, G23.out.1 1 _ rfl, G23.out.1 2 _ rfl, G23.out.1 3 _ rfl, G23.out.1 4 _ rfl⟩
            go_wp2_with fail
            refine (NM.out _).mono ?_
            rintro e w24 ⟨rfl, hb⟩
            have F24 := Lib.hid (F23.out.on hb)
            have G24 := Lib.hid (G23.out.on hb)
            have A24 := Lib.hid (A23.out.on hb)
            have S24 := Lib.hid (S23.out.on hb)
            have B24 := Lib.hid (cbelow_on B23.out hb)
            have hP24 := Lib.hid (HP.out _ _ hP23.out hb)
            clear hb f_0 f_1 f_2 f_3 f_4 f_5 f_6 f_7 f_8 g_0 g_1 g_2 g_3 g_4 F23 G23 A23 S23 B23 hP23
            go_wp2
            go_ret
            have := hM.out
            simp at this
            subst this
            exact ⟨rfl, B24.out⟩
          · go_wp2_with fail
            rw [rounds_succ]
            obtain ⟨s_18, s_19, s_20, s_21, s_22, s_23, s_24, s_25, s_26⟩ : _ ∧ _ ∧ _ ∧ _ ∧ _ ∧ _ ∧ _ ∧ _ ∧ _ := ⟨S13.out.1 18 _ rfl, S13.out.1 19 _ rfl, S13.out.1 20 _ rfl, S13.out.1 21 _ rfl, S13.out.1 22 _ rfl, S13.out.1 23 _ rfl, S13.out.1 24 _ rfl, S13.out.1 25 _ rfl, S13.out.1 26 _ rfl⟩
            go_upto_region 10 with fail
            refine at_code (S := fun W => Blk W w13.heap.size [.int .u32 0, .int .i64 0, .int .u32 0, .int .i64 0, .int .i64 p, .int .u16 0, .int .u16 65535, .int .u16 0, .int .u16 65535] ∧ Below w13.heap.size w13 W) ⟨Blk.new _ _ _, cbelow_al (Below.refl _ _) _⟩ (fun W14 hW => ?_)
            obtain ⟨hN, hb⟩ := hW
            have F14 := Lib.hid (F13.out.on hb)
            have G14 := Lib.hid (G13.out.on hb)
            have A14 := Lib.hid (A13.out.on hb)
            have S14 := Lib.hid (S13.out.on hb)
            have B14 := Lib.hid (cbelow_on B13.out hb)
            have hP14 := Lib.hid (HP.out _ _ hP13.out hb)
            clear hb s_18 s_19 s_20 s_21 s_22 s_23 s_24 s_25 s_26 F13 G13 A13 S13 B13 hP13
            have X14 := Lib.hid hN
            clear hN
            obtain ⟨x_0, x_1, x_2, x_3, x_4, x_5, x_6, x_7, x_8⟩ : _ ∧ _ ∧ _ ∧ _ ∧ _ ∧ _ ∧ _ ∧ _ ∧ _ := ⟨X14.out.1 0 _ rfl, X14.out.1 1 _ rfl, X14.out.1 2 _ rfl, X14.out.1 3 _ rfl, X14.out.1 4 _ rfl, X14.out.1 5 _ rfl, X14.out.1 6 _ rfl, X14.out.1 7 _ rfl, X14.out.1 8 _ rfl⟩
            go_wp2_with fail
            refine (K2.out _).mono ?_
            rintro e w15 ⟨rfl, hb⟩
            have F15 := Lib.hid (F14.out.on hb)
            have G15 := Lib.hid (G14.out.on hb)
            have A15 := Lib.hid (A14.out.on hb)
            have S15 := Lib.hid (S14.out.on hb)
            have X15 := Lib.hid (X14.out.on hb)
            have B15 := Lib.hid (cbelow_on B14.out hb)
            have hP15 := Lib.hid (HP.out _ _ hP14.out hb)
            clear hb x_0 x_1 x_2 x_3 x_4 x_5 x_6 x_7 x_8 F14 G14 A14 S14 X14 B14 hP14
            obtain ⟨a_0, a_1, a_2, a_3, a_4, a_5, a_6, a_7, a_8⟩ : _ ∧ _ ∧ _ ∧ _ ∧ _ ∧ _ ∧ _ ∧ _ ∧ _ := ⟨A15.out.1 0 _ rfl, A15.out.1 1 _ rfl, A15.out.1 2 _ rfl, A15.out.1 3 _ rfl, A15.out.1 4 _ rfl, A15.out.1 5 _ rfl, A15.out.1 6 _ rfl, A15.out.1 7 _ rfl, A15.out.1 8 _ rfl⟩
            obtain ⟨x_0, x_1, x_2, x_3, x_4, x_5, x_6, x_7, x_8⟩ : _ ∧ _ ∧ _ ∧ _ ∧ _ ∧ _ ∧ _ ∧ _ ∧ _ := ⟨X15.out.1 0 _ rfl, X15.out.1 1 _ rfl, X15.out.1 2 _ rfl, X15.out.1 3 _ rfl, X15.out.1 4 _ rfl, X15.out.1 5 _ rfl, X15.out.1 6 _ rfl, X15.out.1 7 _ rfl, X15.out.1 8 _ rfl⟩
            go_wp2_with fail
            refine (T2.out _).mono ?_
            rintro e w16 ⟨rfl, hb⟩
            have F16 := Lib.hid (F15.out.on hb)
            have G16 := Lib.hid (G15.out.on hb)
            have A16 := Lib.hid (A15.out.on hb)
            have S16 := Lib.hid (S15.out.on hb)
            have X16 := Lib.hid (X15.out.on hb)
            have B16 := Lib.hid (cbelow_on B15.out hb)
            have hP16 := Lib.hid (HP.out _ _ hP15.out hb)
            clear hb a_0 a_1 a_2 a_3 a_4 a_5 a_6 a_7 a_8 x_0 x_1 x_2 x_3 x_4 x_5 x_6 x_7 x_8 F15 G15 A15 S15 X15 B15 hP15
            obtain ⟨g_0, g_1, g_2, g_3, g_4⟩ : _ ∧ _ ∧ _ ∧ _ ∧ _ := ⟨G16.out.1 0 _ rfl, G16.out.1 1 _ rfl, G16.out.1 2 _ rfl, G16.out.1 3 _ rfl, G16.out.1 4 _ rfl⟩
            obtain ⟨x_0, x_1, x_2, x_3, x_4, x_5, x_6, x_7, x_8⟩ : _ ∧ _ ∧ _ ∧ _ ∧ _ ∧ _ ∧ _ ∧ _ ∧ _ := ⟨X16.out.1 0 _ rfl, X16.out.1 1 _ rfl, X16.out.1 2 _ rfl, X16.out.1 3 _ rfl, X16.out.1 4 _ rfl, X16.out.1 5 _ rfl, X16.out.1 6 _ rfl, X16.out.1 7 _ rfl, X16.out.1 8 _ rfl⟩
            go_wp2_with fail
            refine (N2.out _).mono ?_
            rintro e w17 ⟨rfl, hb⟩
            have F17 := Lib.hid (F16.out.on hb)
            have G17 := Lib.hid (G16.out.on hb)
            have A17 := Lib.hid (A16.out.on hb)
            have S17 := Lib.hid (S16.out.on hb)
            have X17 := Lib.hid (X16.out.on hb)
            have B17 := Lib.hid (cbelow_on B16.out hb)
            have hP17 := Lib.hid (HP.out _ _ hP16.out hb)
            clear hb g_0 g_1 g_2 g_3 g_4 x_0 x_1 x_2 x_3 x_4 x_5 x_6 x_7 x_8 F16 G16 A16 S16 X16 B16 hP16
            clear X17
            cases M2
            · go_wp2_with fail
              rw [rounds_succ]
              obtain ⟨s_27, s_28, s_29, s_30, s_31, s_32, s_33, s_34, s_35⟩ : _ ∧ _ ∧ _ ∧ _ ∧ _ ∧ _ ∧ _ ∧ _ ∧ _ := ⟨S17.out.1 27 _ rfl, S17.out.1 28 _ rfl, S17.out.1 29 _ rfl, S17.out.1 30 _ rfl, S17.out.1 31 _ rfl, S17.out.1 32 _ rfl, S17.out.1 33 _ rfl, S17.out.1 34 _ rfl, S17.out.1 35 _ rfl⟩
              go_upto_region 10 with fail
              refine at_code (S := fun W => Blk W w17.heap.size [.int .u32 0, .int .i64 0, .int .u32 0, .int .i64 0, .int .i64 (-1), .int .u16 l, .int .u16 h, .int .u16 0, .int .u16 65535] ∧ Below w17.heap.size w17 W) ⟨Blk.new _ _ _, cbelow_al (Below.refl _ _) _⟩ (fun W18 hW => ?_)
              obtain ⟨hN, hb⟩ := hW
              have F18 := Lib.hid (F17.out.on hb)
              have G18 := Lib.hid (G17.out.on hb)
              have A18 := Lib.hid (A17.out.on hb)
              have S18 := Lib.hid (S17.out.on hb)
              have B18 := Lib.hid (cbelow_on B17.out hb)
              have hP18 := Lib.hid (HP.out _ _ hP17.out hb)
              clear hb s_27 s_28 s_29 s_30 s_31 s_32 s_33 s_34 s_35 F17 G17 A17 S17 B17 hP17
              have X18 := Lib.hid hN
              clear hN
              obtain ⟨x_0, x_1, x_2, x_3, x_4, x_5, x_6, x_7, x_8⟩ : _ ∧ _ ∧ _ ∧ _ ∧ _ ∧ _ ∧ _ ∧ _ ∧ _ := ⟨X18.out.1 0 _ rfl, X18.out.1 1 _ rfl, X18.out.1 2 _ rfl, X18.out.1 3 _ rfl, X18.out.1 4 _ rfl, X18.out.1 5 _ rfl, X18.out.1 6 _ rfl, X18.out.1 7 _ rfl, X18.out.1 8 _ rfl⟩
              go_wp2_with fail
              refine (K3.out _).mono ?_
              rintro e w19 ⟨rfl, hb⟩
              have F19 := Lib.hid (F18.out.on hb)
              have G19 := Lib.hid (G18.out.on hb)
              have A19 := Lib.hid (A18.out.on hb)
              have S19 := Lib.hid (S18.out.on hb)
              have X19 := Lib.hid (X18.out.on hb)
              have B19 := Lib.hid (cbelow_on B18.out hb)
              have hP19 := Lib.hid (HP.out _ _ hP18.out hb)
              clear hb x_0 x_1 x_2 x_3 x_4 x_5 x_6 x_7 x_8 F18 G18 A18 S18 X18 B18 hP18
              obtain ⟨a_0, a_1, a_2, a_3, a_4, a_5, a_6, a_7, a_8⟩ : _ ∧ _ ∧ _ ∧ _ ∧ _ ∧ _ ∧ _ ∧ _ ∧ _ := ⟨A19.out.1 0 _ rfl, A19.out.1 1 _ rfl, A19.out.1 2 _ rfl, A19.out.1 3 _ rfl, A19.out.1 4 _ rfl, A19.out.1 5 _ rfl, A19.out.1 6 _ rfl, A19.out.1 7 _ rfl, A19.out.1 8 _ rfl⟩
              obtain ⟨x_0, x_1, x_2, x_3, x_4, x_5, x_6, x_7, x_8⟩ : _ ∧ _ ∧ _ ∧ _ ∧ _ ∧ _ ∧ _ ∧ _ ∧ _ := ⟨X19.out.1 0 _ rfl, X19.out.1 1 _ rfl, X19.out.1 2 _ rfl, X19.out.1 3 _ rfl, X19.out.1 4 _ rfl, X19.out.1 5 _ rfl, X19.out.1 6 _ rfl, X19.out.1 7 _ rfl, X19.out.1 8 _ rfl⟩
              go_wp2_with fail
              refine (T3.out _).mono ?_
              rintro e w20 ⟨rfl, hb⟩
              have F20 := Lib.hid (F19.out.on hb)
              have G20 := Lib.hid (G19.out.on hb)
              have A20 := Lib.hid (A19.out.on hb)
              have S20 := Lib.hid (S19.out.on hb)
              have X20 := Lib.hid (X19.out.on hb)
              have B20 := Lib.hid (cbelow_on B19.out hb)
              have hP20 := Lib.hid (HP.out _ _ hP19.out hb)
              clear hb a_0 a_1 a_2 a_3 a_4 a_5 a_6 a_7 a_8 x_0 x_1 x_2 x_3 x_4 x_5 x_6 x_7 x_8 F19 G19 A19 S19 X19 B19 hP19
              clear X20
              go_wp2_with fail
              rw [rounds_succ]
              obtain ⟨s_36, s_37, s_38, s_39, s_40, s_41, s_42, s_43, s_44⟩ : _ ∧ _ ∧ _ ∧ _ ∧ _ ∧ _ ∧ _ ∧ _ ∧ _ := ⟨S20.out.1 36 _ rfl, S20.out.1 37 _ rfl, S20.out.1 38 _ rfl, S20.out.1 39 _ rfl, S20.out.1 40 _ rfl, S20.out.1 41 _ rfl, S20.out.1 42 _ rfl, S20.out.1 43 _ rfl, S20.out.1 44 _ rfl⟩
              go_upto_region 10 with fail
              refine at_code (S := fun W => Blk W w20.heap.size [.int .u32 0, .int .i64 0, .int .u32 0, .int .i64 0, .int .i64 (-1), .int .u16 0, .int .u16 65535, .int .u16 u, .int .u16 v] ∧ Below w20.heap.size w20 W) ⟨Blk.new _ _ _, cbelow_al (Below.refl _ _) _⟩ (fun W21 hW => ?_)
              obtain ⟨hN, hb⟩ := hW
              have F21 := Lib.hid (F20.out.on hb)
              have G21 := Lib.hid (G20.out.on hb)
              have A21 := Lib.hid (A20.out.on hb)
              have S21 := Lib.hid (S20.out.on hb)
              have B21 := Lib.hid (cbelow_on B20.out hb)
              have hP21 := Lib.hid (HP.out _ _ hP20.out hb)
              clear hb s_36 s_37 s_38 s_39 s_40 s_41 s_42 s_43 s_44 F20 G20 A20 S20 B20 hP20
              have X21 := Lib.hid hN
              clear hN
              obtain ⟨x_0, x_1, x_2, x_3, x_4, x_5, x_6, x_7, x_8⟩ : _ ∧ _ ∧ _ ∧ _ ∧ _ ∧ _ ∧ _ ∧ _ ∧ _ := ⟨X21.out.1 0 _ rfl, X21.out.1 1 _ rfl, X21.out.1 2 _ rfl, X21.out.1 3 _ rfl, X21.out.1 4 _ rfl, X21.out.1 5 _ rfl, X21.out.1 6 _ rfl, X21.out.1 7 _ rfl, X21.out.1 8 _ rfl⟩
              go_wp2_with fail
              refine (K4.out _).mono ?_
              rintro e w22 ⟨rfl, hb⟩
              have F22 := Lib.hid (F21.out.on hb)
              have G22 := Lib.hid (G21.out.on hb)
              have A22 := Lib.hid (A21.out.on hb)
              have S22 := Lib.hid (S21.out.on hb)
              have X22 := Lib.hid (X21.out.on hb)
              have B22 := Lib.hid (cbelow_on B21.out hb)
              have hP22 := Lib.hid (HP.out _ _ hP21.out hb)
              clear hb x_0 x_1 x_2 x_3 x_4 x_5 x_6 x_7 x_8 F21 G21 A21 S21 X21 B21 hP21
              obtain ⟨a_0, a_1, a_2, a_3, a_4, a_5, a_6, a_7, a_8⟩ : _ ∧ _ ∧ _ ∧ _ ∧ _ ∧ _ ∧ _ ∧ _ ∧ _ := ⟨A22.out.1 0 _ rfl, A22.out.1 1 _ rfl, A22.out.1 2 _ rfl, A22.out.1 3 _ rfl, A22.out.1 4 _ rfl, A22.out.1 5 _ rfl, A22.out.1 6 _ rfl, A22.out.1 7 _ rfl, A22.out.1 8 _ rfl⟩
              obtain ⟨x_0, x_1, x_2, x_3, x_4, x_5, x_6, x_7, x_8⟩ : _ ∧ _ ∧ _ ∧ _ ∧ _ ∧ _ ∧ _ ∧ _ ∧ _ := ⟨X22.out.1 0 _ rfl, X22.out.1 1 _ rfl, X22.out.1 2 _ rfl, X22.out.1 3 _ rfl, X22.out.1 4 _ rfl, X22.out.1 5 _ rfl, X22.out.1 6 _ rfl, X22.out.1 7 _ rfl, X22.out.1 8 _ rfl⟩
              go_wp2_with fail
              refine (T4.out _).mono ?_
              rintro e w23 ⟨rfl, hb⟩
              have F23 := Lib.hid (F22.out.on hb)
              have G23 := Lib.hid (G22.out.on hb)
              have A23 := Lib.hid (A22.out.on hb)
              have S23 := Lib.hid (S22.out.on hb)
              have X23 := Lib.hid (X22.out.on hb)
              have B23 := Lib.hid (cbelow_on B22.out hb)
              have hP23 := Lib.hid (HP.out _ _ hP22.out hb)
              clear hb a_0 a_1 a_2 a_3 a_4 a_5 a_6 a_7 a_8 x_0 x_1 x_2 x_3 x_4 x_5 x_6 x_7 x_8 F22 G22 A22 S22 X22 B22 hP22
              clear X23
              go_wp2_with fail
              rw [rounds_succ]
              go_wp2_with fail
              refine (AW.out _ hP23.out).mono ?_
              rintro e w24 ⟨rfl, hb⟩
              have F24 := Lib.hid (F23.out.on hb)
              have G24 := Lib.hid (G23.out.on hb)
              have A24 := Lib.hid (A23.out.on hb)
              have S24 := Lib.hid (S23.out.on hb)
              have B24 := Lib.hid (cbelow_on B23.out hb)
              have hP24 := Lib.hid (HP.out _ _ hP23.out hb)
              clear hb F23 G23 A23 S23 B23 hP23
              obtain ⟨f_0, f_1, f_2, f_3, f_4, f_5, f_6, f_7, f_8⟩ : _ ∧ _ ∧ _ ∧ _ ∧ _ ∧ _ ∧ _ ∧ _ ∧ _ := ⟨F24.out.1 0 _ rfl, F24.out.1 1 _ rfl, F24.out.1 2 _ rfl, F24.out.1 3 _ rfl, F24.out.1 4 _ rfl, F24.out.1 5 _ rfl, F24.out.1 6 _ rfl, F24.out.1 7 _ rfl, F24.out.1 8 _ rfl⟩
              obtain ⟨g_0, g_1, g_2, g_3, g_4⟩ : _ ∧ _ ∧ _ ∧ _ ∧ _ := ⟨G24.out.1 0 _ rfl, G24.out.1 1 _ rfl, G24.out.1 2 _ rfl, G24.out.1 3 _ rfl, G24.out.1 4 _ rfl⟩
              go_wp2_with fail
              refine (NM.out _).mono ?_
              rintro e w25 ⟨rfl, hb⟩
              have F25 := Lib.hid (F24.out.on hb)
              have G25 := Lib.hid (G24.out.on hb)
              have A25 := Lib.hid (A24.out.on hb)
              have S25 := Lib.hid (S24.out.on hb)
              have B25 := Lib.hid (cbelow_on B24.out hb)
              have hP25 := Lib.hid (HP.out _ _ hP24.out hb)
              clear hb f_0 f_1 f_2 f_3 f_4 f_5 f_6 f_7 f_8 g_0 g_1 g_2 g_3 g_4 F24 G24 A24 S24 B24 hP24
              go_wp2
              go_ret
              have := hM.out
              simp at this
              subst this
              exact ⟨rfl, B25.out⟩
            · go_wp2_with fail
              rw [rounds_succ]
              obtain ⟨s_27, s_28, s_29, s_30, s_31, s_32, s_33, s_34, s_35⟩ : _ ∧ _ ∧ _ ∧ _ ∧ _ ∧ _ ∧ _ ∧ _ ∧ _ := ⟨S17.out.1 27 _ rfl, S17.out.1 28 _ rfl, S17.out.1 29 _ rfl, S17.out.1 30 _ rfl, S17.out.1 31 _ rfl, S17.out.1 32 _ rfl, S17.out.1 33 _ rfl, S17.out.1 34 _ rfl, S17.out.1 35 _ rfl⟩
              go_upto_region 10 with fail
              refine at_code (S := fun W => Blk W w17.heap.size [.int .u32 0, .int .i64 0, .int .u32 0, .int .i64 0, .int .i64 (-1), .int .u16 l, .int .u16 h, .int .u16 0, .int .u16 65535] ∧ Below w17.heap.size w17 W) ⟨Blk.new _ _ _, cbelow_al (Below.refl _ _) _⟩ (fun W18 hW => ?_)
              obtain ⟨hN, hb⟩ := hW
              have F18 := Lib.hid (F17.out.on hb)
              have G18 := Lib.hid (G17.out.on hb)
              have A18 := Lib.hid (A17.out.on hb)
              have S18 := Lib.hid (S17.out.on hb)
              have B18 := Lib.hid (cbelow_on B17.out hb)
              have hP18 := Lib.hid (HP.out _ _ hP17.out hb)
              clear hb s_27 s_28 s_29 s_30 s_31 s_32 s_33 s_34 s_35 F17 G17 A17 S17 B17 hP17
              have X18 := Lib.hid hN
              clear hN
              obtain ⟨x_0, x_1, x_2, x_3, x_4, x_5, x_6, x_7, x_8⟩ : _ ∧ _ ∧ _ ∧ _ ∧ _ ∧ _ ∧ _ ∧ _ ∧ _ := ⟨X18.out.1 0 _ rfl, X18.out.1 1 _ rfl, X18.out.1 2 _ rfl, X18.out.1 3 _ rfl, X18.out.1 4 _ rfl, X18.out.1 5 _ rfl, X18.out.1 6 _ rfl, X18.out.1 7 _ rfl, X18.out.1 8 _ rfl⟩
              go_wp2_with fail
              refine (K3.out _).mono ?_
              rintro e w19 ⟨rfl, hb⟩
              have F19 := Lib.hid (F18.out.on hb)
              have G19 := Lib.hid (G18.out.on hb)
              have A19 := Lib.hid (A18.out.on hb)
              have S19 := Lib.hid (S18.out.on hb)
              have X19 := Lib.hid (X18.out.on hb)
              have B19 := Lib.hid (cbelow_on B18.out hb)
              have hP19 := Lib.hid (HP.out _ _ hP18.out hb)
              clear hb x_0 x_1 x_2 x_3 x_4 x_5 x_6 x_7 x_8 F18 G18 A18 S18 X18 B18 hP18
              obtain ⟨a_0, a_1, a_2, a_3, a_4, a_5, a_6, a_7, a_8⟩ : _ ∧ _ ∧ _ ∧ _ ∧ _ ∧ _ ∧ _ ∧ _ ∧ _ := ⟨A19.out.1 0 _ rfl, A19.out.1 1 _ rfl, A19.out.1 2 _ rfl, A19.out.1 3 _ rfl, A19.out.1 4 _ rfl, A19.out.1 5 _ rfl, A19.out.1 6 _ rfl, A19.out.1 7 _ rfl, A19.out.1 8 _ rfl⟩
              obtain ⟨x_0, x_1, x_2, x_3, x_4, x_5, x_6, x_7, x_8⟩ : _ ∧ _ ∧ _ ∧ _ ∧ _ ∧ _ ∧ _ ∧ _ ∧ _ := ⟨X19.out.1 0 _ rfl, X19.out.1 1 _ rfl, X19.out.1 2 _ rfl, X19.out.1 3 _ rfl, X19.out.1 4 _ rfl, X19.out.1 5 _ rfl, X19.out.1 6 _ rfl, X19.out.1 7 _ rfl, X19.out.1 8 _ rfl⟩
              go_wp2_with fail
              refine (T3.out _).mono ?_
              rintro e w20 ⟨rfl, hb⟩
              have F20 := Lib.hid (F19.out.on hb)
              have G20 := Lib.hid (G19.out.on hb)
              have A20 := Lib.hid (A19.out.on hb)
              have S20 := Lib.hid (S19.out.on hb)
              have X20 := Lib.hid (X19.out.on hb)
              have B20 := Lib.hid (cbelow_on B19.out hb)
              have hP20 := Lib.hid (HP.out _ _ hP19.out hb)
              clear hb a_0 a_1 a_2 a_3 a_4 a_5 a_6 a_7 a_8 x_0 x_1 x_2 x_3 x_4 x_5 x_6 x_7 x_8 F19 G19 A19 S19 X19 B19 hP19
              obtain ⟨g_0, g_1, g_2, g_3, g_4⟩ : _ ∧ _ ∧ _ ∧ _ ∧ _ := ⟨G20.out.1 0 _ rfl, G20.out.1 1 _ rfl, G20.out.1 2 _ rfl, G20.out.1 3 _ rfl, G20.out.1 4 _ rfl⟩
              obtain ⟨x_0, x_1, x_2, x_3, x_4, x_5, x_6, x_7, x_8⟩ : _ ∧ _ ∧ _ ∧ _ ∧ _ ∧ _ ∧ _ ∧ _ ∧ _ := ⟨X20.out.1 0 _ rfl, X20.out.1 1 _ rfl, X20.out.1 2 _ rfl, X20.out.1 3 _ rfl, X20.out.1 4 _ rfl, X20.out.1 5 _ rfl, X20.out.1 6 _ rfl, X20.out.1 7 _ rfl, X20.out.1 8 _ rfl⟩
              go_wp2_with fail
              refine (N3.out _).mono ?_
              rintro e w21 ⟨rfl, hb⟩
              have F21 := Lib.hid (F20.out.on hb)
              have G21 := Lib.hid (G20.out.on hb)
              have A21 := Lib.hid (A20.out.on hb)
              have S21 := Lib.hid (S20.out.on hb)
              have X21 := Lib.hid (X20.out.on hb)
              have B21 := Lib.hid (cbelow_on B20.out hb)
              have hP21 := Lib.hid (HP.out _ _ hP20.out hb)
              clear hb g_0 g_1 g_2 g_3 g_4 x_0 x_1 x_2 x_3 x_4 x_5 x_6 x_7 x_8 F20 G20 A20 S20 X20 B20 hP20
              clear X21
              cases M3
              · go_wp2_with fail
                rw [rounds_succ]
                obtain ⟨s_36, s_37, s_38, s_39, s_40, s_41, s_42, s_43, s_44⟩ : _ ∧ _ ∧ _ ∧ _ ∧ _ ∧ _ ∧ _ ∧ _ ∧ _ := ⟨S21.out.1 36 _ rfl, S21.out.1 37 _ rfl, S21.out.1 38 _ rfl, S21.out.1 39 _ rfl, S21.out.1 40 _ rfl, S21.out.1 41 _ rfl, S21.out.1 42 _ rfl, S21.out.1 43 _ rfl, S21.out.1 44 _ rfl⟩
                go_upto_region 10 with fail
                refine at_code (S := fun W => Blk W w21.heap.size [.int .u32 0, .int .i64 0, .int .u32 0, .int .i64 0, .int .i64 (-1), .int .u16 0, .int .u16 65535, .int .u16 u, .int .u16 v] ∧ Below w21.heap.size w21 W) ⟨Blk.new _ _ _, cbelow_al (Below.refl _ _) _⟩ (fun W22 hW => ?_)
                obtain ⟨hN, hb⟩ := hW
                have F22 := Lib.hid (F21.out.on hb)
                have G22 := Lib.hid (G21.out.on hb)
                have A22 := Lib.hid (A21.out.on hb)
                have S22 := Lib.hid (S21.out.on hb)
                have B22 := Lib.hid (cbelow_on B21.out hb)
                have hP22 := Lib.hid (HP.out _ _ hP21.out hb)
                clear hb s_36 s_37 s_38 s_39 s_40 s_41 s_42 s_43 s_44 F21 G21 A21 S21 B21 hP21
                have X22 := Lib.hid hN
                clear hN
                obtain ⟨x_0, x_1, x_2, x_3, x_4, x_5, x_6, x_7, x_8⟩ : _ ∧ _ ∧ _ ∧ _ ∧ _ ∧ _ ∧ _ ∧ _ ∧ _ := ⟨X22.out.1 0 _ rfl, X22.out.1 1 _ rfl, X22.out.1 2 _ rfl, X22.out.1 3 _ rfl, X22.out.1 4 _ rfl, X22.out.1 5 _ rfl, X22.out.1 6 _ rfl, X22.out.1 7 _ rfl, X22.out.1 8 _ rfl⟩
                go_wp2_with fail
                refine (K4.out _).mono ?_
                rintro e w23 ⟨rfl, hb⟩
                have F23 := Lib.hid (F22.out.on hb)
                have G23 := Lib.hid (G22.out.on hb)
                have A23 := Lib.hid (A22.out.on hb)
                have S23 := Lib.hid (S22.out.on hb)
                have X23 := Lib.hid (X22.out.on hb)
                have B23 := Lib.hid (cbelow_on B22.out hb)
                have hP23 := Lib.hid (HP.out _ _ hP22.out hb)
                clear hb x_0 x_1 x_2 x_3 x_4 x_5 x_6 x_7 x_8 F22 G22 A22 S22 X22 B22 hP22
                obtain ⟨a_0, a_1, a_2, a_3, a_4, a_5, a_6, a_7, a_8⟩ : _ ∧ _ ∧ _ ∧ _ ∧ _ ∧ _ ∧ _ ∧ _ ∧ _ := ⟨A23.out.1 0 _ rfl, A23.out.1 1 _ rfl, A23.out.1 2 _ rfl, A23.out.1 3 _ rfl, A23.out.1 4 _ rfl, A23.out.1 5 _ rfl, A23.out.1 6 _ rfl, A23.out.1 7 _ rfl, A23.out.1 8 _ rfl⟩
                obtain ⟨x_0, x_1, x_2, x_3, x_4, x_5, x_6, x_7, x_8⟩ : _ ∧ _ ∧ _ ∧ _ ∧ _ ∧ _ ∧ _ ∧ _ ∧ _ := ⟨X23.out.1 0 _ rfl, X23.out.1 1 _ rfl, X23.out.1 2 _ rfl, X23.out.1 3 _ rfl, X23.out.1 4 _ rfl, X23.out.1 5 _ rfl, X23.out.1 6 _ rfl, X23.out.1 7 _ rfl, X23.out.1 8 _ rfl⟩
                go_wp2_with fail
                refine (T4.out _).mono ?_
                rintro e w24 ⟨rfl, hb⟩
                have F24 := Lib.hid (F23.out.on hb)
                have G24 := Lib.hid (G23.out.on hb)
                have A24 := Lib.hid (A23.out.on hb)
                have S24 := Lib.hid (S23.out.on hb)
                have X24 := Lib.hid (X23.out.on hb)
                have B24 := Lib.hid (cbelow_on B23.out hb)
                have hP24 := Lib.hid (HP.out _ _ hP23.out hb)
                clear hb a_0 a_1 a_2 a_3 a_4 a_5 a_6 a_7 a_8 x_0 x_1 x_2 x_3 x_4 x_5 x_6 x_7 x_8 F23 G23 A23 S23 X23 B23 hP23
                clear X24
                go_wp2_with fail
                rw [rounds_succ]
                go_wp2_with fail
                refine (AW.out _ hP24.out).mono ?_
                rintro e w25 ⟨rfl, hb⟩
                have F25 := Lib.hid (F24.out.on hb)
                have G25 := Lib.hid (G24.out.on hb)
                have A25 := Lib.hid (A24.out.on hb)
                have S25 := Lib.hid (S24.out.on hb)
                have B25 := Lib.hid (cbelow_on B24.out hb)
                have hP25 := Lib.hid (HP.out _ _ hP24.out hb)
                clear hb F24 G24 A24 S24 B24 hP24
                obtain ⟨f_0, f_1, f_2, f_3, f_4, f_5, f_6, f_7, f_8⟩ : _ ∧ _ ∧ _ ∧ _ ∧ _ ∧ _ ∧ _ ∧ _ ∧ _ := ⟨F25.out.1 0 _ rfl, F25.out.1 1 _ rfl, F25.out.1 2 _ rfl, F25.out.1 3 _ rfl, F25.out.1 4 _ rfl, F25.out.1 5 _ rfl, F25.out.1 6 _ rfl, F25.out.1 7 _ rfl, F25.out.1 8 _ rfl⟩
                obtain ⟨g_0, g_1, g_2, g_3, g_4⟩ : _ ∧ _ ∧ _ ∧ _ ∧ _ := ⟨G25.out.1 0 _ rfl, G25.out.1 1 _ rfl, G25.out.1 2 _ rfl, G25.out.1 3 _ rfl, G25.out.1 4 _ rfl⟩
                go_wp2_with fail
                refine (NM.out _).mono ?_
                rintro e w26 ⟨rfl, hb⟩
                have F26 := Lib.hid (F25.out.on hb)
                have G26 := Lib.hid (G25.out.on hb)
                have A26 := Lib.hid (A25.out.on hb)
                have S26 := Lib.hid (S25.out.on hb)
                have B26 := Lib.hid (cbelow_on B25.out hb)
                have hP26 := Lib.hid (HP.out _ _ hP25.out hb)
                clear hb f_0 f_1 f_2 f_3 f_4 f_5 f_6 f_7 f_8 g_0 g_1 g_2 g_3 g_4 F25 G25 A25 S25 B25 hP25
                go_wp2
                go_ret
                have := hM.out
                simp at this
                subst this
                exact ⟨rfl, B26.out⟩
              · go_wp2_with fail
                rw [rounds_succ]
                obtain ⟨s_36, s_37, s_38, s_39, s_40, s_41, s_42, s_43, s_44⟩ : _ ∧ _ ∧ _ ∧ _ ∧ _ ∧ _ ∧ _ ∧ _ ∧ _ := ⟨S21.out.1 36 _ rfl, S21.out.1 37 _ rfl, S21.out.1 38 _ rfl, S21.out.1 39 _ rfl, S21.out.1 40 _ rfl, S21.out.1 41 _ rfl, S21.out.1 42 _ rfl, S21.out.1 43 _ rfl, S21.out.1 44 _ rfl⟩
                go_upto_region 10 with fail
                refine at_code (S := fun W => Blk W w21.heap.size [.int .u32 0, .int .i64 0, .int .u32 0, .int .i64 0, .int .i64 (-1), .int .u16 0, .int .u16 65535, .int .u16 u, .int .u16 v] ∧ Below w21.heap.size w21 W) ⟨Blk.new _ _ _, cbelow_al (Below.refl _ _) _⟩ (fun W22 hW => ?_)
                obtain ⟨hN, hb⟩ := hW
                have F22 := Lib.hid (F21.out.on hb)
                have G22 := Lib.hid (G21.out.on hb)
                have A22 := Lib.hid (A21.out.on hb)
                have S22 := Lib.hid (S21.out.on hb)
                have B22 := Lib.hid (cbelow_on B21.out hb)
                have hP22 := Lib.hid (HP.out _ _ hP21.out hb)
                clear hb s_36 s_37 s_38 s_39 s_40 s_41 s_42 s_43 s_44 F21 G21 A21 S21 B21 hP21
                have X22 := Lib.hid hN
                clear hN
                obtain ⟨x_0, x_1, x_2, x_3, x_4, x_5, x_6, x_7, x_8⟩ : _ ∧ _ ∧ _ ∧ _ ∧ _ ∧ _ ∧ _ ∧ _ ∧ _ := ⟨X22.out.1 0 _ rfl, X22.out.1 1 _ rfl, X22.out.1 2 _ rfl, X22.out.1 3 _ rfl, X22.out.1 4 _ rfl, X22.out.1 5 _ rfl, X22.out.1 6 _ rfl, X22.out.1 7 _ rfl, X22.out.1 8 _ rfl⟩
                go_wp2_with fail
                refine (K4.out _).mono ?_
                rintro e w23 ⟨rfl, hb⟩
                have F23 := Lib.hid (F22.out.on hb)
                have G23 := Lib.hid (G22.out.on hb)
                have A23 := Lib.hid (A22.out.on hb)
                have S23 := Lib.hid (S22.out.on hb)
                have X23 := Lib.hid (X22.out.on hb)
                have B23 := Lib.hid (cbelow_on B22.out hb)
                have hP23 := Lib.hid (HP.out _ _ hP22.out hb)
                clear hb x_0 x_1 x_2 x_3 x_4 x_5 x_6 x_7 x_8 F22 G22 A22 S22 X22 B22 hP22
                obtain ⟨a_0, a_1, a_2, a_3, a_4, a_5, a_6, a_7, a_8⟩ : _ ∧ _ ∧ _ ∧ _ ∧ _ ∧ _ ∧ _ ∧ _ ∧ _ := ⟨A23.out.1 0 _ rfl, A23.out.1 1 _ rfl, A23.out.1 2 _ rfl, A23.out.1 3 _ rfl, A23.out.1 4 _ rfl, A23.out.1 5 _ rfl, A23.out.1 6 _ rfl, A23.out.1 7 _ rfl, A23.out.1 8 _ rfl⟩
                obtain ⟨x_0, x_1, x_2, x_3, x_4, x_5, x_6, x_7, x_8⟩ : _ ∧ _ ∧ _ ∧ _ ∧ _ ∧ _ ∧ _ ∧ _ ∧ _ := ⟨X23.out.1 0 _ rfl, X23.out.1 1 _ rfl, X23.out.1 2 _ rfl, X23.out.1 3 _ rfl, X23.out.1 4 _ rfl, X23.out.1 5 _ rfl, X23.out.1 6 _ rfl, X23.out.1 7 _ rfl, X23.out.1 8 _ rfl⟩
                go_wp2_with fail
                refine (T4.out _).mono ?_
                rintro e w24 ⟨rfl, hb⟩
                have F24 := Lib.hid (F23.out.on hb)
                have G24 := Lib.hid (G23.out.on hb)
                have A24 := Lib.hid (A23.out.on hb)
                have S24 := Lib.hid (S23.out.on hb)
                have X24 := Lib.hid (X23.out.on hb)
                have B24 := Lib.hid (cbelow_on B23.out hb)
                have hP24 := Lib.hid (HP.out _ _ hP23.out hb)
                clear hb a_0 a_1 a_2 a_3 a_4 a_5 a_6 a_7 a_8 x_0 x_1 x_2 x_3 x_4 x_5 x_6 x_7 x_8 F23 G23 A23 S23 X23 B23 hP23
                obtain ⟨g_0, g_1, g_2, g_3, g_4⟩ : _ ∧ _ ∧ _ ∧ _ ∧ _ := ⟨G24.out.1 0 _ rfl, G24.out.1 1 _ rfl, G24.out.1 2 _ rfl, G24.out.1 3 _ rfl, G24.out.1 4 _ rfl⟩
                obtain ⟨x_0, x_1, x_2, x_3, x_4, x_5, x_6, x_7, x_8⟩ : _ ∧ _ ∧ _ ∧ _ ∧ _ ∧ _ ∧ _ ∧ _ ∧ _ := ⟨X24.out.1 0 _ rfl, X24.out.1 1 _ rfl, X24.out.1 2 _ rfl, X24.out.1 3 _ rfl, X24.out.1 4 _ rfl, X24.out.1 5 _ rfl, X24.out.1 6 _ rfl, X24.out.1 7 _ rfl, X24.out.1 8 _ rfl⟩
                go_wp2_with fail
                refine (N4.out _).mono ?_
                rintro e w25 ⟨rfl, hb⟩
                have F25 := Lib.hid (F24.out.on hb)
                have G25 := Lib.hid (G24.out.on hb)
                have A25 := Lib.hid (A24.out.on hb)
                have S25 := Lib.hid (S24.out.on hb)
                have X25 := Lib.hid (X24.out.on hb)
                have B25 := Lib.hid (cbelow_on B24.out hb)
                have hP25 := Lib.hid (HP.out _ _ hP24.out hb)
                clear hb g_0 g_1 g_2 g_3 g_4 x_0 x_1 x_2 x_3 x_4 x_5 x_6 x_7 x_8 F24 G24 A24 S24 X24 B24 hP24
                clear X25
                cases M4
                · go_wp2_with fail
                  rw [rounds_succ]
                  go_wp2_with fail
                  refine (AW.out _ hP25.out).mono ?_
                  rintro e w26 ⟨rfl, hb⟩
                  have F26 := Lib.hid (F25.out.on hb)
                  have G26 := Lib.hid (G25.out.on hb)
                  have A26 := Lib.hid (A25.out.on hb)
                  have S26 := Lib.hid (S25.out.on hb)
                  have B26 := Lib.hid (cbelow_on B25.out hb)
                  have hP26 := Lib.hid (HP.out _ _ hP25.out hb)
                  clear hb F25 G25 A25 S25 B25 hP25
                  obtain ⟨f_0, f_1, f_2, f_3, f_4, f_5, f_6, f_7, f_8⟩ : _ ∧ _ ∧ _ ∧ _ ∧ _ ∧ _ ∧ _ ∧ _ ∧ _ := ⟨F26.out.1 0 _ rfl, F26.out.1 1 _ rfl, F26.out.1 2 _ rfl, F26.out.1 3 _ rfl, F26.out.1 4 _ rfl, F26.out.1 5 _ rfl, F26.out.1 6 _ rfl, F26.out.1 7 _ rfl, F26.out.1 8 _ rfl⟩
                  obtain ⟨g_0, g_1, g_2, g_3, g_4⟩ : _ ∧ _ ∧ _ ∧ _ ∧ _ := ⟨G26.out.1 0 _ rfl, G26.out.1 1 _ rfl, G26.out.1 2 _ rfl, G26.out.1 3 _ rfl, G26.out.1 4 _ rfl⟩
                  go_wp2_with fail
                  refine (NM.out _).mono ?_
                  rintro e w27 ⟨rfl, hb⟩
                  have F27 := Lib.hid (F26.out.on hb)
                  have G27 := Lib.hid (G26.out.on hb)
                  have A27 := Lib.hid (A26.out.on hb)
                  have S27 := Lib.hid (S26.out.on hb)
                  have B27 := Lib.hid (cbelow_on B26.out hb)
                  have hP27 := Lib.hid (HP.out _ _ hP26.out hb)
                  clear hb f_0 f_1 f_2 f_3 f_4 f_5 f_6 f_7 f_8 g_0 g_1 g_2 g_3 g_4 F26 G26 A26 S26 B26 hP26
                  go_wp2
                  go_ret
                  have := hM.out
                  simp at this
                  subst this
                  exact ⟨rfl, B27.out⟩
                · go_wp2_with fail
                  rw [rounds_succ]
                  go_wp2_with fail
                  refine (AW.out _ hP25.out).mono ?_
                  rintro e w26 ⟨rfl, hb⟩
                  have F26 := Lib.hid (F25.out.on hb)
                  have G26 := Lib.hid (G25.out.on hb)
                  have A26 := Lib.hid (A25.out.on hb)
                  have S26 := Lib.hid (S25.out.on hb)
                  have B26 := Lib.hid (cbelow_on B25.out hb)
                  have hP26 := Lib.hid (HP.out _ _ hP25.out hb)
                  clear hb F25 G25 A25 S25 B25 hP25
                  obtain ⟨f_0, f_1, f_2, f_3, f_4, f_5, f_6, f_7, f_8⟩ : _ ∧ _ ∧ _ ∧ _ ∧ _ ∧ _ ∧ _ ∧ _ ∧ _ := ⟨F26.out.1 0 _ rfl, F26.out.1 1 _ rfl, F26.out.1 2 _ rfl, F26.out.1 3 _ rfl, F26.out.1 4 _ rfl, F26.out.1 5 _ rfl, F26.out.1 6 _ rfl, F26.out.1 7 _ rfl, F26.out.1 8 _ rfl⟩
                  obtain ⟨g_0, g_1, g_2, g_3, g_4⟩ : _ ∧ _ ∧ _ ∧ _ ∧ _ := ⟨G26.out.1 0 _ rfl, G26.out.1 1 _ rfl, G26.out.1 2 _ rfl, G26.out.1 3 _ rfl, G26.out.1 4 _ rfl⟩
                  go_wp2_with fail
                  refine (NM.out _).mono ?_
                  rintro e w27 ⟨rfl, hb⟩
                  have F27 := Lib.hid (F26.out.on hb)
                  have G27 := Lib.hid (G26.out.on hb)
                  have A27 := Lib.hid (A26.out.on hb)
                  have S27 := Lib.hid (S26.out.on hb)
                  have B27 := Lib.hid (cbelow_on B26.out hb)
                  have hP27 := Lib.hid (HP.out _ _ hP26.out hb)
                  clear hb f_0 f_1 f_2 f_3 f_4 f_5 f_6 f_7 f_8 g_0 g_1 g_2 g_3 g_4 F26 G26 A26 S26 B26 hP26
                  go_wp2
                  go_ret
                  have := hM.out
                  simp at this
                  subst this
                  exact ⟨rfl, B27.out⟩
      · exact ⟨false, false, false, false, false, false, false, false, false, false, false, false, false, false, false, false, false, false, false, false, undef, undef, undef, undef, undef, undef, undef, undef, undef, undef, undef, undef, undef, undef, undef, rfl, rfl, hB.drew, c5_none D0.drew, c5_none D1.drew, c5_none D2.drew, c5_none D3.drew, c5_none D4.drew⟩
    · refine ⟨false, false, false, false, false, false, false, false, false, false, false, false, false, false, false, undef, undef, undef, undef, undef, undef, undef, undef, undef, undef, 0, 0, 0, 0, 0, rfl, rfl, (Below.refl _ _).drew, ch_none _ _, ch_none _ _, ch_none _ _, ch_none _ _, ch_none _ _, (by simp), (by simp), (by simp), (by simp), (by simp), (by simp), (by simp), (by simp), (by simp), (by simp)⟩
  · have e1' : (E != 0) = true := by simp; exact e1
    go_wp2_with fail
    refine (AW.out _ hP1.out).mono ?_
    rintro e w2 ⟨rfl, hb⟩
    have F2 := Lib.hid (F1.out.on hb)
    have G2 := Lib.hid (G1.out.on hb)
    have B2 := Lib.hid (cbelow_on B1.out hb)
    have hP2 := Lib.hid (HP.out _ _ hP1.out hb)
    clear hb f_0 f_1 f_2 f_3 f_4 f_5 f_6 f_7 f_8 g_0 g_1 g_2 g_3 g_4 F1 G1 B1 hP1
    go_wp2
    go_ret
    exact ⟨rfl, B2.out⟩
end Go.Proofs.YtlmeagnegakifaaDoor
