/- What the first entry that a header passes says. -/
import Derived.Test.YtoiopjdbmaffeaaT1
import Derived.Test.YtoiopjdbmaffeaaFK
namespace Go.Proofs.Ytoiopjdbmaffeaa
open Go.RowKit
set_option linter.unusedVariables false

/-- A header's five numbers. -/
structure Hr where
  d : Nat
  s : Nat
  q : Nat
  x : Nat
  y : Nat
structure Hr.Ok (g : Hr) : Prop where
  d : g.d < 4294967296
  s : g.s < 4294967296
  q : g.q < 256
def Hr.val (g : Hr) : Value := hv g.d g.s g.q g.x g.y
def Ac.pass (c : Ac) (g : Hr) : Bool := passB c.a c.n c.b c.m c.p c.l c.h c.u c.v g.d g.s g.q g.x g.y
/-- What the first entry that counts says. -/
def permF (d p : Int) (io : Bool) (g : Hr) : List Ac → Bool
  | [] => true
  | c :: r => if c.i = io ∧ c.x = d ∧ c.y = p ∧ c.pass g = true then c.z else permF d p io g r
set_option maxRecDepth 100000 in
set_option maxHeartbeats 4000000 in
theorem permit_any (es : List Ac) (pa : Option Addr) (np pc : Nat) (la : Option Addr) (nl lc : Nat) (aa : Option Addr) (ac : Nat) (d p0 : Int) (io : Bool) (g : Hr) (hg : g.Ok) (w : World) (he : Rw w aa (es.flatMap Ac.cells)) (hle : es.length < 100000) :
    Calls Try.prog 8 #[tv pa np pc la nl lc aa es.length ac, .int .i64 d, .int .i64 p0, .bool io, g.val] w fun e w' => e = .returned (.bool (permF d p0 io g es)) ∧ Below w.heap.size w w' := by
  obtain ⟨R, hR⟩ : ∃ R, permF d p0 io g es = R := ⟨_, rfl⟩
  rw [hR]
  obtain ⟨W0, hW0⟩ : ∃ W0, (w.alloc (Obj.cells (tc pa np pc la nl lc aa es.length ac).toArray 26)).alloc (Obj.cells (hc g.d g.s g.q g.x g.y).toArray 30) = W0 := ⟨_, rfl⟩
  have hb0 : Below w.heap.size w W0 := by rw [← hW0]; exact cbelow_al (cbelow_al (Below.refl _ _) _) _
  have T0 := Lib.hid (show Blk W0 w.heap.size (tc pa np pc la nl lc aa es.length ac) by rw [← hW0]; exact (Blk.new _ _ _).on (cbelow_al (Below.refl _ _) _))
  have K0 := Lib.hid (show Blk W0 (w.heap.size + 1) (hc g.d g.s g.q g.x g.y) by rw [← hW0]; have k := Blk.new (w.alloc (Obj.cells (tc pa np pc la nl lc aa es.length ac).toArray 26)) 30 (hc g.d g.s g.q g.x g.y); rw [World.size_alloc] at k; exact k)
  have E0 := Lib.hid (he.on hb0)
  have BB := Lib.hid hb0
  have HR := Lib.hid hR
  have HM : Hid (∀ c ∈ es, ∀ w, Calls Try.prog 13 #[fv c.a c.n c.b c.m c.p c.l c.h c.u c.v, g.val] w fun e w' => e = .returned (.bool (c.pass g)) ∧ Below w.heap.size w w') := fun c hc w => fmatch_all c.a c.n c.b c.m c.p c.l c.h c.u c.v g.d g.s g.q g.x g.y hg.d hg.s hg.q w
  clear hb0 hR he
  unfold tc hc at *
  unfold tv Hr.val hv at *
  obtain ⟨na, hna⟩ : ∃ n, es.length = n := ⟨_, rfl⟩
  rw [hna] at T0 hW0 hle ⊢
  go_enter Try.func8, Try.ntmps8
  go_upto_region 1 with fail
  clear hW0
  go_upto_region 2 with fail
  refine at_code (S := fun W => Blk W W0.heap.size [.int .i64 d, .int .i64 p0] ∧ Below W0.heap.size W0 W) ⟨Blk.new _ _ _, cbelow_al (Below.refl _ _) _⟩ (fun W1 hW => ?_)
  obtain ⟨hN, hb⟩ := hW
  have H1 := Lib.hid hN
  have T1 := Lib.hid (T0.out.on hb)
  have K1 := Lib.hid (K0.out.on hb)
  have E1 := Lib.hid (E0.out.on hb)
  have BB1 := Lib.hid (cbelow_on BB.out hb)
  clear hb T0 K0 E0 BB hN
  obtain ⟨t_0, t_1, t_2⟩ : _ ∧ _ ∧ _ := ⟨T1.out.1 0 _ rfl, T1.out.1 1 _ rfl, T1.out.1 2 _ rfl⟩
  go_wp2_with fail
  clear t_0 t_1 t_2
  go_loopw [20] (fun iv wr => ∃ i : Nat, iv = .int .i64 i ∧ i ≤ na ∧ Hid (permF d p0 io g (es.drop i) = R) ∧ Hid (Below W1.heap.size W1 wr)) (fun iv _ => na - (intOf iv).toNat)
  case atStart => exact ⟨0, rfl, Nat.zero_le _, HR, Lib.hid (Below.refl _ _)⟩
  case round =>
    obtain ⟨i, rfl, hi, hE1, B1⟩ := hrel
    have T2 := Lib.hid (T1.out.on B1.out)
    have E2 := Lib.hid (E1.out.on B1.out)
    clear HR
    obtain ⟨t_0, t_1, t_2⟩ : _ ∧ _ ∧ _ := ⟨T2.out.1 0 _ rfl, T2.out.1 1 _ rfl, T2.out.1 2 _ rfl⟩
    by_cases hlt : i < na
    · obtain ⟨c, hc1, hc2, hc3⟩ := drop_at (l := es) (i := i) (by omega)
      obtain ⟨bb, off, rfl⟩ := E2.out.elemAd 12 (fun _ => rfl) hc1
      have HX : Hid ((if c.i = io ∧ c.x = d ∧ c.y = p0 ∧ c.pass g = true then c.z else permF d p0 io g (es.drop (i + 1))) = R) := by show _ = _; rw [← hE1.out, hc2]; rfl
      have CM := Lib.hid (HM.out c hc3)
      generalize c.pass g = B at *
      have k0 : wr.cell? ⟨bb, off + i * 13, none⟩ = some (.int .i64 c.x) := E2.out.elem 13 (fun _ => rfl) hc1 0 rfl
      have k1 : wr.cell? ⟨bb, off + i * 13 + 1, none⟩ = some (.int .i64 c.y) := E2.out.elem 13 (fun _ => rfl) hc1 1 rfl
      have k2 : wr.cell? ⟨bb, off + i * 13 + 2, none⟩ = some (.bool c.i) := E2.out.elem 13 (fun _ => rfl) hc1 2 rfl
      have k3 : wr.cell? ⟨bb, off + i * 13 + 3, none⟩ = some (.bool c.z) := E2.out.elem 13 (fun _ => rfl) hc1 3 rfl
      have k4 : wr.cell? ⟨bb, off + i * 13 + 4, none⟩ = some (.int .u32 c.a) := E2.out.elem 13 (fun _ => rfl) hc1 4 rfl
      have k5 : wr.cell? ⟨bb, off + i * 13 + 5, none⟩ = some (.int .i64 c.n) := E2.out.elem 13 (fun _ => rfl) hc1 5 rfl
      have k6 : wr.cell? ⟨bb, off + i * 13 + 6, none⟩ = some (.int .u32 c.b) := E2.out.elem 13 (fun _ => rfl) hc1 6 rfl
      have k7 : wr.cell? ⟨bb, off + i * 13 + 7, none⟩ = some (.int .i64 c.m) := E2.out.elem 13 (fun _ => rfl) hc1 7 rfl
      have k8 : wr.cell? ⟨bb, off + i * 13 + 8, none⟩ = some (.int .i64 c.p) := E2.out.elem 13 (fun _ => rfl) hc1 8 rfl
      have k9 : wr.cell? ⟨bb, off + i * 13 + 9, none⟩ = some (.int .u16 c.l) := E2.out.elem 13 (fun _ => rfl) hc1 9 rfl
      have k10 : wr.cell? ⟨bb, off + i * 13 + 10, none⟩ = some (.int .u16 c.h) := E2.out.elem 13 (fun _ => rfl) hc1 10 rfl
      have k11 : wr.cell? ⟨bb, off + i * 13 + 11, none⟩ = some (.int .u16 c.u) := E2.out.elem 13 (fun _ => rfl) hc1 11 rfl
      have k12 : wr.cell? ⟨bb, off + i * 13 + 12, none⟩ = some (.int .u16 c.v) := E2.out.elem 13 (fun _ => rfl) hc1 12 rfl
      obtain ⟨x, y, ii, zz, a, n', b, m, p, l, h, u, v⟩ := c
      simp only at *
      clear hc1 hc2 hc3 hE1 HM E1 E2
      unfold fv at CM
      have hw1 : IntKind.i64.wrap ((i : Int) + 1) = (i : Int) + 1 := by rw [IntKind.wrap_i64]; omega
      go_upto_region 5 with fail
      refine at_code (S := fun W => Blk W wr.heap.size [.int .i64 x, .int .i64 y, .bool ii, .bool zz, .int .u32 a, .int .i64 n', .int .u32 b, .int .i64 m, .int .i64 p, .int .u16 l, .int .u16 h, .int .u16 u, .int .u16 v] ∧ Below wr.heap.size wr W) ⟨Blk.new _ _ _, cbelow_al (Below.refl _ _) _⟩ (fun W2 hW => ?_)
      obtain ⟨hN, hb⟩ := hW
      have B2 := Lib.hid (cbelow_on B1.out hb)
      have C2 := Lib.hid hN
      clear hb hN B1 T2 t_0 t_1 t_2 k0 k1 k2 k3 k4 k5 k6 k7 k8 k9 k10 k11 k12
      obtain ⟨c_0, c_1, c_2, c_3, c_4, c_5, c_6, c_7, c_8, c_9, c_10, c_11, c_12⟩ : _ ∧ _ ∧ _ ∧ _ ∧ _ ∧ _ ∧ _ ∧ _ ∧ _ ∧ _ ∧ _ ∧ _ ∧ _ := ⟨C2.out.1 0 _ rfl, C2.out.1 1 _ rfl, C2.out.1 2 _ rfl, C2.out.1 3 _ rfl, C2.out.1 4 _ rfl, C2.out.1 5 _ rfl, C2.out.1 6 _ rfl, C2.out.1 7 _ rfl, C2.out.1 8 _ rfl, C2.out.1 9 _ rfl, C2.out.1 10 _ rfl, C2.out.1 11 _ rfl, C2.out.1 12 _ rfl⟩
      have K2 := Lib.hid (K1.out.on B2.out)
      obtain ⟨s_0, s_1, s_2, s_3, s_4⟩ : _ ∧ _ ∧ _ ∧ _ ∧ _ := ⟨K2.out.1 0 _ rfl, K2.out.1 1 _ rfl, K2.out.1 2 _ rfl, K2.out.1 3 _ rfl, K2.out.1 4 _ rfl⟩
      have HH := H1.out.on B2.out
      obtain ⟨h_0, h_1⟩ : _ ∧ _ := ⟨HH.1 0 _ rfl, HH.1 1 _ rfl⟩
      clear HH
      by_cases z1 : ii = io
      · by_cases z2 : x = d
        · by_cases z3 : y = p0
          · have z1' : (ii == io) = true := by simp; exact z1
            have z2' : (x == d) = true := by simp; exact z2
            have z3' : (y == p0) = true := by simp; exact z3
            have Z := Lib.hid (And.intro z1 (And.intro z2 z3))
            clear z1 z2 z3
            go_wp2_with fail
            refine (CM.out _).mono ?_
            rintro e w3 ⟨rfl, hb⟩
            have B3 := Lib.hid (cbelow_on B2.out hb)
            have C3 := Lib.hid (C2.out.on hb)
            clear hb c_0 c_1 c_2 c_3 c_4 c_5 c_6 c_7 c_8 c_9 c_10 c_11 c_12 s_0 s_1 s_2 s_3 s_4 h_0 h_1 B2 C2 K2
            obtain ⟨c_0, c_1, c_2, c_3, c_4, c_5, c_6, c_7, c_8, c_9, c_10, c_11, c_12⟩ : _ ∧ _ ∧ _ ∧ _ ∧ _ ∧ _ ∧ _ ∧ _ ∧ _ ∧ _ ∧ _ ∧ _ ∧ _ := ⟨C3.out.1 0 _ rfl, C3.out.1 1 _ rfl, C3.out.1 2 _ rfl, C3.out.1 3 _ rfl, C3.out.1 4 _ rfl, C3.out.1 5 _ rfl, C3.out.1 6 _ rfl, C3.out.1 7 _ rfl, C3.out.1 8 _ rfl, C3.out.1 9 _ rfl, C3.out.1 10 _ rfl, C3.out.1 11 _ rfl, C3.out.1 12 _ rfl⟩
            cases B with
            | true =>
              have HQ : Hid (R = zz) := by show _ = _; rw [← HX.out, if_pos ⟨Z.out.1, Z.out.2.1, Z.out.2.2, rfl⟩]
              go_wp2
              go_ret
              exact ⟨by rw [HQ.out]; rfl, cbelow_on BB1.out B3.out⟩
            | false =>
              have HQ : Hid (permF d p0 io g (es.drop (i + 1)) = R) := by show _ = _; rw [← HX.out, if_neg (by simp)]
              go_wp2
              refine ⟨?_, ?_⟩
              · first | exact ⟨i + 1, by go_num, by omega, HQ, B3⟩ | ((repeat apply Exists.intro); exact ⟨⟨i + 1, by go_num, by omega, HQ, B3⟩, rfl⟩)
              · simp [intOf]; omega
          · have z3' : (y == p0) = false := by simp; exact z3
            have z1' : (ii == io) = true := by simp; exact z1
            have z2' : (x == d) = true := by simp; exact z2
            have HQ : Hid (permF d p0 io g (es.drop (i + 1)) = R) := by show _ = _; rw [← HX.out, if_neg (fun q => z3 q.2.2.1)]
            clear z1 z2 z3
            go_wp2
            refine ⟨?_, ?_⟩
            · first | exact ⟨i + 1, by go_num, by omega, HQ, B2⟩ | ((repeat apply Exists.intro); exact ⟨⟨i + 1, by go_num, by omega, HQ, B2⟩, rfl⟩)
            · simp [intOf]; omega
        · have z2' : (x == d) = false := by simp; exact z2
          have z1' : (ii == io) = true := by simp; exact z1
          have HQ : Hid (permF d p0 io g (es.drop (i + 1)) = R) := by show _ = _; rw [← HX.out, if_neg (fun q => z2 q.2.1)]
          clear z1 z2
          go_wp2
          refine ⟨?_, ?_⟩
          · first | exact ⟨i + 1, by go_num, by omega, HQ, B2⟩ | ((repeat apply Exists.intro); exact ⟨⟨i + 1, by go_num, by omega, HQ, B2⟩, rfl⟩)
          · simp [intOf]; omega
      · have z1' : (ii == io) = false := by simp; exact z1
        have HQ : Hid (permF d p0 io g (es.drop (i + 1)) = R) := by show _ = _; rw [← HX.out, if_neg (fun q => z1 q.1)]
        clear z1
        go_wp2
        refine ⟨?_, ?_⟩
        · first | exact ⟨i + 1, by go_num, by omega, HQ, B2⟩ | ((repeat apply Exists.intro); exact ⟨⟨i + 1, by go_num, by omega, HQ, B2⟩, rfl⟩)
        · simp [intOf]; omega
    · obtain rfl : i = na := by omega
      have HQ : Hid (R = true) := by
        show _ = _
        rw [← hE1.out, List.drop_eq_nil_of_le (by omega)]; rfl
      go_wp2
      go_ret
      exact ⟨by rw [HQ.out]; rfl, cbelow_on BB1.out B1.out⟩
end Go.Proofs.Ytoiopjdbmaffeaa
