/- What is wrong with entries. -/
import Derived.Test.YtoiopjdbmaffeaaT1
import Derived.Test.YtoiopjdbmaffeaaFK
namespace Go.Proofs.Ytoiopjdbmaffeaa
open Go.RowKit
set_option linter.unusedVariables false

set_option maxRecDepth 100000 in
set_option maxHeartbeats 2000000 in
theorem cent_any (ps : List Int) (es : List Ac) (pa : Option Addr) (pc : Nat) (la : Option Addr) (nl lc : Nat) (aa : Option Addr) (ac : Nat) (w : World) (hok : ∀ c ∈ es, c.Ok) (hp : Rw w pa (ints ps)) (he : Rw w aa (es.flatMap Ac.cells)) (hlen : es.length < 1000000) :
    Calls Try.prog 15 #[tv pa ps.length pc la nl lc aa es.length ac] w fun e w' => e = .returned (.int .i64 (entE ps es)) ∧ Below w.heap.size w w' := by
  obtain ⟨E, hE⟩ : ∃ E, entE ps es = E := ⟨_, rfl⟩
  rw [hE]
  obtain ⟨W0, hW0⟩ : ∃ W0, w.alloc (Obj.cells (tc pa ps.length pc la nl lc aa es.length ac).toArray 26) = W0 := ⟨_, rfl⟩
  have hb0 : Below w.heap.size w W0 := by rw [← hW0]; exact cbelow_al (Below.refl _ _) _
  have T0 := Lib.hid (show Blk W0 w.heap.size (tc pa ps.length pc la nl lc aa es.length ac) by rw [← hW0]; exact Blk.new _ _ _)
  have P0 := Lib.hid (hp.on hb0)
  have E0 := Lib.hid (he.on hb0)
  have BB := Lib.hid hb0
  have HE := Lib.hid hE
  have HO := Lib.hid hok
  clear hb0 hE hp he hok
  have CP := Lib.hid (fun d p w hr => port_any ps pa pc la nl lc aa es.length ac d p w hr)
  unfold tc at *
  unfold tv at *
  obtain ⟨n, hn⟩ : ∃ n, es.length = n := ⟨_, rfl⟩
  obtain ⟨np, hnp⟩ : ∃ np, ps.length = np := ⟨_, rfl⟩
  rw [hn] at T0 hW0 CP hlen ⊢
  rw [hnp] at T0 hW0 CP ⊢
  go_enter Try.func15, Try.ntmps15
  go_upto_region 1 with fail
  clear hW0
  obtain ⟨t_0, t_1, t_2⟩ : _ ∧ _ ∧ _ := ⟨T0.out.1 0 _ rfl, T0.out.1 1 _ rfl, T0.out.1 2 _ rfl⟩
  go_wp2_with fail
  clear t_0 t_1 t_2
  go_loopw [10] (fun iv wr => ∃ i : Nat, iv = .int .i64 i ∧ i ≤ n ∧ Hid (entE ps (es.drop i) = E) ∧ Hid (Below W0.heap.size W0 wr)) (fun iv _ => n - (intOf iv).toNat)
  case atStart => exact ⟨0, rfl, Nat.zero_le _, HE, Lib.hid (Below.refl _ _)⟩
  case round =>
    obtain ⟨i, rfl, hi, hE1, B1⟩ := hrel
    have T1 := Lib.hid (T0.out.on B1.out)
    have P1 := Lib.hid (P0.out.on B1.out)
    have E1 := Lib.hid (E0.out.on B1.out)
    clear T0 P0 E0 HE
    by_cases hlt : i < n
    · obtain ⟨c, hc1, hc2, hc3⟩ := drop_at (l := es) (i := i) (by omega)
      obtain ⟨bb, off, rfl⟩ := E1.out.elemAd 12 (fun _ => rfl) hc1
      obtain ⟨ha, hb⟩ := HO.out c hc3
      have HX : Hid ((if portE ps c.x c.y ≠ 0 then portE ps c.x c.y else if c.chk ≠ 0 then c.chk else entE ps (es.drop (i + 1))) = E) := by
        show _ = _
        rw [← hE1.out, hc2]; rfl
      have CF := Lib.hid (fun w => fcheck_any c.a c.n c.b c.m c.p c.l c.h c.u c.v ha hb w)
      have CQ := Lib.hid (CP.out c.x c.y)
      rw [show Go.Proofs.Ytoiopjdbmaffeaa.chk (rightB c.a c.n) (rightB c.b c.m) c.p (decide (c.h < c.l)) (decide (c.v < c.u)) = c.chk from rfl] at CF
      generalize c.chk = r at *
      generalize portE ps c.x c.y = q at *
      have k0 : wr.cell? ⟨bb, off + i * 13, none⟩ = some (.int .i64 c.x) := E1.out.elem 13 (fun _ => rfl) hc1 0 rfl
      have k1 : wr.cell? ⟨bb, off + i * 13 + 1, none⟩ = some (.int .i64 c.y) := E1.out.elem 13 (fun _ => rfl) hc1 1 rfl
      have k2 : wr.cell? ⟨bb, off + i * 13 + 2, none⟩ = some (.bool c.i) := E1.out.elem 13 (fun _ => rfl) hc1 2 rfl
      have k3 : wr.cell? ⟨bb, off + i * 13 + 3, none⟩ = some (.bool c.z) := E1.out.elem 13 (fun _ => rfl) hc1 3 rfl
      have k4 : wr.cell? ⟨bb, off + i * 13 + 4, none⟩ = some (.int .u32 c.a) := E1.out.elem 13 (fun _ => rfl) hc1 4 rfl
      have k5 : wr.cell? ⟨bb, off + i * 13 + 5, none⟩ = some (.int .i64 c.n) := E1.out.elem 13 (fun _ => rfl) hc1 5 rfl
      have k6 : wr.cell? ⟨bb, off + i * 13 + 6, none⟩ = some (.int .u32 c.b) := E1.out.elem 13 (fun _ => rfl) hc1 6 rfl
      have k7 : wr.cell? ⟨bb, off + i * 13 + 7, none⟩ = some (.int .i64 c.m) := E1.out.elem 13 (fun _ => rfl) hc1 7 rfl
      have k8 : wr.cell? ⟨bb, off + i * 13 + 8, none⟩ = some (.int .i64 c.p) := E1.out.elem 13 (fun _ => rfl) hc1 8 rfl
      have k9 : wr.cell? ⟨bb, off + i * 13 + 9, none⟩ = some (.int .u16 c.l) := E1.out.elem 13 (fun _ => rfl) hc1 9 rfl
      have k10 : wr.cell? ⟨bb, off + i * 13 + 10, none⟩ = some (.int .u16 c.h) := E1.out.elem 13 (fun _ => rfl) hc1 10 rfl
      have k11 : wr.cell? ⟨bb, off + i * 13 + 11, none⟩ = some (.int .u16 c.u) := E1.out.elem 13 (fun _ => rfl) hc1 11 rfl
      have k12 : wr.cell? ⟨bb, off + i * 13 + 12, none⟩ = some (.int .u16 c.v) := E1.out.elem 13 (fun _ => rfl) hc1 12 rfl
      obtain ⟨x, y, ii, zz, a, n', b, m, p, l, h, u, v⟩ := c
      simp only at *
      clear hc1 hc2 hc3 hE1 CP HO
      unfold fv at CF
      have hw1 : IntKind.i64.wrap ((i : Int) + 1) = (i : Int) + 1 := by rw [IntKind.wrap_i64]; omega
      go_upto_region 4 with fail
      refine at_code (S := fun W => Blk W wr.heap.size [.int .i64 x, .int .i64 y, .bool ii, .bool zz, .int .u32 a, .int .i64 n', .int .u32 b, .int .i64 m, .int .i64 p, .int .u16 l, .int .u16 h, .int .u16 u, .int .u16 v] ∧ Below wr.heap.size wr W) ⟨Blk.new _ _ _, cbelow_al (Below.refl _ _) _⟩ (fun W2 hW => ?_)
      obtain ⟨hN, hb⟩ := hW
      have T2 := Lib.hid (T1.out.on hb)
      have B2 := Lib.hid (cbelow_on B1.out hb)
      have P2 := Lib.hid (P1.out.on hb)
      clear hb T1 B1 P1
      have C2 := Lib.hid hN
      clear hN
      clear k0 k1 k2 k3 k4 k5 k6 k7 k8 k9 k10 k11 k12
      obtain ⟨t_0, t_1, t_2⟩ : _ ∧ _ ∧ _ := ⟨T2.out.1 0 _ rfl, T2.out.1 1 _ rfl, T2.out.1 2 _ rfl⟩
      obtain ⟨c_0, c_1, c_2, c_3, c_4, c_5, c_6, c_7, c_8, c_9, c_10, c_11, c_12⟩ : _ ∧ _ ∧ _ ∧ _ ∧ _ ∧ _ ∧ _ ∧ _ ∧ _ ∧ _ ∧ _ ∧ _ ∧ _ := ⟨C2.out.1 0 _ rfl, C2.out.1 1 _ rfl, C2.out.1 2 _ rfl, C2.out.1 3 _ rfl, C2.out.1 4 _ rfl, C2.out.1 5 _ rfl, C2.out.1 6 _ rfl, C2.out.1 7 _ rfl, C2.out.1 8 _ rfl, C2.out.1 9 _ rfl, C2.out.1 10 _ rfl, C2.out.1 11 _ rfl, C2.out.1 12 _ rfl⟩
      go_wp2_with fail
      refine (CQ.out _ P2.out).mono ?_
      rintro e w3 ⟨rfl, hb⟩
      have T3 := Lib.hid (T2.out.on hb)
      have C3 := Lib.hid (C2.out.on hb)
      have B3 := Lib.hid (cbelow_on B2.out hb)
      have P3 := Lib.hid (P2.out.on hb)
      clear hb t_0 t_1 t_2 c_0 c_1 c_2 c_3 c_4 c_5 c_6 c_7 c_8 c_9 c_10 c_11 c_12 T2 C2 B2 P2
      by_cases y1 : q = 0
      · subst y1
        obtain ⟨t_0, t_1, t_2⟩ : _ ∧ _ ∧ _ := ⟨T3.out.1 0 _ rfl, T3.out.1 1 _ rfl, T3.out.1 2 _ rfl⟩
        obtain ⟨c_0, c_1, c_2, c_3, c_4, c_5, c_6, c_7, c_8, c_9, c_10, c_11, c_12⟩ : _ ∧ _ ∧ _ ∧ _ ∧ _ ∧ _ ∧ _ ∧ _ ∧ _ ∧ _ ∧ _ ∧ _ ∧ _ := ⟨C3.out.1 0 _ rfl, C3.out.1 1 _ rfl, C3.out.1 2 _ rfl, C3.out.1 3 _ rfl, C3.out.1 4 _ rfl, C3.out.1 5 _ rfl, C3.out.1 6 _ rfl, C3.out.1 7 _ rfl, C3.out.1 8 _ rfl, C3.out.1 9 _ rfl, C3.out.1 10 _ rfl, C3.out.1 11 _ rfl, C3.out.1 12 _ rfl⟩
        go_wp2_with fail
        refine (CF.out _).mono ?_
        rintro e w4 ⟨rfl, hb⟩
        have T4 := Lib.hid (T3.out.on hb)
        have C4 := Lib.hid (C3.out.on hb)
        have B4 := Lib.hid (cbelow_on B3.out hb)
        have P4 := Lib.hid (P3.out.on hb)
        clear hb t_0 t_1 t_2 c_0 c_1 c_2 c_3 c_4 c_5 c_6 c_7 c_8 c_9 c_10 c_11 c_12 T3 C3 B3 P3
        by_cases y2 : r = 0
        · subst y2
          have HQ : Hid (entE ps (es.drop (i + 1)) = E) := by show _ = _; rw [← HX.out, if_neg (by omega), if_neg (by omega)]
          go_wp2
          refine ⟨⟨i + 1, by go_num, by omega, HQ, B4⟩, ?_⟩
          simp [intOf]; omega
        · have HQ : Hid (E = r) := by show _ = _; rw [← HX.out, if_neg (by omega), if_pos y2]
          have y2' : (r != 0) = true := by simp; exact y2
          go_wp2
          go_ret
          exact ⟨by rw [HQ.out]; rfl, cbelow_on BB.out B4.out⟩
      · have HQ : Hid (E = q) := by show _ = _; rw [← HX.out, if_pos y1]
        have y1' : (q != 0) = true := by simp; exact y1
        go_wp2
        go_ret
        exact ⟨by rw [HQ.out]; rfl, cbelow_on BB.out B3.out⟩
    · obtain rfl : i = n := by omega
      have HQ : Hid (E = 0) := by
        show _ = _
        rw [← hE1.out, List.drop_eq_nil_of_le (by omega)]; rfl
      go_wp2
      go_ret
      exact ⟨by rw [HQ.out]; rfl, cbelow_on BB.out B1.out⟩
end Go.Proofs.Ytoiopjdbmaffeaa
