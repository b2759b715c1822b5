/- What Parse answers: the header of a line, or what is wrong first. -/
import Derived.Test.YtlmeagnegakifaaDoorHQ
namespace Go.Proofs.YtlmeagnegakifaaDoor
open Go.RowKit
set_option linter.unusedVariables false

set_option maxRecDepth 100000 in
set_option maxHeartbeats 4000000 in
theorem hparse_any (s : ByteArray) (hs : s.size < 4294967281) (w : World) (ht : Mxl w) :
    Calls Tryd.prog 12 #[.string s] w (HRet (parseH s.data.toList) w) := by
  obtain ⟨T, hT⟩ : ∃ T, parseH s.data.toList = T := ⟨_, rfl⟩
  rw [hT]
  have HT := Lib.hid hT
  clear hT
  obtain ⟨W0, hW0⟩ : ∃ W0, w.alloc (Obj.cells #[.int .u32 0, .int .u32 0, .int .u8 0, .int .u16 0, .int .u16 0] 25) = W0 := ⟨_, rfl⟩
  have hBW : Below w.heap.size w W0 := by rw [← hW0]; exact below_al (Below.refl _ _) _
  have HR0 := Lib.hid (show Hd W0 w.heap.size 0 0 0 0 0 by rw [← hW0]; exact ⟨⟨by simp [go_sem], by simp [go_sem], by simp [go_sem], by simp [go_sem], by simp [go_sem]⟩, by simp [go_sem], by simp [go_sem], by simp [go_sem], by simp [go_sem], by simp [go_sem]⟩)
  have hT0 := ht.on hBW
  have HSp := Lib.hid (split_any 32 5 (by omega) (by omega) s hs W0 hT0)
  have HT0 := Lib.hid hT0
  have HB0 := Lib.hid hBW
  clear hT0 hBW ht
  go_enter Tryd.func12, Tryd.ntmps12
  go_upto_region 1 with fail
  clear hW0
  go_wp2_with fail
  refine HSp.out.mono ?_
  rintro e w1 ⟨g, cap, L, rfl, hg, hS, hb, hcap, hsz, h5, h5'⟩
  have HB1 := Lib.hid (below_on HB0.out hb)
  have HR1 := Lib.hid (HR0.out.on hb)
  have HT1 := Lib.hid (HT0.out.on hb)
  clear hb HSp HB0 HR0 HT0
  by_cases c : L.length = 5
  · have h1 := h5'.1 c
    have hmap := h5 h1
    obtain ⟨x0, x1, x2, x3, x4, rfl⟩ := five_of c
    have HTv : Hid (hparts (parseA x0.data.toList) (parseA x1.data.toList) (num3 (nz 255 x2.data.toList) (nz 65535 x3.data.toList) (nz 65535 x4.data.toList)) = T) := by
      have h := HT.out
      unfold parseH at h
      rw [← hmap] at h
      exact h
    have hx0 := hsz x0 (by simp)
    have hx1 := hsz x1 (by simp)
    have hx2 := hsz x2 (by simp)
    have hx3 := hsz x3 (by simp)
    have hx4 := hsz x4 (by simp)
    have A0 := Lib.hid (fun w ht => paddr_any x0 (by omega) w ht)
    have A1 := Lib.hid (fun w ht => paddr_any x1 (by omega) w ht)
    have N3 := Lib.hid (fun g cap hcap w c0 c1 c2 => nums3_core x2 x3 x4 (nz 255 x2.data.toList) (nz 65535 x3.data.toList) (nz 65535 x4.data.toList) g cap hcap
      (fun w => number_any x2 255 (by omega) (by unfold maxLen; omega) w) (fun w => number_any x3 65535 (by omega) (by unfold maxLen; omega) w) (fun w => number_any x4 65535 (by omega) (by unfold maxLen; omega) w) w c0 c1 c2)
    have s0 := hS 0 x0 rfl
    have s1 := hS 1 x1 rfl
    have s2 := hS 2 x2 rfl
    have s3 := hS 3 x3 rfl
    have s4 := hS 4 x4 rfl
    have tbd := num3_bd (nz 255 x2.data.toList) (nz 65535 x3.data.toList) (nz 65535 x4.data.toList) (nz_le _ _).1 (nz_le _ _).1 (nz_le _ _).1
    unfold ARet at A0 A1
    unfold N3Ret at N3
    generalize parseA x0.data.toList = a0 at *
    generalize parseA x1.data.toList = a1 at *
    generalize num3 (nz 255 x2.data.toList) (nz 65535 x3.data.toList) (nz 65535 x4.data.toList) = t at *
    obtain ⟨d, e0⟩ := a0
    obtain ⟨r, e1⟩ := a1
    obtain ⟨⟨n0, n1, n2⟩, e2⟩ := t
    simp only at A0 A1 N3 tbd
    obtain ⟨k0, k1, k2⟩ := tbd
    have hcap5 : 5 ≤ cap := by simpa using hcap
    clear hS hsz h5 h5' hmap h1 c HT hx0 hx1 hx2 hx3 hx4 hcap
    go_wp2_with fail
    refine (A0.out _ HT1.out).mono ?_
    rintro e w2 ⟨rfl, hb2⟩
    have HR2 := Lib.hid (HR1.out.on hb2)
    have HT2 := Lib.hid (HT1.out.on hb2)
    have HB2 := Lib.hid (below_on HB1.out hb2)
    have u1 := keepS s1 hb2
    have u2 := keepS s2 hb2
    have u3 := keepS s3 hb2
    have u4 := keepS s4 hb2
    clear hb2 s0 s1 s2 s3 s4 HR1 HT1 HB1 A0
    by_cases q0 : e0 = 0
    · subst q0
      go_wp2_with fail
      refine (A1.out _ HT2.out).mono ?_
      rintro e w3 ⟨rfl, hb3⟩
      have HR3 := Lib.hid (HR2.out.on hb3)
      have HB3 := Lib.hid (below_on HB2.out hb3)
      have v2 := keepS u2 hb3
      have v3 := keepS u3 hb3
      have v4 := keepS u4 hb3
      clear hb3 u1 u2 u3 u4 HR2 HT2 HB2 A1
      by_cases q1 : e1 = 0
      · subst q1
        have hc2 : ¬ cap = 2 := by omega
        have N3' := Lib.hid (N3.out g (cap - 2) (by omega) w3 v2 v3 v4)
        go_wp2_with fail
        refine N3'.out.mono ?_
        rintro e w4 ⟨rfl, hb4⟩
        have HR4 := Lib.hid (HR3.out.on hb4)
        have HB4 := Lib.hid (below_on HB3.out hb4)
        have hlt4 : w.heap.size < w4.heap.size := cell_lt (o := 0) (by rw [HR4.out.1.1]; rfl)
        clear hb4 v2 v3 v4 HR3 HB3 N3 N3'
        go_upto_region 11 with fail
        obtain ⟨W5, hW5⟩ : ∃ W5, w4.alloc (Obj.cells #[.int .i64 (n0 : Int), .int .i64 (n1 : Int), .int .i64 (n2 : Int)] 82) = W5 := ⟨_, rfl⟩
        rw [hW5]
        have hb5 : Below w4.heap.size w4 W5 := by rw [← hW5]; exact below_al (Below.refl _ _) _
        have HR5 := HR4.out.on hb5
        have HRX := Lib.hid HR5
        have BX := below_on HB4.out hb5
        obtain ⟨⟨t0, t1, t2⟩, -, -, -⟩ : Tri W5 w4.heap.size n0 n1 n2 := by rw [← hW5]; exact ⟨⟨by simp [go_sem], by simp [go_sem], by simp [go_sem]⟩, by simp [go_sem], by simp [go_sem], by simp [go_sem]⟩
        obtain ⟨⟨r1, r2, r3, r4, r5⟩, f1, f2, f3, f4, f5⟩ := HR5
        have hne : ¬ w4.heap.size = w.heap.size := by omega
        have hne' : ¬ w.heap.size = w4.heap.size := by omega
        have k0' : (n0 : Int) ≤ 255 := by omega
        have k1' : (n1 : Int) ≤ 65535 := by omega
        have k2' : (n2 : Int) ≤ 65535 := by omega
        have c0 : IntKind.u8.wrap (n0 : Int) = n0 := by rw [IntKind.wrap_u8]; omega
        have c1 : IntKind.u16.wrap (n1 : Int) = n1 := by rw [IntKind.wrap_u16]; omega
        have c2 : IntKind.u16.wrap (n2 : Int) = n2 := by rw [IntKind.wrap_u16]; omega
        clear hW5 hb5 HR4 HB4
        by_cases q2 : e2 = 0
        · subst q2
          have HTe : Hid (T = ((d, r, n0, n1, n2), 0)) := by show _ = _; rw [← HTv.out]; rfl
          have BX' := Lib.hid BX
          clear BX
          go_wp2_with fail
          refine at_hd (Q := fun W => bodyPost _ _ _ _ _ W) (Hd.put HRX.out d r n0 n1 n2) (below_put5 BX'.out (Nat.le_refl _) _ _ _ _ _) (fun W' HD' BB' => ?_)
          obtain ⟨⟨r1, r2, r3, r4, r5⟩, -, -, -, -, -⟩ := HD'
          refine bodyPost_ret (v := .tuple #[hv d r n0 n1 n2, .int .i64 0]) (by simp [results, Tryd.results12, go_sem, r1, r2, r3, r4, r5]) rfl ⟨?_, BB'⟩
          rw [HTe.out]
        · have q2' : (e2 != 0) = true := by simp; exact q2
          have HTe : Hid (T = ((0, 0, 0, 0, 0), e2)) := by show _ = _; rw [← HTv.out]; unfold hparts; rw [if_pos rfl, if_pos rfl, if_neg q2]
          have BX' := Lib.hid BX
          clear BX
          go_wp2_with fail
          refine at_hd (Q := fun W => bodyPost _ _ _ _ _ W) (Hd.put HRX.out 0 0 0 0 0) (below_put5 BX'.out (Nat.le_refl _) _ _ _ _ _) (fun W' HD' BB' => ?_)
          obtain ⟨⟨r1, r2, r3, r4, r5⟩, -, -, -, -, -⟩ := HD'
          refine bodyPost_ret (v := .tuple #[hv 0 0 0 0 0, .int .i64 e2]) (by simp [results, Tryd.results12, go_sem, r1, r2, r3, r4, r5]) rfl ⟨?_, BB'⟩
          rw [HTe.out]; rfl
      · have q1' : (e1 != 0) = true := by simp; exact q1
        have HTe : Hid (T = ((0, 0, 0, 0, 0), e1)) := by show _ = _; rw [← HTv.out]; unfold hparts; rw [if_pos rfl, if_neg q1]
        obtain ⟨⟨r1, r2, r3, r4, r5⟩, f1, f2, f3, f4, f5⟩ := HR3.out
        have BX := HB3.out
        go_wp2_with fail
        refine at_hd (Q := fun W => bodyPost _ _ _ _ _ W) (Hd.put HR3.out 0 0 0 0 0) (below_put5 HB3.out (Nat.le_refl _) _ _ _ _ _) (fun W' HD' BB' => ?_)
        obtain ⟨⟨r1, r2, r3, r4, r5⟩, -, -, -, -, -⟩ := HD'
        refine bodyPost_ret (v := .tuple #[hv 0 0 0 0 0, .int .i64 e1]) (by simp [results, Tryd.results12, go_sem, r1, r2, r3, r4, r5]) rfl ⟨?_, BB'⟩
        rw [HTe.out]; rfl
    · have q0' : (e0 != 0) = true := by simp; exact q0
      have HTe : Hid (T = ((0, 0, 0, 0, 0), e0)) := by show _ = _; rw [← HTv.out]; unfold hparts; rw [if_neg q0]
      obtain ⟨⟨r1, r2, r3, r4, r5⟩, f1, f2, f3, f4, f5⟩ := HR2.out
      have BX := HB2.out
      go_wp2_with fail
      refine at_hd (Q := fun W => bodyPost _ _ _ _ _ W) (Hd.put HR2.out 0 0 0 0 0) (below_put5 HB2.out (Nat.le_refl _) _ _ _ _ _) (fun W' HD' BB' => ?_)
      obtain ⟨⟨r1, r2, r3, r4, r5⟩, -, -, -, -, -⟩ := HD'
      refine bodyPost_ret (v := .tuple #[hv 0 0 0 0 0, .int .i64 e0]) (by simp [results, Tryd.results12, go_sem, r1, r2, r3, r4, r5]) rfl ⟨?_, BB'⟩
      rw [HTe.out]; rfl
  · have HT6 : Hid (T = ((0, 0, 0, 0, 0), 6)) := by
      show _ = _
      rw [← HT.out, parseH_no _ (fun h => c (h5'.2 h))]
    have c1 : ((L.length : Int) != 5) = true := by simp; omega
    obtain ⟨⟨r1, r2, r3, r4, r5⟩, f1, f2, f3, f4, f5⟩ := HR1.out
    have BX := HB1.out
    go_wp2_with fail
    refine at_hd (Q := fun W => bodyPost _ _ _ _ _ W) (Hd.put HR1.out 0 0 0 0 0) (below_put5 HB1.out (Nat.le_refl _) _ _ _ _ _) (fun W' HD' BB' => ?_)
    obtain ⟨⟨r1, r2, r3, r4, r5⟩, -, -, -, -, -⟩ := HD'
    refine bodyPost_ret (v := .tuple #[hv 0 0 0 0 0, .int .i64 6]) (by simp [results, Tryd.results12, go_sem, r1, r2, r3, r4, r5]) rfl ⟨?_, BB'⟩
    rw [HT6.out]; rfl
end Go.Proofs.YtlmeagnegakifaaDoor
