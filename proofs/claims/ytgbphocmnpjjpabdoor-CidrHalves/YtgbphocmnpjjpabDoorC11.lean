/- The walk of CidrHalves. -/
import Derived.Test.YtgbphocmnpjjpabDoorC2
import Derived.Test.YtgbphocmnpjjpabDoorC6
import Derived.Test.YtgbphocmnpjjpabDoorAlongT
import Derived.Test.YtgbphocmnpjjpabDoorKept
namespace Go.Proofs.YtgbphocmnpjjpabDoor
open Go.RowKit
set_option linter.unusedVariables false

/-- Two cells of a block. -/
def Pair (w : World) (b : Nat) (u v : Value) : Prop := w.cell? ⟨b, 0, none⟩ = some u ∧ w.cell? ⟨b, 1, none⟩ = some v
theorem Pair.on {w w' : World} {b : Nat} {u v : Value} (h : Pair w b u v) (hb : Below w.heap.size w w') : Pair w' b u v := by
  obtain ⟨-, k⟩ := ckeep hb
  exact ⟨(k _ _ (by rw [h.1]; rfl)).trans h.1, (k _ _ (by rw [h.2]; rfl)).trans h.2⟩
/-- Two cells of a block, free to be written. -/
def Pf (w : World) (b : Nat) (u v : Value) : Prop := Pair w b u v ∧ w.frozen? ⟨b, 0, none⟩ = false ∧ w.frozen? ⟨b, 1, none⟩ = false
theorem Pf.lt {w : World} {b : Nat} {u v : Value} (h : Pf w b u v) : b < w.heap.size := cell_lt (o := 0) (by rw [h.1.1]; rfl)
theorem Pf.on {w w' : World} {b : Nat} {u v : Value} (h : Pf w b u v) (hb : Below w.heap.size w w') : Pf w' b u v :=
  ⟨h.1.on hb, (hb.frozen (p := ⟨b, 0, none⟩) h.lt).trans h.2.1, (hb.frozen (p := ⟨b, 1, none⟩) h.lt).trans h.2.2⟩
theorem Pf.new (w : World) (t : TypeId) (u v : Value) : Pf (w.alloc (Obj.cells #[u, v] t)) w.heap.size u v := ⟨⟨by simp [go_sem], by simp [go_sem]⟩, by simp [go_sem], by simp [go_sem]⟩
theorem Pf.put {w : World} {b : Nat} {u v : Value} (h : Pf w b u v) (u' v' : Value) : Pf ((w.setCell ⟨b, 0, none⟩ u').setCell ⟨b, 1, none⟩ v') b u' v' := by
  obtain ⟨⟨h1, h2⟩, f1, f2⟩ := h
  refine ⟨⟨?_, ?_⟩, by simp [f1], by simp [f2]⟩
  · rw [World.cell?_setCell_other _ _ _ _ (by simp)]; exact World.cell?_setCell_same _ _ _ h1
  · exact World.cell?_setCell_same _ _ _ (by rw [World.cell?_setCell_other _ _ _ _ (by simp)]; exact h2)
theorem Pf.far2 {w : World} {b b' : Nat} {u v : Value} (h : Pf w b u v) (u' v' : Value) (hne : b' ≠ b) : Pf ((w.setCell ⟨b', 0, none⟩ u').setCell ⟨b', 1, none⟩ v') b u v := by
  obtain ⟨⟨h1, h2⟩, f1, f2⟩ := h
  refine ⟨⟨?_, ?_⟩, by simp [f1], by simp [f2]⟩
  all_goals rw [World.cell?_setCell_far _ _ _ _ (by exact hne), World.cell?_setCell_far _ _ _ _ (by exact hne)]
  all_goals assumption
theorem cbelow_put2 {w0 w : World} {n b : Nat} (h : Below n w0 w) (hb : n ≤ b) (v1 v2 : Value) : Below n w0 ((w.setCell ⟨b, 0, none⟩ v1).setCell ⟨b, 1, none⟩ v2) := (h.setCell hb _).setCell hb _
set_option maxHeartbeats 1000000 in
theorem last_exact (a : Nat) (n : Int) (ha : a < 4294967296) (w : World) :
    Calls Tryd.prog 7 #[pv a n] w fun e w' => e = .returned (.int .u32 (a ||| (sz (inB n) - 1) : Nat)) ∧ ∃ k, (w.alloc (.cells #[.int .u32 a, .int .i64 n] 24)).drewN k = w' := by
  have hM := fun w => (cmask_any n w).mono (fun e w' (h : e = _ ∧ w = w') => (⟨h.1, h.2.symm⟩ : e = _ ∧ w' = w))
  go_enter Tryd.func7, Tryd.ntmps7
  go_wp2_with fail
  go_quiet ((go_at_call 13; exact Calls.quiet_of_same (hM _)))
  go_wp2_with fail
  go_ret
  refine ⟨cret_int ?_, _, rfl⟩
  show bits BinOp.or IntKind.u32 (a : Int) (bits BinOp.xor IntKind.u32 IntKind.u32.max (mk (inB n) : Int)) = _
  have h1 := sz_pos (inB n)
  have h2 := sz_le (inB n)
  rw [xor_mk, bits_or_u32 _ _ ha (by omega)]
set_option maxRecDepth 100000 in
set_option maxHeartbeats 8000000 in
theorem halves_core (pa pn qa qn x m la ha lp ll : Int) (r s hp hl hh wp wl wh mp ml mh : Bool)
    (RP : Hid (∀ w, Calls Tryd.prog 4 #[pv pa pn] w fun e w' => e = .returned (.bool r) ∧ Below w.heap.size w w'))
    (RQ : Hid (∀ w, Calls Tryd.prog 4 #[pv qa qn] w fun e w' => e = .returned (.bool s) ∧ Below w.heap.size w w'))
    (rest : Hid (r = true → s = true → pn ≠ 32 →
      (0 ≤ pn ∧ pn < 32 ∧ pn + 1 = m ∧ IntKind.u32.wrap (ha - 1) = ll) ∧
      Hid (∀ w, Calls Tryd.prog 6 #[.int .u32 pa, .int .i64 m] w fun e w' => e = .returned (pv la m) ∧ w.alloc (.cells #[.int .u32 la, .int .i64 m] 24) = w') ∧
      Hid (∀ w, Calls Tryd.prog 6 #[.int .u32 lp, .int .i64 m] w fun e w' => e = .returned (pv ha m) ∧ w.alloc (.cells #[.int .u32 ha, .int .i64 m] 24) = w') ∧
      Hid (∀ w, Calls Tryd.prog 7 #[pv pa pn] w fun e w' => e = .returned (.int .u32 lp) ∧ Below w.heap.size w w') ∧ Hid (∀ w, Calls Tryd.prog 7 #[pv pa pn] w fun e w' => e = .returned (.int .u32 lp) ∧ ∃ n, (w.alloc (.cells #[.int .u32 pa, .int .i64 pn] 24)).drewN n = w') ∧ Hid (∀ w, Calls Tryd.prog 7 #[pv la m] w fun e w' => e = .returned (.int .u32 ll) ∧ Below w.heap.size w w') ∧ Hid (∀ w, Calls Tryd.prog 7 #[pv ha m] w fun e w' => e = .returned (.int .u32 lp) ∧ Below w.heap.size w w') ∧
      Hid (∀ w, Calls Tryd.prog 8 #[pv la m, pv ha m] w fun e w' => e = .returned (.bool false) ∧ Below w.heap.size w w') ∧ Hid (∀ w, Calls Tryd.prog 9 #[pv la m, pv pa pn] w fun e w' => e = .returned (.bool true) ∧ Below w.heap.size w w') ∧ Hid (∀ w, Calls Tryd.prog 9 #[pv ha m, pv pa pn] w fun e w' => e = .returned (.bool true) ∧ Below w.heap.size w w') ∧
      Hid (∀ w, Calls Tryd.prog 10 #[pv pa pn, .int .u32 x] w fun e w' => e = .returned (.bool hp) ∧ Below w.heap.size w w') ∧ Hid (∀ w, Calls Tryd.prog 10 #[pv la m, .int .u32 x] w fun e w' => e = .returned (.bool hl) ∧ Below w.heap.size w w') ∧ Hid (∀ w, Calls Tryd.prog 10 #[pv ha m, .int .u32 x] w fun e w' => e = .returned (.bool hh) ∧ Below w.heap.size w w') ∧
      Hid (∀ w, Calls Tryd.prog 9 #[pv pa pn, pv qa qn] w fun e w' => e = .returned (.bool wp) ∧ Below w.heap.size w w') ∧ Hid (∀ w, Calls Tryd.prog 9 #[pv la m, pv qa qn] w fun e w' => e = .returned (.bool wl) ∧ Below w.heap.size w w') ∧ Hid (∀ w, Calls Tryd.prog 9 #[pv ha m, pv qa qn] w fun e w' => e = .returned (.bool wh) ∧ Below w.heap.size w w') ∧
      Hid (∀ w, Calls Tryd.prog 8 #[pv pa pn, pv qa qn] w fun e w' => e = .returned (.bool mp) ∧ Below w.heap.size w w') ∧ Hid (∀ w, Calls Tryd.prog 8 #[pv la m, pv qa qn] w fun e w' => e = .returned (.bool ml) ∧ Below w.heap.size w w') ∧ Hid (∀ w, Calls Tryd.prog 8 #[pv ha m, pv qa qn] w fun e w' => e = .returned (.bool mh) ∧ Below w.heap.size w w') ∧
      (la = pa ∧ hp = (hl != hh) ∧ (wp = true → wl = true ∧ wh = true) ∧ mp = (ml || mh))))
    (w : World) (ht : Hid (DbTab w)) :
    Calls Tryd.prog 3 #[pv pa pn, pv qa qn, .int .u32 x] w fun e w' => e = .returned (.bool true) ∧ Below w.heap.size w w' := by
  obtain ⟨W0, hW0⟩ : ∃ W0, (w.alloc (Obj.cells #[.int .u32 pa, .int .i64 pn] 24)).alloc (Obj.cells #[.int .u32 qa, .int .i64 qn] 24) = W0 := ⟨_, rfl⟩
  have z0 : W0.cell? ⟨w.heap.size, 0, none⟩ = some (.int .u32 pa) := by rw [← hW0]; simp [go_sem]
  have z1 : W0.cell? ⟨w.heap.size, 1, none⟩ = some (.int .i64 pn) := by rw [← hW0]; simp [go_sem]
  have z2 : W0.cell? ⟨w.heap.size + 1, 0, none⟩ = some (.int .u32 qa) := by rw [← hW0]; simp [go_sem]
  have z3 : W0.cell? ⟨w.heap.size + 1, 1, none⟩ = some (.int .i64 qn) := by rw [← hW0]; simp [go_sem]
  have HB0 := Lib.hid (show Below w.heap.size w W0 by rw [← hW0]; exact cbelow_al (cbelow_al (Below.refl _ _) _) _)
  have FP0 := Lib.hid (show Pair W0 _ _ _ from ⟨z0, z1⟩)
  have FQ0 := Lib.hid (show Pair W0 _ _ _ from ⟨z2, z3⟩)
  go_enter Tryd.func3, Tryd.ntmps3
  go_upto_region 1 with fail
  clear hW0
  go_wp2_with fail
  refine (RP.out _).mono ?_
  rintro e w1 ⟨rfl, hb1⟩
  have FP1 := Lib.hid (FP0.out.on hb1)
  have FQ1 := Lib.hid (FQ0.out.on hb1)
  have HB1 := Lib.hid (cbelow_on HB0.out hb1)
  clear hb1 FP0 FQ0 HB0 z0 z1 z2 z3
  obtain ⟨z0, z1⟩ := FP1.out
  obtain ⟨z2, z3⟩ := FQ1.out
  cases r
  · go_wp2_with fail
    refine (cawake_any _ (ht.out.on HB1.out)).mono ?_
    rintro e w5 ⟨rfl, hb5⟩
    have HB5 := Lib.hid (cbelow_on HB1.out hb5)
    clear hb5
    go_wp2
    go_ret
    exact ⟨rfl, HB5.out⟩
  · go_wp2_with fail
    refine (RQ.out _).mono ?_
    rintro e w2 ⟨rfl, hb2⟩
    have FP2 := Lib.hid (FP1.out.on hb2)
    have FQ2 := Lib.hid (FQ1.out.on hb2)
    have HB2 := Lib.hid (cbelow_on HB1.out hb2)
    clear hb2 FP1 FQ1 HB1 z0 z1 z2 z3
    obtain ⟨z0, z1⟩ := FP2.out
    obtain ⟨z2, z3⟩ := FQ2.out
    cases s
    · go_wp2_with fail
      refine (cawake_any _ (ht.out.on HB2.out)).mono ?_
      rintro e w5 ⟨rfl, hb5⟩
      have HB5 := Lib.hid (cbelow_on HB2.out hb5)
      clear hb5
      go_wp2
      go_ret
      exact ⟨rfl, HB5.out⟩
    · by_cases k32 : pn = 32
      · subst k32
        go_wp2_with fail
        refine (cawake_any _ (ht.out.on HB2.out)).mono ?_
        rintro e w5 ⟨rfl, hb5⟩
        have HB5 := Lib.hid (cbelow_on HB2.out hb5)
        clear hb5
        go_wp2
        go_ret
        exact ⟨rfl, HB5.out⟩
      · have k32' : (pn == 32) = false := by simp; exact k32
        obtain ⟨⟨m0, m1, m2, m3⟩, OL, OH, LP, LPX, LL, LH, M0, WLP, WHP, HP, HL, HH, WPQ, WLQ, WHQ, MPQ, MLQ, MHQ, e1, e2, e3, e4⟩ := rest.out (by first | rfl | trivial) (by first | rfl | trivial) k32
        subst e1 e2
        have E3 := Lib.hid e3
        have E4 := Lib.hid e4
        have M3 := Lib.hid m3
        clear e3 e4 m3 rest RP RQ k32
        have hmw : IntKind.i64.wrap (pn + 1) = m := by rw [m2, IntKind.wrap_i64]; omega
        have hmw2 : IntKind.i64.wrap m = m := by rw [IntKind.wrap_i64]; omega
        have LP' : Hid (∀ w, Calls Tryd.prog 7 #[pv la pn] w fun e w' => e = .returned (.int .u32 lp) ∧ ∃ n, (w.alloc (.cells #[.int .u32 la, .int .i64 pn] 24)).drewN n = w') := LPX
        have OLb : Hid (∀ w, Calls Tryd.prog 6 #[.int .u32 la, .int .i64 m] w fun e w' => e = .returned (pv la m) ∧ Below w.heap.size w w') := fun w => (OL.out w).mono (by rintro e w' ⟨rfl, rfl⟩; exact ⟨rfl, cbelow_al (Below.refl _ _) _⟩)
        have OHb : Hid (∀ w, Calls Tryd.prog 6 #[.int .u32 lp, .int .i64 m] w fun e w' => e = .returned (pv ha m) ∧ Below w.heap.size w w') := fun w => (OH.out w).mono (by rintro e w' ⟨rfl, rfl⟩; exact ⟨rfl, cbelow_al (Below.refl _ _) _⟩)
        go_upto_region 3 with fail
        go_cut [7, 8] (fun u v wx => ∃ g g' : Nat, u = .pointer (some ⟨g, 0, none⟩) ∧ v = .pointer (some ⟨g', 0, none⟩) ∧ Below w2.heap.size w2 wx ∧ Pair wx g (.int .u32 la) (.int .i64 m) ∧ Pair wx g' (.int .u32 ha) (.int .i64 m))
        case first =>
         as_aux_lemma =>
          refine wp_region_noPanic ?_
          refine wp_region_alongT (S := fun w' => Below w2.heap.size w2 w' ∧ ∀ b o, (w2.cell? ⟨b, o, none⟩).isSome = true → w'.cell? ⟨b, o, none⟩ = w2.cell? ⟨b, o, none⟩) (.pure 0 (.pure 1 (.pure 2 (.pure 3 (.pure 4 (.pure 6 (.pure 8 (.pure 9 (.pure 10 (.b3 5 (.b3 7 (.b3 11 (.b2 12 (.b1 13 (.b1 14 (.b1 15 .done))) 13 (.b1 12 (.b1 14 (.b1 15 .done)))) 12 (.b2 11 (.b1 13 (.b1 14 (.b1 15 .done))) 13 (.b1 11 (.b1 14 (.b1 15 .done)))) 13 (.b2 11 (.b1 12 (.b1 14 (.b1 15 .done))) 12 (.b1 11 (.b1 14 (.b1 15 .done))))) 12 (.b2 7 (.b2 11 (.b1 13 (.b1 14 (.b1 15 .done))) 13 (.b1 11 (.b1 14 (.b1 15 .done)))) 13 (.b1 7 (.b1 11 (.b1 14 (.b1 15 .done))))) 13 (.b2 7 (.b2 11 (.b1 12 (.b1 14 (.b1 15 .done))) 12 (.b1 11 (.b1 14 (.b1 15 .done)))) 12 (.b1 7 (.b1 11 (.b1 14 (.b1 15 .done)))))) 12 (.b2 5 (.b2 7 (.b2 11 (.b1 13 (.b1 14 (.b1 15 .done))) 13 (.b1 11 (.b1 14 (.b1 15 .done)))) 13 (.b1 7 (.b1 11 (.b1 14 (.b1 15 .done))))) 13 (.b1 5 (.b1 7 (.b1 11 (.b1 14 (.b1 15 .done)))))) 13 (.b2 5 (.b2 7 (.b2 11 (.b1 12 (.b1 14 (.b1 15 .done))) 12 (.b1 11 (.b1 14 (.b1 15 .done)))) 12 (.b1 7 (.b1 11 (.b1 14 (.b1 15 .done))))) 12 (.b1 5 (.b1 7 (.b1 11 (.b1 14 (.b1 15 .done)))))))))))))))) (by kernel_rfl) (by as_aux_lemma => kernel_rfl) (by decide) (by as_aux_lemma => kernel_rfl) (fun _ _ _ _ _ h => h) (ckeep (Below.refl _ _).drew) (fun hH => ?_)
          iterate 9 (refine T_pure ?_ (by rfl) (fun w hSw => ?_) ?_; rotate_left; ((try dsimp only at hSw); simp only [pickOp]; go_simp; try with_reducible rfl); try simp only [pickOp, Act.put, List.setIfInBounds_toArray, List.set_cons_zero, List.set_cons_succ])
          obtain ⟨wd, hwd⟩ : ∃ x, x = w2.drew := ⟨_, rfl⟩
          rw [← hwd] at hH ⊢
          clear hwd
          refine T_b3 (fun K hK => ?_) (fun K hK => ?_) (fun K hK => ?_)
          · simp only [pickOp]
            go_simp
            refine (OLb.out _).mono ?_
            rintro e wdp ⟨rfl, hbx⟩
            try go_wp2_with fail
            refine hK.out _ _ (ckeep (cbelow_on hH.1 hbx)) (fun hH' => ?_)
            clear hK K hH
            have hH := hH'
            clear hH'
            clear hbx
            try simp only [pickOp, Act.put, List.setIfInBounds_toArray, List.set_cons_zero, List.set_cons_succ]
            refine T_b3 (fun K hK => ?_) (fun K hK => ?_) (fun K hK => ?_)
            · simp only [pickOp]
              go_simp
              refine (LP.out _).mono ?_
              rintro e wdpq ⟨rfl, hbx⟩
              try go_wp2_with fail
              refine hK.out _ _ (ckeep (cbelow_on hH.1 hbx)) (fun hH' => ?_)
              clear hK K hH
              have hH := hH'
              clear hH'
              clear hbx
              try simp only [pickOp, Act.put, List.setIfInBounds_toArray, List.set_cons_zero, List.set_cons_succ]
              refine T_b3 (fun K hK => ?_) (fun K hK => ?_) (fun K hK => ?_)
              · simp only [pickOp]
                go_simp
                refine (OHb.out _).mono ?_
                rintro e wdpqr ⟨rfl, hbx⟩
                try go_wp2_with fail
                refine hK.out _ _ (ckeep (cbelow_on hH.1 hbx)) (fun hH' => ?_)
                clear hK K hH
                have hH := hH'
                clear hH'
                clear hbx
                try simp only [pickOp, Act.put, List.setIfInBounds_toArray, List.set_cons_zero, List.set_cons_succ]
                refine T_b2 (fun K hK => ?_) (fun K hK => ?_)
                · simp only [pickOp]
                  go_simp
                  refine hK.out _ _ (ckeep (cbelow_al hH.1 _)) (fun hH' => ?_)
                  clear hK K
                  have L7 := Lib.hid hH.1.size
                  clear hH
                  have A7 := Lib.hid (Pf.new wdpqr 24 (.int .u32 0) (.int .i64 0))
                  try simp only [pickOp, Act.put, List.setIfInBounds_toArray, List.set_cons_zero, List.set_cons_succ]
                  obtain ⟨wdpqra, hwn⟩ : ∃ x, x = wdpqr.alloc (Obj.cells #[.int .u32 0, .int .i64 0] 24) := ⟨_, rfl⟩
                  rw [← hwn] at hH' A7 ⊢
                  have hH := hH'
                  clear hH' hwn
                  refine T_b1 (fun K hK => ?_)
                  · simp only [pickOp]
                    go_simp
                    refine hK.out _ _ (ckeep (cbelow_al hH.1 _)) (fun hH' => ?_)
                    clear hK K
                    have L8 := Lib.hid hH.1.size
                    clear hH
                    have A8 := Lib.hid (Pf.new wdpqra 24 (.int .u32 0) (.int .i64 0))
                    have NE := Lib.hid (Nat.ne_of_lt A7.out.lt)
                    have A7' := Lib.hid (A7.out.on (cbelow_al (Below.refl _ _) (Obj.cells #[.int .u32 0, .int .i64 0] 24)))
                    clear A7
                    have A7 := A7'
                    clear A7'
                    try simp only [pickOp, Act.put, List.setIfInBounds_toArray, List.set_cons_zero, List.set_cons_succ]
                    obtain ⟨wdpqrab, hwn⟩ : ∃ x, x = wdpqra.alloc (Obj.cells #[.int .u32 0, .int .i64 0] 24) := ⟨_, rfl⟩
                    rw [← hwn] at hH' A7 A8 ⊢
                    have hH := hH'
                    clear hH' hwn
                    obtain ⟨⟨p1, p2⟩, pf1, pf2⟩ := A7.out
                    refine T_b1 (fun K hK => ?_)
                    simp only [pickOp]
                    go_simp
                    refine hK.out _ _ (ckeep (cbelow_put2 hH.1 L7.out _ _)) (fun hH' => ?_)
                    clear hK K
                    have A7' := Lib.hid (A7.out.put (.int .u32 la) (.int .i64 m))
                    have A8' := Lib.hid (A8.out.far2 (b' := _) (.int .u32 la) (.int .i64 m) (NE.out))
                    clear p1 p2 pf1 pf2 A7 A8 hH
                    try simp only [pickOp, Act.put, List.setIfInBounds_toArray, List.set_cons_zero, List.set_cons_succ]
                    obtain ⟨ws, hws⟩ : ∃ ws, ws = ((wdpqrab.setCell ⟨wdpqr.heap.size, 0, none⟩ (.int .u32 la)).setCell ⟨wdpqr.heap.size, 1, none⟩ (.int .i64 m)) := ⟨_, rfl⟩
                    rw [← hws] at hH' A7' A8' ⊢
                    have hH := hH'
                    clear hws hH'
                    obtain ⟨⟨p1, p2⟩, pf1, pf2⟩ := A8'.out
                    refine T_b1 (fun K hK => ?_)
                    simp only [pickOp]
                    go_simp
                    refine hK.out _ _ (ckeep (cbelow_put2 hH.1 L8.out _ _)) (fun hH' => ?_)
                    clear hK K
                    have A8 := Lib.hid (A8'.out.put (.int .u32 ha) (.int .i64 m))
                    have A7 := Lib.hid (A7'.out.far2 (b' := _) (.int .u32 ha) (.int .i64 m) (NE.out.symm))
                    clear p1 p2 pf1 pf2 A7' A8' hH
                    try simp only [pickOp, Act.put, List.setIfInBounds_toArray, List.set_cons_zero, List.set_cons_succ]
                    refine T_done (NoPanic.normal ?_)
                    have HBz := Lib.hid hH'.1
                    clear hH'
                    go_wp2_with fail
                    go_meet
                    exact ⟨_, _, rfl, rfl, HBz.out, A7.out.1, A8.out.1⟩
                · simp only [pickOp]
                  go_simp
                  refine hK.out _ _ (ckeep (cbelow_al hH.1 _)) (fun hH' => ?_)
                  clear hK K
                  have L8 := Lib.hid hH.1.size
                  clear hH
                  have A8 := Lib.hid (Pf.new wdpqr 24 (.int .u32 0) (.int .i64 0))
                  try simp only [pickOp, Act.put, List.setIfInBounds_toArray, List.set_cons_zero, List.set_cons_succ]
                  obtain ⟨wdpqrb, hwn⟩ : ∃ x, x = wdpqr.alloc (Obj.cells #[.int .u32 0, .int .i64 0] 24) := ⟨_, rfl⟩
                  rw [← hwn] at hH' A8 ⊢
                  have hH := hH'
                  clear hH' hwn
                  refine T_b1 (fun K hK => ?_)
                  · simp only [pickOp]
                    go_simp
                    refine hK.out _ _ (ckeep (cbelow_al hH.1 _)) (fun hH' => ?_)
                    clear hK K
                    have L7 := Lib.hid hH.1.size
                    clear hH
                    have A7 := Lib.hid (Pf.new wdpqrb 24 (.int .u32 0) (.int .i64 0))
                    have NE := Lib.hid (Nat.ne_of_lt A8.out.lt)
                    have A8' := Lib.hid (A8.out.on (cbelow_al (Below.refl _ _) (Obj.cells #[.int .u32 0, .int .i64 0] 24)))
                    clear A8
                    have A8 := A8'
                    clear A8'
                    try simp only [pickOp, Act.put, List.setIfInBounds_toArray, List.set_cons_zero, List.set_cons_succ]
                    obtain ⟨wdpqrba, hwn⟩ : ∃ x, x = wdpqrb.alloc (Obj.cells #[.int .u32 0, .int .i64 0] 24) := ⟨_, rfl⟩
                    rw [← hwn] at hH' A8 A7 ⊢
                    have hH := hH'
                    clear hH' hwn
                    obtain ⟨⟨p1, p2⟩, pf1, pf2⟩ := A7.out
                    refine T_b1 (fun K hK => ?_)
                    simp only [pickOp]
                    go_simp
                    refine hK.out _ _ (ckeep (cbelow_put2 hH.1 L7.out _ _)) (fun hH' => ?_)
                    clear hK K
                    have A7' := Lib.hid (A7.out.put (.int .u32 la) (.int .i64 m))
                    have A8' := Lib.hid (A8.out.far2 (b' := _) (.int .u32 la) (.int .i64 m) (NE.out.symm))
                    clear p1 p2 pf1 pf2 A7 A8 hH
                    try simp only [pickOp, Act.put, List.setIfInBounds_toArray, List.set_cons_zero, List.set_cons_succ]
                    obtain ⟨ws, hws⟩ : ∃ ws, ws = ((wdpqrba.setCell ⟨wdpqrb.heap.size, 0, none⟩ (.int .u32 la)).setCell ⟨wdpqrb.heap.size, 1, none⟩ (.int .i64 m)) := ⟨_, rfl⟩
                    rw [← hws] at hH' A7' A8' ⊢
                    have hH := hH'
                    clear hws hH'
                    obtain ⟨⟨p1, p2⟩, pf1, pf2⟩ := A8'.out
                    refine T_b1 (fun K hK => ?_)
                    simp only [pickOp]
                    go_simp
                    refine hK.out _ _ (ckeep (cbelow_put2 hH.1 L8.out _ _)) (fun hH' => ?_)
                    clear hK K
                    have A8 := Lib.hid (A8'.out.put (.int .u32 ha) (.int .i64 m))
                    have A7 := Lib.hid (A7'.out.far2 (b' := _) (.int .u32 ha) (.int .i64 m) (NE.out.symm.symm))
                    clear p1 p2 pf1 pf2 A7' A8' hH
                    try simp only [pickOp, Act.put, List.setIfInBounds_toArray, List.set_cons_zero, List.set_cons_succ]
                    refine T_done (NoPanic.normal ?_)
                    have HBz := Lib.hid hH'.1
                    clear hH'
                    go_wp2_with fail
                    go_meet
                    exact ⟨_, _, rfl, rfl, HBz.out, A7.out.1, A8.out.1⟩
              · simp only [pickOp]
                go_simp
                refine hK.out _ _ (ckeep (cbelow_al hH.1 _)) (fun hH' => ?_)
                clear hK K
                have L7 := Lib.hid hH.1.size
                clear hH
                have A7 := Lib.hid (Pf.new wdpq 24 (.int .u32 0) (.int .i64 0))
                try simp only [pickOp, Act.put, List.setIfInBounds_toArray, List.set_cons_zero, List.set_cons_succ]
                obtain ⟨wdpqa, hwn⟩ : ∃ x, x = wdpq.alloc (Obj.cells #[.int .u32 0, .int .i64 0] 24) := ⟨_, rfl⟩
                rw [← hwn] at hH' A7 ⊢
                have hH := hH'
                clear hH' hwn
                refine T_b2 (fun K hK => ?_) (fun K hK => ?_)
                · simp only [pickOp]
                  go_simp
                  refine (OHb.out _).mono ?_
                  rintro e wdpqar ⟨rfl, hbx⟩
                  try go_wp2_with fail
                  refine hK.out _ _ (ckeep (cbelow_on hH.1 hbx)) (fun hH' => ?_)
                  clear hK K hH
                  have hH := hH'
                  clear hH'
                  have A7' := Lib.hid (A7.out.on hbx)
                  clear A7
                  have A7 := A7'
                  clear A7'
                  clear hbx
                  try simp only [pickOp, Act.put, List.setIfInBounds_toArray, List.set_cons_zero, List.set_cons_succ]
                  refine T_b1 (fun K hK => ?_)
                  · simp only [pickOp]
                    go_simp
                    refine hK.out _ _ (ckeep (cbelow_al hH.1 _)) (fun hH' => ?_)
                    clear hK K
                    have L8 := Lib.hid hH.1.size
                    clear hH
                    have A8 := Lib.hid (Pf.new wdpqar 24 (.int .u32 0) (.int .i64 0))
                    have NE := Lib.hid (Nat.ne_of_lt A7.out.lt)
                    have A7' := Lib.hid (A7.out.on (cbelow_al (Below.refl _ _) (Obj.cells #[.int .u32 0, .int .i64 0] 24)))
                    clear A7
                    have A7 := A7'
                    clear A7'
                    try simp only [pickOp, Act.put, List.setIfInBounds_toArray, List.set_cons_zero, List.set_cons_succ]
                    obtain ⟨wdpqarb, hwn⟩ : ∃ x, x = wdpqar.alloc (Obj.cells #[.int .u32 0, .int .i64 0] 24) := ⟨_, rfl⟩
                    rw [← hwn] at hH' A7 A8 ⊢
                    have hH := hH'
                    clear hH' hwn
                    obtain ⟨⟨p1, p2⟩, pf1, pf2⟩ := A7.out
                    refine T_b1 (fun K hK => ?_)
                    simp only [pickOp]
                    go_simp
                    refine hK.out _ _ (ckeep (cbelow_put2 hH.1 L7.out _ _)) (fun hH' => ?_)
                    clear hK K
                    have A7' := Lib.hid (A7.out.put (.int .u32 la) (.int .i64 m))
                    have A8' := Lib.hid (A8.out.far2 (b' := _) (.int .u32 la) (.int .i64 m) (NE.out))
                    clear p1 p2 pf1 pf2 A7 A8 hH
                    try simp only [pickOp, Act.put, List.setIfInBounds_toArray, List.set_cons_zero, List.set_cons_succ]
                    obtain ⟨ws, hws⟩ : ∃ ws, ws = ((wdpqarb.setCell ⟨wdpq.heap.size, 0, none⟩ (.int .u32 la)).setCell ⟨wdpq.heap.size, 1, none⟩ (.int .i64 m)) := ⟨_, rfl⟩
                    rw [← hws] at hH' A7' A8' ⊢
                    have hH := hH'
                    clear hws hH'
                    obtain ⟨⟨p1, p2⟩, pf1, pf2⟩ := A8'.out
                    refine T_b1 (fun K hK => ?_)
                    simp only [pickOp]
                    go_simp
                    refine hK.out _ _ (ckeep (cbelow_put2 hH.1 L8.out _ _)) (fun hH' => ?_)
                    clear hK K
                    have A8 := Lib.hid (A8'.out.put (.int .u32 ha) (.int .i64 m))
                    have A7 := Lib.hid (A7'.out.far2 (b' := _) (.int .u32 ha) (.int .i64 m) (NE.out.symm))
                    clear p1 p2 pf1 pf2 A7' A8' hH
                    try simp only [pickOp, Act.put, List.setIfInBounds_toArray, List.set_cons_zero, List.set_cons_succ]
                    refine T_done (NoPanic.normal ?_)
                    have HBz := Lib.hid hH'.1
                    clear hH'
                    go_wp2_with fail
                    go_meet
                    exact ⟨_, _, rfl, rfl, HBz.out, A7.out.1, A8.out.1⟩
                · simp only [pickOp]
                  go_simp
                  refine hK.out _ _ (ckeep (cbelow_al hH.1 _)) (fun hH' => ?_)
                  clear hK K
                  have L8 := Lib.hid hH.1.size
                  clear hH
                  have A8 := Lib.hid (Pf.new wdpqa 24 (.int .u32 0) (.int .i64 0))
                  have NE := Lib.hid (Nat.ne_of_lt A7.out.lt)
                  have A7' := Lib.hid (A7.out.on (cbelow_al (Below.refl _ _) (Obj.cells #[.int .u32 0, .int .i64 0] 24)))
                  clear A7
                  have A7 := A7'
                  clear A7'
                  try simp only [pickOp, Act.put, List.setIfInBounds_toArray, List.set_cons_zero, List.set_cons_succ]
                  obtain ⟨wdpqab, hwn⟩ : ∃ x, x = wdpqa.alloc (Obj.cells #[.int .u32 0, .int .i64 0] 24) := ⟨_, rfl⟩
                  rw [← hwn] at hH' A7 A8 ⊢
                  have hH := hH'
                  clear hH' hwn
                  refine T_b1 (fun K hK => ?_)
                  · simp only [pickOp]
                    go_simp
                    refine (OHb.out _).mono ?_
                    rintro e wdpqabr ⟨rfl, hbx⟩
                    try go_wp2_with fail
                    refine hK.out _ _ (ckeep (cbelow_on hH.1 hbx)) (fun hH' => ?_)
                    clear hK K hH
                    have hH := hH'
                    clear hH'
                    have A7' := Lib.hid (A7.out.on hbx)
                    clear A7
                    have A7 := A7'
                    clear A7'
                    have A8' := Lib.hid (A8.out.on hbx)
                    clear A8
                    have A8 := A8'
                    clear A8'
                    clear hbx
                    try simp only [pickOp, Act.put, List.setIfInBounds_toArray, List.set_cons_zero, List.set_cons_succ]
                    obtain ⟨⟨p1, p2⟩, pf1, pf2⟩ := A7.out
                    refine T_b1 (fun K hK => ?_)
                    simp only [pickOp]
                    go_simp
                    refine hK.out _ _ (ckeep (cbelow_put2 hH.1 L7.out _ _)) (fun hH' => ?_)
                    clear hK K
                    have A7' := Lib.hid (A7.out.put (.int .u32 la) (.int .i64 m))
                    have A8' := Lib.hid (A8.out.far2 (b' := _) (.int .u32 la) (.int .i64 m) (NE.out))
                    clear p1 p2 pf1 pf2 A7 A8 hH
                    try simp only [pickOp, Act.put, List.setIfInBounds_toArray, List.set_cons_zero, List.set_cons_succ]
                    obtain ⟨ws, hws⟩ : ∃ ws, ws = ((wdpqabr.setCell ⟨wdpq.heap.size, 0, none⟩ (.int .u32 la)).setCell ⟨wdpq.heap.size, 1, none⟩ (.int .i64 m)) := ⟨_, rfl⟩
                    rw [← hws] at hH' A7' A8' ⊢
                    have hH := hH'
                    clear hws hH'
                    obtain ⟨⟨p1, p2⟩, pf1, pf2⟩ := A8'.out
                    refine T_b1 (fun K hK => ?_)
                    simp only [pickOp]
                    go_simp
                    refine hK.out _ _ (ckeep (cbelow_put2 hH.1 L8.out _ _)) (fun hH' => ?_)
                    clear hK K
                    have A8 := Lib.hid (A8'.out.put (.int .u32 ha) (.int .i64 m))
                    have A7 := Lib.hid (A7'.out.far2 (b' := _) (.int .u32 ha) (.int .i64 m) (NE.out.symm))
                    clear p1 p2 pf1 pf2 A7' A8' hH
                    try simp only [pickOp, Act.put, List.setIfInBounds_toArray, List.set_cons_zero, List.set_cons_succ]
                    refine T_done (NoPanic.normal ?_)
                    have HBz := Lib.hid hH'.1
                    clear hH'
                    go_wp2_with fail
                    go_meet
                    exact ⟨_, _, rfl, rfl, HBz.out, A7.out.1, A8.out.1⟩
              · simp only [pickOp]
                go_simp
                refine hK.out _ _ (ckeep (cbelow_al hH.1 _)) (fun hH' => ?_)
                clear hK K
                have L8 := Lib.hid hH.1.size
                clear hH
                have A8 := Lib.hid (Pf.new wdpq 24 (.int .u32 0) (.int .i64 0))
                try simp only [pickOp, Act.put, List.setIfInBounds_toArray, List.set_cons_zero, List.set_cons_succ]
                obtain ⟨wdpqb, hwn⟩ : ∃ x, x = wdpq.alloc (Obj.cells #[.int .u32 0, .int .i64 0] 24) := ⟨_, rfl⟩
                rw [← hwn] at hH' A8 ⊢
                have hH := hH'
                clear hH' hwn
                refine T_b2 (fun K hK => ?_) (fun K hK => ?_)
                · simp only [pickOp]
                  go_simp
                  refine (OHb.out _).mono ?_
                  rintro e wdpqbr ⟨rfl, hbx⟩
                  try go_wp2_with fail
                  refine hK.out _ _ (ckeep (cbelow_on hH.1 hbx)) (fun hH' => ?_)
                  clear hK K hH
                  have hH := hH'
                  clear hH'
                  have A8' := Lib.hid (A8.out.on hbx)
                  clear A8
                  have A8 := A8'
                  clear A8'
                  clear hbx
                  try simp only [pickOp, Act.put, List.setIfInBounds_toArray, List.set_cons_zero, List.set_cons_succ]
                  refine T_b1 (fun K hK => ?_)
                  · simp only [pickOp]
                    go_simp
                    refine hK.out _ _ (ckeep (cbelow_al hH.1 _)) (fun hH' => ?_)
                    clear hK K
                    have L7 := Lib.hid hH.1.size
                    clear hH
                    have A7 := Lib.hid (Pf.new wdpqbr 24 (.int .u32 0) (.int .i64 0))
                    have NE := Lib.hid (Nat.ne_of_lt A8.out.lt)
                    have A8' := Lib.hid (A8.out.on (cbelow_al (Below.refl _ _) (Obj.cells #[.int .u32 0, .int .i64 0] 24)))
                    clear A8
                    have A8 := A8'
                    clear A8'
                    try simp only [pickOp, Act.put, List.setIfInBounds_toArray, List.set_cons_zero, List.set_cons_succ]
                    obtain ⟨wdpqbra, hwn⟩ : ∃ x, x = wdpqbr.alloc (Obj.cells #[.int .u32 0, .int .i64 0] 24) := ⟨_, rfl⟩
                    rw [← hwn] at hH' A8 A7 ⊢
                    have hH := hH'
                    clear hH' hwn
                    obtain ⟨⟨p1, p2⟩, pf1, pf2⟩ := A7.out
                    refine T_b1 (fun K hK => ?_)
                    simp only [pickOp]
                    go_simp
                    refine hK.out _ _ (ckeep (cbelow_put2 hH.1 L7.out _ _)) (fun hH' => ?_)
                    clear hK K
                    have A7' := Lib.hid (A7.out.put (.int .u32 la) (.int .i64 m))
                    have A8' := Lib.hid (A8.out.far2 (b' := _) (.int .u32 la) (.int .i64 m) (NE.out.symm))
                    clear p1 p2 pf1 pf2 A7 A8 hH
                    try simp only [pickOp, Act.put, List.setIfInBounds_toArray, List.set_cons_zero, List.set_cons_succ]
                    obtain ⟨ws, hws⟩ : ∃ ws, ws = ((wdpqbra.setCell ⟨wdpqbr.heap.size, 0, none⟩ (.int .u32 la)).setCell ⟨wdpqbr.heap.size, 1, none⟩ (.int .i64 m)) := ⟨_, rfl⟩
                    rw [← hws] at hH' A7' A8' ⊢
                    have hH := hH'
                    clear hws hH'
                    obtain ⟨⟨p1, p2⟩, pf1, pf2⟩ := A8'.out
                    refine T_b1 (fun K hK => ?_)
                    simp only [pickOp]
                    go_simp
                    refine hK.out _ _ (ckeep (cbelow_put2 hH.1 L8.out _ _)) (fun hH' => ?_)
                    clear hK K
                    have A8 := Lib.hid (A8'.out.put (.int .u32 ha) (.int .i64 m))
                    have A7 := Lib.hid (A7'.out.far2 (b' := _) (.int .u32 ha) (.int .i64 m) (NE.out.symm.symm))
                    clear p1 p2 pf1 pf2 A7' A8' hH
                    try simp only [pickOp, Act.put, List.setIfInBounds_toArray, List.set_cons_zero, List.set_cons_succ]
                    refine T_done (NoPanic.normal ?_)
                    have HBz := Lib.hid hH'.1
                    clear hH'
                    go_wp2_with fail
                    go_meet
                    exact ⟨_, _, rfl, rfl, HBz.out, A7.out.1, A8.out.1⟩
                · simp only [pickOp]
                  go_simp
                  refine hK.out _ _ (ckeep (cbelow_al hH.1 _)) (fun hH' => ?_)
                  clear hK K
                  have L7 := Lib.hid hH.1.size
                  clear hH
                  have A7 := Lib.hid (Pf.new wdpqb 24 (.int .u32 0) (.int .i64 0))
                  have NE := Lib.hid (Nat.ne_of_lt A8.out.lt)
                  have A8' := Lib.hid (A8.out.on (cbelow_al (Below.refl _ _) (Obj.cells #[.int .u32 0, .int .i64 0] 24)))
                  clear A8
                  have A8 := A8'
                  clear A8'
                  try simp only [pickOp, Act.put, List.setIfInBounds_toArray, List.set_cons_zero, List.set_cons_succ]
                  obtain ⟨wdpqba, hwn⟩ : ∃ x, x = wdpqb.alloc (Obj.cells #[.int .u32 0, .int .i64 0] 24) := ⟨_, rfl⟩
                  rw [← hwn] at hH' A8 A7 ⊢
                  have hH := hH'
                  clear hH' hwn
                  refine T_b1 (fun K hK => ?_)
                  · simp only [pickOp]
                    go_simp
                    refine (OHb.out _).mono ?_
                    rintro e wdpqbar ⟨rfl, hbx⟩
                    try go_wp2_with fail
                    refine hK.out _ _ (ckeep (cbelow_on hH.1 hbx)) (fun hH' => ?_)
                    clear hK K hH
                    have hH := hH'
                    clear hH'
                    have A8' := Lib.hid (A8.out.on hbx)
                    clear A8
                    have A8 := A8'
                    clear A8'
                    have A7' := Lib.hid (A7.out.on hbx)
                    clear A7
                    have A7 := A7'
                    clear A7'
                    clear hbx
                    try simp only [pickOp, Act.put, List.setIfInBounds_toArray, List.set_cons_zero, List.set_cons_succ]
                    obtain ⟨⟨p1, p2⟩, pf1, pf2⟩ := A7.out
                    refine T_b1 (fun K hK => ?_)
                    simp only [pickOp]
                    go_simp
                    refine hK.out _ _ (ckeep (cbelow_put2 hH.1 L7.out _ _)) (fun hH' => ?_)
                    clear hK K
                    have A7' := Lib.hid (A7.out.put (.int .u32 la) (.int .i64 m))
                    have A8' := Lib.hid (A8.out.far2 (b' := _) (.int .u32 la) (.int .i64 m) (NE.out.symm))
                    clear p1 p2 pf1 pf2 A7 A8 hH
                    try simp only [pickOp, Act.put, List.setIfInBounds_toArray, List.set_cons_zero, List.set_cons_succ]
                    obtain ⟨ws, hws⟩ : ∃ ws, ws = ((wdpqbar.setCell ⟨wdpqb.heap.size, 0, none⟩ (.int .u32 la)).setCell ⟨wdpqb.heap.size, 1, none⟩ (.int .i64 m)) := ⟨_, rfl⟩
                    rw [← hws] at hH' A7' A8' ⊢
                    have hH := hH'
                    clear hws hH'
                    obtain ⟨⟨p1, p2⟩, pf1, pf2⟩ := A8'.out
                    refine T_b1 (fun K hK => ?_)
                    simp only [pickOp]
                    go_simp
                    refine hK.out _ _ (ckeep (cbelow_put2 hH.1 L8.out _ _)) (fun hH' => ?_)
                    clear hK K
                    have A8 := Lib.hid (A8'.out.put (.int .u32 ha) (.int .i64 m))
                    have A7 := Lib.hid (A7'.out.far2 (b' := _) (.int .u32 ha) (.int .i64 m) (NE.out.symm.symm))
                    clear p1 p2 pf1 pf2 A7' A8' hH
                    try simp only [pickOp, Act.put, List.setIfInBounds_toArray, List.set_cons_zero, List.set_cons_succ]
                    refine T_done (NoPanic.normal ?_)
                    have HBz := Lib.hid hH'.1
                    clear hH'
                    go_wp2_with fail
                    go_meet
                    exact ⟨_, _, rfl, rfl, HBz.out, A7.out.1, A8.out.1⟩
            · simp only [pickOp]
              go_simp
              refine hK.out _ _ (ckeep (cbelow_al hH.1 _)) (fun hH' => ?_)
              clear hK K
              have L7 := Lib.hid hH.1.size
              clear hH
              have A7 := Lib.hid (Pf.new wdp 24 (.int .u32 0) (.int .i64 0))
              try simp only [pickOp, Act.put, List.setIfInBounds_toArray, List.set_cons_zero, List.set_cons_succ]
              obtain ⟨wdpa, hwn⟩ : ∃ x, x = wdp.alloc (Obj.cells #[.int .u32 0, .int .i64 0] 24) := ⟨_, rfl⟩
              rw [← hwn] at hH' A7 ⊢
              have hH := hH'
              clear hH' hwn
              refine T_b2 (fun K hK => ?_) (fun K hK => ?_)
              · simp only [pickOp]
                go_simp
                refine (LP.out _).mono ?_
                rintro e wdpaq ⟨rfl, hbx⟩
                try go_wp2_with fail
                refine hK.out _ _ (ckeep (cbelow_on hH.1 hbx)) (fun hH' => ?_)
                clear hK K hH
                have hH := hH'
                clear hH'
                have A7' := Lib.hid (A7.out.on hbx)
                clear A7
                have A7 := A7'
                clear A7'
                clear hbx
                try simp only [pickOp, Act.put, List.setIfInBounds_toArray, List.set_cons_zero, List.set_cons_succ]
                refine T_b2 (fun K hK => ?_) (fun K hK => ?_)
                · simp only [pickOp]
                  go_simp
                  refine (OHb.out _).mono ?_
                  rintro e wdpaqr ⟨rfl, hbx⟩
                  try go_wp2_with fail
                  refine hK.out _ _ (ckeep (cbelow_on hH.1 hbx)) (fun hH' => ?_)
                  clear hK K hH
                  have hH := hH'
                  clear hH'
                  have A7' := Lib.hid (A7.out.on hbx)
                  clear A7
                  have A7 := A7'
                  clear A7'
                  clear hbx
                  try simp only [pickOp, Act.put, List.setIfInBounds_toArray, List.set_cons_zero, List.set_cons_succ]
                  refine T_b1 (fun K hK => ?_)
                  · simp only [pickOp]
                    go_simp
                    refine hK.out _ _ (ckeep (cbelow_al hH.1 _)) (fun hH' => ?_)
                    clear hK K
                    have L8 := Lib.hid hH.1.size
                    clear hH
                    have A8 := Lib.hid (Pf.new wdpaqr 24 (.int .u32 0) (.int .i64 0))
                    have NE := Lib.hid (Nat.ne_of_lt A7.out.lt)
                    have A7' := Lib.hid (A7.out.on (cbelow_al (Below.refl _ _) (Obj.cells #[.int .u32 0, .int .i64 0] 24)))
                    clear A7
                    have A7 := A7'
                    clear A7'
                    try simp only [pickOp, Act.put, List.setIfInBounds_toArray, List.set_cons_zero, List.set_cons_succ]
                    obtain ⟨wdpaqrb, hwn⟩ : ∃ x, x = wdpaqr.alloc (Obj.cells #[.int .u32 0, .int .i64 0] 24) := ⟨_, rfl⟩
                    rw [← hwn] at hH' A7 A8 ⊢
                    have hH := hH'
                    clear hH' hwn
                    obtain ⟨⟨p1, p2⟩, pf1, pf2⟩ := A7.out
                    refine T_b1 (fun K hK => ?_)
                    simp only [pickOp]
                    go_simp
                    refine hK.out _ _ (ckeep (cbelow_put2 hH.1 L7.out _ _)) (fun hH' => ?_)
                    clear hK K
                    have A7' := Lib.hid (A7.out.put (.int .u32 la) (.int .i64 m))
                    have A8' := Lib.hid (A8.out.far2 (b' := _) (.int .u32 la) (.int .i64 m) (NE.out))
                    clear p1 p2 pf1 pf2 A7 A8 hH
                    try simp only [pickOp, Act.put, List.setIfInBounds_toArray, List.set_cons_zero, List.set_cons_succ]
                    obtain ⟨ws, hws⟩ : ∃ ws, ws = ((wdpaqrb.setCell ⟨wdp.heap.size, 0, none⟩ (.int .u32 la)).setCell ⟨wdp.heap.size, 1, none⟩ (.int .i64 m)) := ⟨_, rfl⟩
                    rw [← hws] at hH' A7' A8' ⊢
                    have hH := hH'
                    clear hws hH'
                    obtain ⟨⟨p1, p2⟩, pf1, pf2⟩ := A8'.out
                    refine T_b1 (fun K hK => ?_)
                    simp only [pickOp]
                    go_simp
                    refine hK.out _ _ (ckeep (cbelow_put2 hH.1 L8.out _ _)) (fun hH' => ?_)
                    clear hK K
                    have A8 := Lib.hid (A8'.out.put (.int .u32 ha) (.int .i64 m))
                    have A7 := Lib.hid (A7'.out.far2 (b' := _) (.int .u32 ha) (.int .i64 m) (NE.out.symm))
                    clear p1 p2 pf1 pf2 A7' A8' hH
                    try simp only [pickOp, Act.put, List.setIfInBounds_toArray, List.set_cons_zero, List.set_cons_succ]
                    refine T_done (NoPanic.normal ?_)
                    have HBz := Lib.hid hH'.1
                    clear hH'
                    go_wp2_with fail
                    go_meet
                    exact ⟨_, _, rfl, rfl, HBz.out, A7.out.1, A8.out.1⟩
                · simp only [pickOp]
                  go_simp
                  refine hK.out _ _ (ckeep (cbelow_al hH.1 _)) (fun hH' => ?_)
                  clear hK K
                  have L8 := Lib.hid hH.1.size
                  clear hH
                  have A8 := Lib.hid (Pf.new wdpaq 24 (.int .u32 0) (.int .i64 0))
                  have NE := Lib.hid (Nat.ne_of_lt A7.out.lt)
                  have A7' := Lib.hid (A7.out.on (cbelow_al (Below.refl _ _) (Obj.cells #[.int .u32 0, .int .i64 0] 24)))
                  clear A7
                  have A7 := A7'
                  clear A7'
                  try simp only [pickOp, Act.put, List.setIfInBounds_toArray, List.set_cons_zero, List.set_cons_succ]
                  obtain ⟨wdpaqb, hwn⟩ : ∃ x, x = wdpaq.alloc (Obj.cells #[.int .u32 0, .int .i64 0] 24) := ⟨_, rfl⟩
                  rw [← hwn] at hH' A7 A8 ⊢
                  have hH := hH'
                  clear hH' hwn
                  refine T_b1 (fun K hK => ?_)
                  · simp only [pickOp]
                    go_simp
                    refine (OHb.out _).mono ?_
                    rintro e wdpaqbr ⟨rfl, hbx⟩
                    try go_wp2_with fail
                    refine hK.out _ _ (ckeep (cbelow_on hH.1 hbx)) (fun hH' => ?_)
                    clear hK K hH
                    have hH := hH'
                    clear hH'
                    have A7' := Lib.hid (A7.out.on hbx)
                    clear A7
                    have A7 := A7'
                    clear A7'
                    have A8' := Lib.hid (A8.out.on hbx)
                    clear A8
                    have A8 := A8'
                    clear A8'
                    clear hbx
                    try simp only [pickOp, Act.put, List.setIfInBounds_toArray, List.set_cons_zero, List.set_cons_succ]
                    obtain ⟨⟨p1, p2⟩, pf1, pf2⟩ := A7.out
                    refine T_b1 (fun K hK => ?_)
                    simp only [pickOp]
                    go_simp
                    refine hK.out _ _ (ckeep (cbelow_put2 hH.1 L7.out _ _)) (fun hH' => ?_)
                    clear hK K
                    have A7' := Lib.hid (A7.out.put (.int .u32 la) (.int .i64 m))
                    have A8' := Lib.hid (A8.out.far2 (b' := _) (.int .u32 la) (.int .i64 m) (NE.out))
                    clear p1 p2 pf1 pf2 A7 A8 hH
                    try simp only [pickOp, Act.put, List.setIfInBounds_toArray, List.set_cons_zero, List.set_cons_succ]
                    obtain ⟨ws, hws⟩ : ∃ ws, ws = ((wdpaqbr.setCell ⟨wdp.heap.size, 0, none⟩ (.int .u32 la)).setCell ⟨wdp.heap.size, 1, none⟩ (.int .i64 m)) := ⟨_, rfl⟩
                    rw [← hws] at hH' A7' A8' ⊢
                    have hH := hH'
                    clear hws hH'
                    obtain ⟨⟨p1, p2⟩, pf1, pf2⟩ := A8'.out
                    refine T_b1 (fun K hK => ?_)
                    simp only [pickOp]
                    go_simp
                    refine hK.out _ _ (ckeep (cbelow_put2 hH.1 L8.out _ _)) (fun hH' => ?_)
                    clear hK K
                    have A8 := Lib.hid (A8'.out.put (.int .u32 ha) (.int .i64 m))
                    have A7 := Lib.hid (A7'.out.far2 (b' := _) (.int .u32 ha) (.int .i64 m) (NE.out.symm))
                    clear p1 p2 pf1 pf2 A7' A8' hH
                    try simp only [pickOp, Act.put, List.setIfInBounds_toArray, List.set_cons_zero, List.set_cons_succ]
                    refine T_done (NoPanic.normal ?_)
                    have HBz := Lib.hid hH'.1
                    clear hH'
                    go_wp2_with fail
                    go_meet
                    exact ⟨_, _, rfl, rfl, HBz.out, A7.out.1, A8.out.1⟩
              · simp only [pickOp]
                go_simp
                refine hK.out _ _ (ckeep (cbelow_al hH.1 _)) (fun hH' => ?_)
                clear hK K
                have L8 := Lib.hid hH.1.size
                clear hH
                have A8 := Lib.hid (Pf.new wdpa 24 (.int .u32 0) (.int .i64 0))
                have NE := Lib.hid (Nat.ne_of_lt A7.out.lt)
                have A7' := Lib.hid (A7.out.on (cbelow_al (Below.refl _ _) (Obj.cells #[.int .u32 0, .int .i64 0] 24)))
                clear A7
                have A7 := A7'
                clear A7'
                try simp only [pickOp, Act.put, List.setIfInBounds_toArray, List.set_cons_zero, List.set_cons_succ]
                obtain ⟨wdpab, hwn⟩ : ∃ x, x = wdpa.alloc (Obj.cells #[.int .u32 0, .int .i64 0] 24) := ⟨_, rfl⟩
                rw [← hwn] at hH' A7 A8 ⊢
                have hH := hH'
                clear hH' hwn
                refine T_b1 (fun K hK => ?_)
                · simp only [pickOp]
                  go_simp
                  refine (LP.out _).mono ?_
                  rintro e wdpabq ⟨rfl, hbx⟩
                  try go_wp2_with fail
                  refine hK.out _ _ (ckeep (cbelow_on hH.1 hbx)) (fun hH' => ?_)
                  clear hK K hH
                  have hH := hH'
                  clear hH'
                  have A7' := Lib.hid (A7.out.on hbx)
                  clear A7
                  have A7 := A7'
                  clear A7'
                  have A8' := Lib.hid (A8.out.on hbx)
                  clear A8
                  have A8 := A8'
                  clear A8'
                  clear hbx
                  try simp only [pickOp, Act.put, List.setIfInBounds_toArray, List.set_cons_zero, List.set_cons_succ]
                  refine T_b1 (fun K hK => ?_)
                  · simp only [pickOp]
                    go_simp
                    refine (OHb.out _).mono ?_
                    rintro e wdpabqr ⟨rfl, hbx⟩
                    try go_wp2_with fail
                    refine hK.out _ _ (ckeep (cbelow_on hH.1 hbx)) (fun hH' => ?_)
                    clear hK K hH
                    have hH := hH'
                    clear hH'
                    have A7' := Lib.hid (A7.out.on hbx)
                    clear A7
                    have A7 := A7'
                    clear A7'
                    have A8' := Lib.hid (A8.out.on hbx)
                    clear A8
                    have A8 := A8'
                    clear A8'
                    clear hbx
                    try simp only [pickOp, Act.put, List.setIfInBounds_toArray, List.set_cons_zero, List.set_cons_succ]
                    obtain ⟨⟨p1, p2⟩, pf1, pf2⟩ := A7.out
                    refine T_b1 (fun K hK => ?_)
                    simp only [pickOp]
                    go_simp
                    refine hK.out _ _ (ckeep (cbelow_put2 hH.1 L7.out _ _)) (fun hH' => ?_)
                    clear hK K
                    have A7' := Lib.hid (A7.out.put (.int .u32 la) (.int .i64 m))
                    have A8' := Lib.hid (A8.out.far2 (b' := _) (.int .u32 la) (.int .i64 m) (NE.out))
                    clear p1 p2 pf1 pf2 A7 A8 hH
                    try simp only [pickOp, Act.put, List.setIfInBounds_toArray, List.set_cons_zero, List.set_cons_succ]
                    obtain ⟨ws, hws⟩ : ∃ ws, ws = ((wdpabqr.setCell ⟨wdp.heap.size, 0, none⟩ (.int .u32 la)).setCell ⟨wdp.heap.size, 1, none⟩ (.int .i64 m)) := ⟨_, rfl⟩
                    rw [← hws] at hH' A7' A8' ⊢
                    have hH := hH'
                    clear hws hH'
                    obtain ⟨⟨p1, p2⟩, pf1, pf2⟩ := A8'.out
                    refine T_b1 (fun K hK => ?_)
                    simp only [pickOp]
                    go_simp
                    refine hK.out _ _ (ckeep (cbelow_put2 hH.1 L8.out _ _)) (fun hH' => ?_)
                    clear hK K
                    have A8 := Lib.hid (A8'.out.put (.int .u32 ha) (.int .i64 m))
                    have A7 := Lib.hid (A7'.out.far2 (b' := _) (.int .u32 ha) (.int .i64 m) (NE.out.symm))
                    clear p1 p2 pf1 pf2 A7' A8' hH
                    try simp only [pickOp, Act.put, List.setIfInBounds_toArray, List.set_cons_zero, List.set_cons_succ]
                    refine T_done (NoPanic.normal ?_)
                    have HBz := Lib.hid hH'.1
                    clear hH'
                    go_wp2_with fail
                    go_meet
                    exact ⟨_, _, rfl, rfl, HBz.out, A7.out.1, A8.out.1⟩
            · simp only [pickOp]
              go_simp
              refine hK.out _ _ (ckeep (cbelow_al hH.1 _)) (fun hH' => ?_)
              clear hK K
              have L8 := Lib.hid hH.1.size
              clear hH
              have A8 := Lib.hid (Pf.new wdp 24 (.int .u32 0) (.int .i64 0))
              try simp only [pickOp, Act.put, List.setIfInBounds_toArray, List.set_cons_zero, List.set_cons_succ]
              obtain ⟨wdpb, hwn⟩ : ∃ x, x = wdp.alloc (Obj.cells #[.int .u32 0, .int .i64 0] 24) := ⟨_, rfl⟩
              rw [← hwn] at hH' A8 ⊢
              have hH := hH'
              clear hH' hwn
              refine T_b2 (fun K hK => ?_) (fun K hK => ?_)
              · simp only [pickOp]
                go_simp
                refine (LP.out _).mono ?_
                rintro e wdpbq ⟨rfl, hbx⟩
                try go_wp2_with fail
                refine hK.out _ _ (ckeep (cbelow_on hH.1 hbx)) (fun hH' => ?_)
                clear hK K hH
                have hH := hH'
                clear hH'
                have A8' := Lib.hid (A8.out.on hbx)
                clear A8
                have A8 := A8'
                clear A8'
                clear hbx
                try simp only [pickOp, Act.put, List.setIfInBounds_toArray, List.set_cons_zero, List.set_cons_succ]
                refine T_b2 (fun K hK => ?_) (fun K hK => ?_)
                · simp only [pickOp]
                  go_simp
                  refine (OHb.out _).mono ?_
                  rintro e wdpbqr ⟨rfl, hbx⟩
                  try go_wp2_with fail
                  refine hK.out _ _ (ckeep (cbelow_on hH.1 hbx)) (fun hH' => ?_)
                  clear hK K hH
                  have hH := hH'
                  clear hH'
                  have A8' := Lib.hid (A8.out.on hbx)
                  clear A8
                  have A8 := A8'
                  clear A8'
                  clear hbx
                  try simp only [pickOp, Act.put, List.setIfInBounds_toArray, List.set_cons_zero, List.set_cons_succ]
                  refine T_b1 (fun K hK => ?_)
                  · simp only [pickOp]
                    go_simp
                    refine hK.out _ _ (ckeep (cbelow_al hH.1 _)) (fun hH' => ?_)
                    clear hK K
                    have L7 := Lib.hid hH.1.size
                    clear hH
                    have A7 := Lib.hid (Pf.new wdpbqr 24 (.int .u32 0) (.int .i64 0))
                    have NE := Lib.hid (Nat.ne_of_lt A8.out.lt)
                    have A8' := Lib.hid (A8.out.on (cbelow_al (Below.refl _ _) (Obj.cells #[.int .u32 0, .int .i64 0] 24)))
                    clear A8
                    have A8 := A8'
                    clear A8'
                    try simp only [pickOp, Act.put, List.setIfInBounds_toArray, List.set_cons_zero, List.set_cons_succ]
                    obtain ⟨wdpbqra, hwn⟩ : ∃ x, x = wdpbqr.alloc (Obj.cells #[.int .u32 0, .int .i64 0] 24) := ⟨_, rfl⟩
                    rw [← hwn] at hH' A8 A7 ⊢
                    have hH := hH'
                    clear hH' hwn
                    obtain ⟨⟨p1, p2⟩, pf1, pf2⟩ := A7.out
                    refine T_b1 (fun K hK => ?_)
                    simp only [pickOp]
                    go_simp
                    refine hK.out _ _ (ckeep (cbelow_put2 hH.1 L7.out _ _)) (fun hH' => ?_)
                    clear hK K
                    have A7' := Lib.hid (A7.out.put (.int .u32 la) (.int .i64 m))
                    have A8' := Lib.hid (A8.out.far2 (b' := _) (.int .u32 la) (.int .i64 m) (NE.out.symm))
                    clear p1 p2 pf1 pf2 A7 A8 hH
                    try simp only [pickOp, Act.put, List.setIfInBounds_toArray, List.set_cons_zero, List.set_cons_succ]
                    obtain ⟨ws, hws⟩ : ∃ ws, ws = ((wdpbqra.setCell ⟨wdpbqr.heap.size, 0, none⟩ (.int .u32 la)).setCell ⟨wdpbqr.heap.size, 1, none⟩ (.int .i64 m)) := ⟨_, rfl⟩
                    rw [← hws] at hH' A7' A8' ⊢
                    have hH := hH'
                    clear hws hH'
                    obtain ⟨⟨p1, p2⟩, pf1, pf2⟩ := A8'.out
                    refine T_b1 (fun K hK => ?_)
                    simp only [pickOp]
                    go_simp
                    refine hK.out _ _ (ckeep (cbelow_put2 hH.1 L8.out _ _)) (fun hH' => ?_)
                    clear hK K
                    have A8 := Lib.hid (A8'.out.put (.int .u32 ha) (.int .i64 m))
                    have A7 := Lib.hid (A7'.out.far2 (b' := _) (.int .u32 ha) (.int .i64 m) (NE.out.symm.symm))
                    clear p1 p2 pf1 pf2 A7' A8' hH
                    try simp only [pickOp, Act.put, List.setIfInBounds_toArray, List.set_cons_zero, List.set_cons_succ]
                    refine T_done (NoPanic.normal ?_)
                    have HBz := Lib.hid hH'.1
                    clear hH'
                    go_wp2_with fail
                    go_meet
                    exact ⟨_, _, rfl, rfl, HBz.out, A7.out.1, A8.out.1⟩
                · simp only [pickOp]
                  go_simp
                  refine hK.out _ _ (ckeep (cbelow_al hH.1 _)) (fun hH' => ?_)
                  clear hK K
                  have L7 := Lib.hid hH.1.size
                  clear hH
                  have A7 := Lib.hid (Pf.new wdpbq 24 (.int .u32 0) (.int .i64 0))
                  have NE := Lib.hid (Nat.ne_of_lt A8.out.lt)
                  have A8' := Lib.hid (A8.out.on (cbelow_al (Below.refl _ _) (Obj.cells #[.int .u32 0, .int .i64 0] 24)))
                  clear A8
                  have A8 := A8'
                  clear A8'
                  try simp only [pickOp, Act.put, List.setIfInBounds_toArray, List.set_cons_zero, List.set_cons_succ]
                  obtain ⟨wdpbqa, hwn⟩ : ∃ x, x = wdpbq.alloc (Obj.cells #[.int .u32 0, .int .i64 0] 24) := ⟨_, rfl⟩
                  rw [← hwn] at hH' A8 A7 ⊢
                  have hH := hH'
                  clear hH' hwn
                  refine T_b1 (fun K hK => ?_)
                  · simp only [pickOp]
                    go_simp
                    refine (OHb.out _).mono ?_
                    rintro e wdpbqar ⟨rfl, hbx⟩
                    try go_wp2_with fail
                    refine hK.out _ _ (ckeep (cbelow_on hH.1 hbx)) (fun hH' => ?_)
                    clear hK K hH
                    have hH := hH'
                    clear hH'
                    have A8' := Lib.hid (A8.out.on hbx)
                    clear A8
                    have A8 := A8'
                    clear A8'
                    have A7' := Lib.hid (A7.out.on hbx)
                    clear A7
                    have A7 := A7'
                    clear A7'
                    clear hbx
                    try simp only [pickOp, Act.put, List.setIfInBounds_toArray, List.set_cons_zero, List.set_cons_succ]
                    obtain ⟨⟨p1, p2⟩, pf1, pf2⟩ := A7.out
                    refine T_b1 (fun K hK => ?_)
                    simp only [pickOp]
                    go_simp
                    refine hK.out _ _ (ckeep (cbelow_put2 hH.1 L7.out _ _)) (fun hH' => ?_)
                    clear hK K
                    have A7' := Lib.hid (A7.out.put (.int .u32 la) (.int .i64 m))
                    have A8' := Lib.hid (A8.out.far2 (b' := _) (.int .u32 la) (.int .i64 m) (NE.out.symm))
                    clear p1 p2 pf1 pf2 A7 A8 hH
                    try simp only [pickOp, Act.put, List.setIfInBounds_toArray, List.set_cons_zero, List.set_cons_succ]
                    obtain ⟨ws, hws⟩ : ∃ ws, ws = ((wdpbqar.setCell ⟨wdpbq.heap.size, 0, none⟩ (.int .u32 la)).setCell ⟨wdpbq.heap.size, 1, none⟩ (.int .i64 m)) := ⟨_, rfl⟩
                    rw [← hws] at hH' A7' A8' ⊢
                    have hH := hH'
                    clear hws hH'
                    obtain ⟨⟨p1, p2⟩, pf1, pf2⟩ := A8'.out
                    refine T_b1 (fun K hK => ?_)
                    simp only [pickOp]
                    go_simp
                    refine hK.out _ _ (ckeep (cbelow_put2 hH.1 L8.out _ _)) (fun hH' => ?_)
                    clear hK K
                    have A8 := Lib.hid (A8'.out.put (.int .u32 ha) (.int .i64 m))
                    have A7 := Lib.hid (A7'.out.far2 (b' := _) (.int .u32 ha) (.int .i64 m) (NE.out.symm.symm))
                    clear p1 p2 pf1 pf2 A7' A8' hH
                    try simp only [pickOp, Act.put, List.setIfInBounds_toArray, List.set_cons_zero, List.set_cons_succ]
                    refine T_done (NoPanic.normal ?_)
                    have HBz := Lib.hid hH'.1
                    clear hH'
                    go_wp2_with fail
                    go_meet
                    exact ⟨_, _, rfl, rfl, HBz.out, A7.out.1, A8.out.1⟩
              · simp only [pickOp]
                go_simp
                refine hK.out _ _ (ckeep (cbelow_al hH.1 _)) (fun hH' => ?_)
                clear hK K
                have L7 := Lib.hid hH.1.size
                clear hH
                have A7 := Lib.hid (Pf.new wdpb 24 (.int .u32 0) (.int .i64 0))
                have NE := Lib.hid (Nat.ne_of_lt A8.out.lt)
                have A8' := Lib.hid (A8.out.on (cbelow_al (Below.refl _ _) (Obj.cells #[.int .u32 0, .int .i64 0] 24)))
                clear A8
                have A8 := A8'
                clear A8'
                try simp only [pickOp, Act.put, List.setIfInBounds_toArray, List.set_cons_zero, List.set_cons_succ]
                obtain ⟨wdpba, hwn⟩ : ∃ x, x = wdpb.alloc (Obj.cells #[.int .u32 0, .int .i64 0] 24) := ⟨_, rfl⟩
                rw [← hwn] at hH' A8 A7 ⊢
                have hH := hH'
                clear hH' hwn
                refine T_b1 (fun K hK => ?_)
                · simp only [pickOp]
                  go_simp
                  refine (LP.out _).mono ?_
                  rintro e wdpbaq ⟨rfl, hbx⟩
                  try go_wp2_with fail
                  refine hK.out _ _ (ckeep (cbelow_on hH.1 hbx)) (fun hH' => ?_)
                  clear hK K hH
                  have hH := hH'
                  clear hH'
                  have A8' := Lib.hid (A8.out.on hbx)
                  clear A8
                  have A8 := A8'
                  clear A8'
                  have A7' := Lib.hid (A7.out.on hbx)
                  clear A7
                  have A7 := A7'
                  clear A7'
                  clear hbx
                  try simp only [pickOp, Act.put, List.setIfInBounds_toArray, List.set_cons_zero, List.set_cons_succ]
                  refine T_b1 (fun K hK => ?_)
                  · simp only [pickOp]
                    go_simp
                    refine (OHb.out _).mono ?_
                    rintro e wdpbaqr ⟨rfl, hbx⟩
                    try go_wp2_with fail
                    refine hK.out _ _ (ckeep (cbelow_on hH.1 hbx)) (fun hH' => ?_)
                    clear hK K hH
                    have hH := hH'
                    clear hH'
                    have A8' := Lib.hid (A8.out.on hbx)
                    clear A8
                    have A8 := A8'
                    clear A8'
                    have A7' := Lib.hid (A7.out.on hbx)
                    clear A7
                    have A7 := A7'
                    clear A7'
                    clear hbx
                    try simp only [pickOp, Act.put, List.setIfInBounds_toArray, List.set_cons_zero, List.set_cons_succ]
                    obtain ⟨⟨p1, p2⟩, pf1, pf2⟩ := A7.out
                    refine T_b1 (fun K hK => ?_)
                    simp only [pickOp]
                    go_simp
                    refine hK.out _ _ (ckeep (cbelow_put2 hH.1 L7.out _ _)) (fun hH' => ?_)
                    clear hK K
                    have A7' := Lib.hid (A7.out.put (.int .u32 la) (.int .i64 m))
                    have A8' := Lib.hid (A8.out.far2 (b' := _) (.int .u32 la) (.int .i64 m) (NE.out.symm))
                    clear p1 p2 pf1 pf2 A7 A8 hH
                    try simp only [pickOp, Act.put, List.setIfInBounds_toArray, List.set_cons_zero, List.set_cons_succ]
                    obtain ⟨ws, hws⟩ : ∃ ws, ws = ((wdpbaqr.setCell ⟨wdpb.heap.size, 0, none⟩ (.int .u32 la)).setCell ⟨wdpb.heap.size, 1, none⟩ (.int .i64 m)) := ⟨_, rfl⟩
                    rw [← hws] at hH' A7' A8' ⊢
                    have hH := hH'
                    clear hws hH'
                    obtain ⟨⟨p1, p2⟩, pf1, pf2⟩ := A8'.out
                    refine T_b1 (fun K hK => ?_)
                    simp only [pickOp]
                    go_simp
                    refine hK.out _ _ (ckeep (cbelow_put2 hH.1 L8.out _ _)) (fun hH' => ?_)
                    clear hK K
                    have A8 := Lib.hid (A8'.out.put (.int .u32 ha) (.int .i64 m))
                    have A7 := Lib.hid (A7'.out.far2 (b' := _) (.int .u32 ha) (.int .i64 m) (NE.out.symm.symm))
                    clear p1 p2 pf1 pf2 A7' A8' hH
                    try simp only [pickOp, Act.put, List.setIfInBounds_toArray, List.set_cons_zero, List.set_cons_succ]
                    refine T_done (NoPanic.normal ?_)
                    have HBz := Lib.hid hH'.1
                    clear hH'
                    go_wp2_with fail
                    go_meet
                    exact ⟨_, _, rfl, rfl, HBz.out, A7.out.1, A8.out.1⟩
          · simp only [pickOp]
            go_simp
            refine hK.out _ _ (ckeep (cbelow_al hH.1 _)) (fun hH' => ?_)
            clear hK K
            have L7 := Lib.hid hH.1.size
            clear hH
            have A7 := Lib.hid (Pf.new wd 24 (.int .u32 0) (.int .i64 0))
            try simp only [pickOp, Act.put, List.setIfInBounds_toArray, List.set_cons_zero, List.set_cons_succ]
            obtain ⟨wda, hwn⟩ : ∃ x, x = wd.alloc (Obj.cells #[.int .u32 0, .int .i64 0] 24) := ⟨_, rfl⟩
            rw [← hwn] at hH' A7 ⊢
            have hH := hH'
            clear hH' hwn
            refine T_b2 (fun K hK => ?_) (fun K hK => ?_)
            · simp only [pickOp]
              go_simp
              refine (OLb.out _).mono ?_
              rintro e wdap ⟨rfl, hbx⟩
              try go_wp2_with fail
              refine hK.out _ _ (ckeep (cbelow_on hH.1 hbx)) (fun hH' => ?_)
              clear hK K hH
              have hH := hH'
              clear hH'
              have A7' := Lib.hid (A7.out.on hbx)
              clear A7
              have A7 := A7'
              clear A7'
              clear hbx
              try simp only [pickOp, Act.put, List.setIfInBounds_toArray, List.set_cons_zero, List.set_cons_succ]
              refine T_b2 (fun K hK => ?_) (fun K hK => ?_)
              · simp only [pickOp]
                go_simp
                refine (LP.out _).mono ?_
                rintro e wdapq ⟨rfl, hbx⟩
                try go_wp2_with fail
                refine hK.out _ _ (ckeep (cbelow_on hH.1 hbx)) (fun hH' => ?_)
                clear hK K hH
                have hH := hH'
                clear hH'
                have A7' := Lib.hid (A7.out.on hbx)
                clear A7
                have A7 := A7'
                clear A7'
                clear hbx
                try simp only [pickOp, Act.put, List.setIfInBounds_toArray, List.set_cons_zero, List.set_cons_succ]
                refine T_b2 (fun K hK => ?_) (fun K hK => ?_)
                · simp only [pickOp]
                  go_simp
                  refine (OHb.out _).mono ?_
                  rintro e wdapqr ⟨rfl, hbx⟩
                  try go_wp2_with fail
                  refine hK.out _ _ (ckeep (cbelow_on hH.1 hbx)) (fun hH' => ?_)
                  clear hK K hH
                  have hH := hH'
                  clear hH'
                  have A7' := Lib.hid (A7.out.on hbx)
                  clear A7
                  have A7 := A7'
                  clear A7'
                  clear hbx
                  try simp only [pickOp, Act.put, List.setIfInBounds_toArray, List.set_cons_zero, List.set_cons_succ]
                  refine T_b1 (fun K hK => ?_)
                  · simp only [pickOp]
                    go_simp
                    refine hK.out _ _ (ckeep (cbelow_al hH.1 _)) (fun hH' => ?_)
                    clear hK K
                    have L8 := Lib.hid hH.1.size
                    clear hH
                    have A8 := Lib.hid (Pf.new wdapqr 24 (.int .u32 0) (.int .i64 0))
                    have NE := Lib.hid (Nat.ne_of_lt A7.out.lt)
                    have A7' := Lib.hid (A7.out.on (cbelow_al (Below.refl _ _) (Obj.cells #[.int .u32 0, .int .i64 0] 24)))
                    clear A7
                    have A7 := A7'
                    clear A7'
                    try simp only [pickOp, Act.put, List.setIfInBounds_toArray, List.set_cons_zero, List.set_cons_succ]
                    obtain ⟨wdapqrb, hwn⟩ : ∃ x, x = wdapqr.alloc (Obj.cells #[.int .u32 0, .int .i64 0] 24) := ⟨_, rfl⟩
                    rw [← hwn] at hH' A7 A8 ⊢
                    have hH := hH'
                    clear hH' hwn
                    obtain ⟨⟨p1, p2⟩, pf1, pf2⟩ := A7.out
                    refine T_b1 (fun K hK => ?_)
                    simp only [pickOp]
                    go_simp
                    refine hK.out _ _ (ckeep (cbelow_put2 hH.1 L7.out _ _)) (fun hH' => ?_)
                    clear hK K
                    have A7' := Lib.hid (A7.out.put (.int .u32 la) (.int .i64 m))
                    have A8' := Lib.hid (A8.out.far2 (b' := _) (.int .u32 la) (.int .i64 m) (NE.out))
                    clear p1 p2 pf1 pf2 A7 A8 hH
                    try simp only [pickOp, Act.put, List.setIfInBounds_toArray, List.set_cons_zero, List.set_cons_succ]
                    obtain ⟨ws, hws⟩ : ∃ ws, ws = ((wdapqrb.setCell ⟨wd.heap.size, 0, none⟩ (.int .u32 la)).setCell ⟨wd.heap.size, 1, none⟩ (.int .i64 m)) := ⟨_, rfl⟩
                    rw [← hws] at hH' A7' A8' ⊢
                    have hH := hH'
                    clear hws hH'
                    obtain ⟨⟨p1, p2⟩, pf1, pf2⟩ := A8'.out
                    refine T_b1 (fun K hK => ?_)
                    simp only [pickOp]
                    go_simp
                    refine hK.out _ _ (ckeep (cbelow_put2 hH.1 L8.out _ _)) (fun hH' => ?_)
                    clear hK K
                    have A8 := Lib.hid (A8'.out.put (.int .u32 ha) (.int .i64 m))
                    have A7 := Lib.hid (A7'.out.far2 (b' := _) (.int .u32 ha) (.int .i64 m) (NE.out.symm))
                    clear p1 p2 pf1 pf2 A7' A8' hH
                    try simp only [pickOp, Act.put, List.setIfInBounds_toArray, List.set_cons_zero, List.set_cons_succ]
                    refine T_done (NoPanic.normal ?_)
                    have HBz := Lib.hid hH'.1
                    clear hH'
                    go_wp2_with fail
                    go_meet
                    exact ⟨_, _, rfl, rfl, HBz.out, A7.out.1, A8.out.1⟩
                · simp only [pickOp]
                  go_simp
                  refine hK.out _ _ (ckeep (cbelow_al hH.1 _)) (fun hH' => ?_)
                  clear hK K
                  have L8 := Lib.hid hH.1.size
                  clear hH
                  have A8 := Lib.hid (Pf.new wdapq 24 (.int .u32 0) (.int .i64 0))
                  have NE := Lib.hid (Nat.ne_of_lt A7.out.lt)
                  have A7' := Lib.hid (A7.out.on (cbelow_al (Below.refl _ _) (Obj.cells #[.int .u32 0, .int .i64 0] 24)))
                  clear A7
                  have A7 := A7'
                  clear A7'
                  try simp only [pickOp, Act.put, List.setIfInBounds_toArray, List.set_cons_zero, List.set_cons_succ]
                  obtain ⟨wdapqb, hwn⟩ : ∃ x, x = wdapq.alloc (Obj.cells #[.int .u32 0, .int .i64 0] 24) := ⟨_, rfl⟩
                  rw [← hwn] at hH' A7 A8 ⊢
                  have hH := hH'
                  clear hH' hwn
                  refine T_b1 (fun K hK => ?_)
                  · simp only [pickOp]
                    go_simp
                    refine (OHb.out _).mono ?_
                    rintro e wdapqbr ⟨rfl, hbx⟩
                    try go_wp2_with fail
                    refine hK.out _ _ (ckeep (cbelow_on hH.1 hbx)) (fun hH' => ?_)
                    clear hK K hH
                    have hH := hH'
                    clear hH'
                    have A7' := Lib.hid (A7.out.on hbx)
                    clear A7
                    have A7 := A7'
                    clear A7'
                    have A8' := Lib.hid (A8.out.on hbx)
                    clear A8
                    have A8 := A8'
                    clear A8'
                    clear hbx
                    try simp only [pickOp, Act.put, List.setIfInBounds_toArray, List.set_cons_zero, List.set_cons_succ]
                    obtain ⟨⟨p1, p2⟩, pf1, pf2⟩ := A7.out
                    refine T_b1 (fun K hK => ?_)
                    simp only [pickOp]
                    go_simp
                    refine hK.out _ _ (ckeep (cbelow_put2 hH.1 L7.out _ _)) (fun hH' => ?_)
                    clear hK K
                    have A7' := Lib.hid (A7.out.put (.int .u32 la) (.int .i64 m))
                    have A8' := Lib.hid (A8.out.far2 (b' := _) (.int .u32 la) (.int .i64 m) (NE.out))
                    clear p1 p2 pf1 pf2 A7 A8 hH
                    try simp only [pickOp, Act.put, List.setIfInBounds_toArray, List.set_cons_zero, List.set_cons_succ]
                    obtain ⟨ws, hws⟩ : ∃ ws, ws = ((wdapqbr.setCell ⟨wd.heap.size, 0, none⟩ (.int .u32 la)).setCell ⟨wd.heap.size, 1, none⟩ (.int .i64 m)) := ⟨_, rfl⟩
                    rw [← hws] at hH' A7' A8' ⊢
                    have hH := hH'
                    clear hws hH'
                    obtain ⟨⟨p1, p2⟩, pf1, pf2⟩ := A8'.out
                    refine T_b1 (fun K hK => ?_)
                    simp only [pickOp]
                    go_simp
                    refine hK.out _ _ (ckeep (cbelow_put2 hH.1 L8.out _ _)) (fun hH' => ?_)
                    clear hK K
                    have A8 := Lib.hid (A8'.out.put (.int .u32 ha) (.int .i64 m))
                    have A7 := Lib.hid (A7'.out.far2 (b' := _) (.int .u32 ha) (.int .i64 m) (NE.out.symm))
                    clear p1 p2 pf1 pf2 A7' A8' hH
                    try simp only [pickOp, Act.put, List.setIfInBounds_toArray, List.set_cons_zero, List.set_cons_succ]
                    refine T_done (NoPanic.normal ?_)
                    have HBz := Lib.hid hH'.1
                    clear hH'
                    go_wp2_with fail
                    go_meet
                    exact ⟨_, _, rfl, rfl, HBz.out, A7.out.1, A8.out.1⟩
              · simp only [pickOp]
                go_simp
                refine hK.out _ _ (ckeep (cbelow_al hH.1 _)) (fun hH' => ?_)
                clear hK K
                have L8 := Lib.hid hH.1.size
                clear hH
                have A8 := Lib.hid (Pf.new wdap 24 (.int .u32 0) (.int .i64 0))
                have NE := Lib.hid (Nat.ne_of_lt A7.out.lt)
                have A7' := Lib.hid (A7.out.on (cbelow_al (Below.refl _ _) (Obj.cells #[.int .u32 0, .int .i64 0] 24)))
                clear A7
                have A7 := A7'
                clear A7'
                try simp only [pickOp, Act.put, List.setIfInBounds_toArray, List.set_cons_zero, List.set_cons_succ]
                obtain ⟨wdapb, hwn⟩ : ∃ x, x = wdap.alloc (Obj.cells #[.int .u32 0, .int .i64 0] 24) := ⟨_, rfl⟩
                rw [← hwn] at hH' A7 A8 ⊢
                have hH := hH'
                clear hH' hwn
                refine T_b1 (fun K hK => ?_)
                · simp only [pickOp]
                  go_simp
                  refine (LP.out _).mono ?_
                  rintro e wdapbq ⟨rfl, hbx⟩
                  try go_wp2_with fail
                  refine hK.out _ _ (ckeep (cbelow_on hH.1 hbx)) (fun hH' => ?_)
                  clear hK K hH
                  have hH := hH'
                  clear hH'
                  have A7' := Lib.hid (A7.out.on hbx)
                  clear A7
                  have A7 := A7'
                  clear A7'
                  have A8' := Lib.hid (A8.out.on hbx)
                  clear A8
                  have A8 := A8'
                  clear A8'
                  clear hbx
                  try simp only [pickOp, Act.put, List.setIfInBounds_toArray, List.set_cons_zero, List.set_cons_succ]
                  refine T_b1 (fun K hK => ?_)
                  · simp only [pickOp]
                    go_simp
                    refine (OHb.out _).mono ?_
                    rintro e wdapbqr ⟨rfl, hbx⟩
                    try go_wp2_with fail
                    refine hK.out _ _ (ckeep (cbelow_on hH.1 hbx)) (fun hH' => ?_)
                    clear hK K hH
                    have hH := hH'
                    clear hH'
                    have A7' := Lib.hid (A7.out.on hbx)
                    clear A7
                    have A7 := A7'
                    clear A7'
                    have A8' := Lib.hid (A8.out.on hbx)
                    clear A8
                    have A8 := A8'
                    clear A8'
                    clear hbx
                    try simp only [pickOp, Act.put, List.setIfInBounds_toArray, List.set_cons_zero, List.set_cons_succ]
                    obtain ⟨⟨p1, p2⟩, pf1, pf2⟩ := A7.out
                    refine T_b1 (fun K hK => ?_)
                    simp only [pickOp]
                    go_simp
                    refine hK.out _ _ (ckeep (cbelow_put2 hH.1 L7.out _ _)) (fun hH' => ?_)
                    clear hK K
                    have A7' := Lib.hid (A7.out.put (.int .u32 la) (.int .i64 m))
                    have A8' := Lib.hid (A8.out.far2 (b' := _) (.int .u32 la) (.int .i64 m) (NE.out))
                    clear p1 p2 pf1 pf2 A7 A8 hH
                    try simp only [pickOp, Act.put, List.setIfInBounds_toArray, List.set_cons_zero, List.set_cons_succ]
                    obtain ⟨ws, hws⟩ : ∃ ws, ws = ((wdapbqr.setCell ⟨wd.heap.size, 0, none⟩ (.int .u32 la)).setCell ⟨wd.heap.size, 1, none⟩ (.int .i64 m)) := ⟨_, rfl⟩
                    rw [← hws] at hH' A7' A8' ⊢
                    have hH := hH'
                    clear hws hH'
                    obtain ⟨⟨p1, p2⟩, pf1, pf2⟩ := A8'.out
                    refine T_b1 (fun K hK => ?_)
                    simp only [pickOp]
                    go_simp
                    refine hK.out _ _ (ckeep (cbelow_put2 hH.1 L8.out _ _)) (fun hH' => ?_)
                    clear hK K
                    have A8 := Lib.hid (A8'.out.put (.int .u32 ha) (.int .i64 m))
                    have A7 := Lib.hid (A7'.out.far2 (b' := _) (.int .u32 ha) (.int .i64 m) (NE.out.symm))
                    clear p1 p2 pf1 pf2 A7' A8' hH
                    try simp only [pickOp, Act.put, List.setIfInBounds_toArray, List.set_cons_zero, List.set_cons_succ]
                    refine T_done (NoPanic.normal ?_)
                    have HBz := Lib.hid hH'.1
                    clear hH'
                    go_wp2_with fail
                    go_meet
                    exact ⟨_, _, rfl, rfl, HBz.out, A7.out.1, A8.out.1⟩
            · simp only [pickOp]
              go_simp
              refine hK.out _ _ (ckeep (cbelow_al hH.1 _)) (fun hH' => ?_)
              clear hK K
              have L8 := Lib.hid hH.1.size
              clear hH
              have A8 := Lib.hid (Pf.new wda 24 (.int .u32 0) (.int .i64 0))
              have NE := Lib.hid (Nat.ne_of_lt A7.out.lt)
              have A7' := Lib.hid (A7.out.on (cbelow_al (Below.refl _ _) (Obj.cells #[.int .u32 0, .int .i64 0] 24)))
              clear A7
              have A7 := A7'
              clear A7'
              try simp only [pickOp, Act.put, List.setIfInBounds_toArray, List.set_cons_zero, List.set_cons_succ]
              obtain ⟨wdab, hwn⟩ : ∃ x, x = wda.alloc (Obj.cells #[.int .u32 0, .int .i64 0] 24) := ⟨_, rfl⟩
              rw [← hwn] at hH' A7 A8 ⊢
              have hH := hH'
              clear hH' hwn
              refine T_b1 (fun K hK => ?_)
              · simp only [pickOp]
                go_simp
                refine (OLb.out _).mono ?_
                rintro e wdabp ⟨rfl, hbx⟩
                try go_wp2_with fail
                refine hK.out _ _ (ckeep (cbelow_on hH.1 hbx)) (fun hH' => ?_)
                clear hK K hH
                have hH := hH'
                clear hH'
                have A7' := Lib.hid (A7.out.on hbx)
                clear A7
                have A7 := A7'
                clear A7'
                have A8' := Lib.hid (A8.out.on hbx)
                clear A8
                have A8 := A8'
                clear A8'
                clear hbx
                try simp only [pickOp, Act.put, List.setIfInBounds_toArray, List.set_cons_zero, List.set_cons_succ]
                refine T_b1 (fun K hK => ?_)
                · simp only [pickOp]
                  go_simp
                  refine (LP.out _).mono ?_
                  rintro e wdabpq ⟨rfl, hbx⟩
                  try go_wp2_with fail
                  refine hK.out _ _ (ckeep (cbelow_on hH.1 hbx)) (fun hH' => ?_)
                  clear hK K hH
                  have hH := hH'
                  clear hH'
                  have A7' := Lib.hid (A7.out.on hbx)
                  clear A7
                  have A7 := A7'
                  clear A7'
                  have A8' := Lib.hid (A8.out.on hbx)
                  clear A8
                  have A8 := A8'
                  clear A8'
                  clear hbx
                  try simp only [pickOp, Act.put, List.setIfInBounds_toArray, List.set_cons_zero, List.set_cons_succ]
                  refine T_b1 (fun K hK => ?_)
                  · simp only [pickOp]
                    go_simp
                    refine (OHb.out _).mono ?_
                    rintro e wdabpqr ⟨rfl, hbx⟩
                    try go_wp2_with fail
                    refine hK.out _ _ (ckeep (cbelow_on hH.1 hbx)) (fun hH' => ?_)
                    clear hK K hH
                    have hH := hH'
                    clear hH'
                    have A7' := Lib.hid (A7.out.on hbx)
                    clear A7
                    have A7 := A7'
                    clear A7'
                    have A8' := Lib.hid (A8.out.on hbx)
                    clear A8
                    have A8 := A8'
                    clear A8'
                    clear hbx
                    try simp only [pickOp, Act.put, List.setIfInBounds_toArray, List.set_cons_zero, List.set_cons_succ]
                    obtain ⟨⟨p1, p2⟩, pf1, pf2⟩ := A7.out
                    refine T_b1 (fun K hK => ?_)
                    simp only [pickOp]
                    go_simp
                    refine hK.out _ _ (ckeep (cbelow_put2 hH.1 L7.out _ _)) (fun hH' => ?_)
                    clear hK K
                    have A7' := Lib.hid (A7.out.put (.int .u32 la) (.int .i64 m))
                    have A8' := Lib.hid (A8.out.far2 (b' := _) (.int .u32 la) (.int .i64 m) (NE.out))
                    clear p1 p2 pf1 pf2 A7 A8 hH
                    try simp only [pickOp, Act.put, List.setIfInBounds_toArray, List.set_cons_zero, List.set_cons_succ]
                    obtain ⟨ws, hws⟩ : ∃ ws, ws = ((wdabpqr.setCell ⟨wd.heap.size, 0, none⟩ (.int .u32 la)).setCell ⟨wd.heap.size, 1, none⟩ (.int .i64 m)) := ⟨_, rfl⟩
                    rw [← hws] at hH' A7' A8' ⊢
                    have hH := hH'
                    clear hws hH'
                    obtain ⟨⟨p1, p2⟩, pf1, pf2⟩ := A8'.out
                    refine T_b1 (fun K hK => ?_)
                    simp only [pickOp]
                    go_simp
                    refine hK.out _ _ (ckeep (cbelow_put2 hH.1 L8.out _ _)) (fun hH' => ?_)
                    clear hK K
                    have A8 := Lib.hid (A8'.out.put (.int .u32 ha) (.int .i64 m))
                    have A7 := Lib.hid (A7'.out.far2 (b' := _) (.int .u32 ha) (.int .i64 m) (NE.out.symm))
                    clear p1 p2 pf1 pf2 A7' A8' hH
                    try simp only [pickOp, Act.put, List.setIfInBounds_toArray, List.set_cons_zero, List.set_cons_succ]
                    refine T_done (NoPanic.normal ?_)
                    have HBz := Lib.hid hH'.1
                    clear hH'
                    go_wp2_with fail
                    go_meet
                    exact ⟨_, _, rfl, rfl, HBz.out, A7.out.1, A8.out.1⟩
          · simp only [pickOp]
            go_simp
            refine hK.out _ _ (ckeep (cbelow_al hH.1 _)) (fun hH' => ?_)
            clear hK K
            have L8 := Lib.hid hH.1.size
            clear hH
            have A8 := Lib.hid (Pf.new wd 24 (.int .u32 0) (.int .i64 0))
            try simp only [pickOp, Act.put, List.setIfInBounds_toArray, List.set_cons_zero, List.set_cons_succ]
            obtain ⟨wdb, hwn⟩ : ∃ x, x = wd.alloc (Obj.cells #[.int .u32 0, .int .i64 0] 24) := ⟨_, rfl⟩
            rw [← hwn] at hH' A8 ⊢
            have hH := hH'
            clear hH' hwn
            refine T_b2 (fun K hK => ?_) (fun K hK => ?_)
            · simp only [pickOp]
              go_simp
              refine (OLb.out _).mono ?_
              rintro e wdbp ⟨rfl, hbx⟩
              try go_wp2_with fail
              refine hK.out _ _ (ckeep (cbelow_on hH.1 hbx)) (fun hH' => ?_)
              clear hK K hH
              have hH := hH'
              clear hH'
              have A8' := Lib.hid (A8.out.on hbx)
              clear A8
              have A8 := A8'
              clear A8'
              clear hbx
              try simp only [pickOp, Act.put, List.setIfInBounds_toArray, List.set_cons_zero, List.set_cons_succ]
              refine T_b2 (fun K hK => ?_) (fun K hK => ?_)
              · simp only [pickOp]
                go_simp
                refine (LP.out _).mono ?_
                rintro e wdbpq ⟨rfl, hbx⟩
                try go_wp2_with fail
                refine hK.out _ _ (ckeep (cbelow_on hH.1 hbx)) (fun hH' => ?_)
                clear hK K hH
                have hH := hH'
                clear hH'
                have A8' := Lib.hid (A8.out.on hbx)
                clear A8
                have A8 := A8'
                clear A8'
                clear hbx
                try simp only [pickOp, Act.put, List.setIfInBounds_toArray, List.set_cons_zero, List.set_cons_succ]
                refine T_b2 (fun K hK => ?_) (fun K hK => ?_)
                · simp only [pickOp]
                  go_simp
                  refine (OHb.out _).mono ?_
                  rintro e wdbpqr ⟨rfl, hbx⟩
                  try go_wp2_with fail
                  refine hK.out _ _ (ckeep (cbelow_on hH.1 hbx)) (fun hH' => ?_)
                  clear hK K hH
                  have hH := hH'
                  clear hH'
                  have A8' := Lib.hid (A8.out.on hbx)
                  clear A8
                  have A8 := A8'
                  clear A8'
                  clear hbx
                  try simp only [pickOp, Act.put, List.setIfInBounds_toArray, List.set_cons_zero, List.set_cons_succ]
                  refine T_b1 (fun K hK => ?_)
                  · simp only [pickOp]
                    go_simp
                    refine hK.out _ _ (ckeep (cbelow_al hH.1 _)) (fun hH' => ?_)
                    clear hK K
                    have L7 := Lib.hid hH.1.size
                    clear hH
                    have A7 := Lib.hid (Pf.new wdbpqr 24 (.int .u32 0) (.int .i64 0))
                    have NE := Lib.hid (Nat.ne_of_lt A8.out.lt)
                    have A8' := Lib.hid (A8.out.on (cbelow_al (Below.refl _ _) (Obj.cells #[.int .u32 0, .int .i64 0] 24)))
                    clear A8
                    have A8 := A8'
                    clear A8'
                    try simp only [pickOp, Act.put, List.setIfInBounds_toArray, List.set_cons_zero, List.set_cons_succ]
                    obtain ⟨wdbpqra, hwn⟩ : ∃ x, x = wdbpqr.alloc (Obj.cells #[.int .u32 0, .int .i64 0] 24) := ⟨_, rfl⟩
                    rw [← hwn] at hH' A8 A7 ⊢
                    have hH := hH'
                    clear hH' hwn
                    obtain ⟨⟨p1, p2⟩, pf1, pf2⟩ := A7.out
                    refine T_b1 (fun K hK => ?_)
                    simp only [pickOp]
                    go_simp
                    refine hK.out _ _ (ckeep (cbelow_put2 hH.1 L7.out _ _)) (fun hH' => ?_)
                    clear hK K
                    have A7' := Lib.hid (A7.out.put (.int .u32 la) (.int .i64 m))
                    have A8' := Lib.hid (A8.out.far2 (b' := _) (.int .u32 la) (.int .i64 m) (NE.out.symm))
                    clear p1 p2 pf1 pf2 A7 A8 hH
                    try simp only [pickOp, Act.put, List.setIfInBounds_toArray, List.set_cons_zero, List.set_cons_succ]
                    obtain ⟨ws, hws⟩ : ∃ ws, ws = ((wdbpqra.setCell ⟨wdbpqr.heap.size, 0, none⟩ (.int .u32 la)).setCell ⟨wdbpqr.heap.size, 1, none⟩ (.int .i64 m)) := ⟨_, rfl⟩
                    rw [← hws] at hH' A7' A8' ⊢
                    have hH := hH'
                    clear hws hH'
                    obtain ⟨⟨p1, p2⟩, pf1, pf2⟩ := A8'.out
                    refine T_b1 (fun K hK => ?_)
                    simp only [pickOp]
                    go_simp
                    refine hK.out _ _ (ckeep (cbelow_put2 hH.1 L8.out _ _)) (fun hH' => ?_)
                    clear hK K
                    have A8 := Lib.hid (A8'.out.put (.int .u32 ha) (.int .i64 m))
                    have A7 := Lib.hid (A7'.out.far2 (b' := _) (.int .u32 ha) (.int .i64 m) (NE.out.symm.symm))
                    clear p1 p2 pf1 pf2 A7' A8' hH
                    try simp only [pickOp, Act.put, List.setIfInBounds_toArray, List.set_cons_zero, List.set_cons_succ]
                    refine T_done (NoPanic.normal ?_)
                    have HBz := Lib.hid hH'.1
                    clear hH'
                    go_wp2_with fail
                    go_meet
                    exact ⟨_, _, rfl, rfl, HBz.out, A7.out.1, A8.out.1⟩
                · simp only [pickOp]
                  go_simp
                  refine hK.out _ _ (ckeep (cbelow_al hH.1 _)) (fun hH' => ?_)
                  clear hK K
                  have L7 := Lib.hid hH.1.size
                  clear hH
                  have A7 := Lib.hid (Pf.new wdbpq 24 (.int .u32 0) (.int .i64 0))
                  have NE := Lib.hid (Nat.ne_of_lt A8.out.lt)
                  have A8' := Lib.hid (A8.out.on (cbelow_al (Below.refl _ _) (Obj.cells #[.int .u32 0, .int .i64 0] 24)))
                  clear A8
                  have A8 := A8'
                  clear A8'
                  try simp only [pickOp, Act.put, List.setIfInBounds_toArray, List.set_cons_zero, List.set_cons_succ]
                  obtain ⟨wdbpqa, hwn⟩ : ∃ x, x = wdbpq.alloc (Obj.cells #[.int .u32 0, .int .i64 0] 24) := ⟨_, rfl⟩
                  rw [← hwn] at hH' A8 A7 ⊢
                  have hH := hH'
                  clear hH' hwn
                  refine T_b1 (fun K hK => ?_)
                  · simp only [pickOp]
                    go_simp
                    refine (OHb.out _).mono ?_
                    rintro e wdbpqar ⟨rfl, hbx⟩
                    try go_wp2_with fail
                    refine hK.out _ _ (ckeep (cbelow_on hH.1 hbx)) (fun hH' => ?_)
                    clear hK K hH
                    have hH := hH'
                    clear hH'
                    have A8' := Lib.hid (A8.out.on hbx)
                    clear A8
                    have A8 := A8'
                    clear A8'
                    have A7' := Lib.hid (A7.out.on hbx)
                    clear A7
                    have A7 := A7'
                    clear A7'
                    clear hbx
                    try simp only [pickOp, Act.put, List.setIfInBounds_toArray, List.set_cons_zero, List.set_cons_succ]
                    obtain ⟨⟨p1, p2⟩, pf1, pf2⟩ := A7.out
                    refine T_b1 (fun K hK => ?_)
                    simp only [pickOp]
                    go_simp
                    refine hK.out _ _ (ckeep (cbelow_put2 hH.1 L7.out _ _)) (fun hH' => ?_)
                    clear hK K
                    have A7' := Lib.hid (A7.out.put (.int .u32 la) (.int .i64 m))
                    have A8' := Lib.hid (A8.out.far2 (b' := _) (.int .u32 la) (.int .i64 m) (NE.out.symm))
                    clear p1 p2 pf1 pf2 A7 A8 hH
                    try simp only [pickOp, Act.put, List.setIfInBounds_toArray, List.set_cons_zero, List.set_cons_succ]
                    obtain ⟨ws, hws⟩ : ∃ ws, ws = ((wdbpqar.setCell ⟨wdbpq.heap.size, 0, none⟩ (.int .u32 la)).setCell ⟨wdbpq.heap.size, 1, none⟩ (.int .i64 m)) := ⟨_, rfl⟩
                    rw [← hws] at hH' A7' A8' ⊢
                    have hH := hH'
                    clear hws hH'
                    obtain ⟨⟨p1, p2⟩, pf1, pf2⟩ := A8'.out
                    refine T_b1 (fun K hK => ?_)
                    simp only [pickOp]
                    go_simp
                    refine hK.out _ _ (ckeep (cbelow_put2 hH.1 L8.out _ _)) (fun hH' => ?_)
                    clear hK K
                    have A8 := Lib.hid (A8'.out.put (.int .u32 ha) (.int .i64 m))
                    have A7 := Lib.hid (A7'.out.far2 (b' := _) (.int .u32 ha) (.int .i64 m) (NE.out.symm.symm))
                    clear p1 p2 pf1 pf2 A7' A8' hH
                    try simp only [pickOp, Act.put, List.setIfInBounds_toArray, List.set_cons_zero, List.set_cons_succ]
                    refine T_done (NoPanic.normal ?_)
                    have HBz := Lib.hid hH'.1
                    clear hH'
                    go_wp2_with fail
                    go_meet
                    exact ⟨_, _, rfl, rfl, HBz.out, A7.out.1, A8.out.1⟩
              · simp only [pickOp]
                go_simp
                refine hK.out _ _ (ckeep (cbelow_al hH.1 _)) (fun hH' => ?_)
                clear hK K
                have L7 := Lib.hid hH.1.size
                clear hH
                have A7 := Lib.hid (Pf.new wdbp 24 (.int .u32 0) (.int .i64 0))
                have NE := Lib.hid (Nat.ne_of_lt A8.out.lt)
                have A8' := Lib.hid (A8.out.on (cbelow_al (Below.refl _ _) (Obj.cells #[.int .u32 0, .int .i64 0] 24)))
                clear A8
                have A8 := A8'
                clear A8'
                try simp only [pickOp, Act.put, List.setIfInBounds_toArray, List.set_cons_zero, List.set_cons_succ]
                obtain ⟨wdbpa, hwn⟩ : ∃ x, x = wdbp.alloc (Obj.cells #[.int .u32 0, .int .i64 0] 24) := ⟨_, rfl⟩
                rw [← hwn] at hH' A8 A7 ⊢
                have hH := hH'
                clear hH' hwn
                refine T_b1 (fun K hK => ?_)
                · simp only [pickOp]
                  go_simp
                  refine (LP.out _).mono ?_
                  rintro e wdbpaq ⟨rfl, hbx⟩
                  try go_wp2_with fail
                  refine hK.out _ _ (ckeep (cbelow_on hH.1 hbx)) (fun hH' => ?_)
                  clear hK K hH
                  have hH := hH'
                  clear hH'
                  have A8' := Lib.hid (A8.out.on hbx)
                  clear A8
                  have A8 := A8'
                  clear A8'
                  have A7' := Lib.hid (A7.out.on hbx)
                  clear A7
                  have A7 := A7'
                  clear A7'
                  clear hbx
                  try simp only [pickOp, Act.put, List.setIfInBounds_toArray, List.set_cons_zero, List.set_cons_succ]
                  refine T_b1 (fun K hK => ?_)
                  · simp only [pickOp]
                    go_simp
                    refine (OHb.out _).mono ?_
                    rintro e wdbpaqr ⟨rfl, hbx⟩
                    try go_wp2_with fail
                    refine hK.out _ _ (ckeep (cbelow_on hH.1 hbx)) (fun hH' => ?_)
                    clear hK K hH
                    have hH := hH'
                    clear hH'
                    have A8' := Lib.hid (A8.out.on hbx)
                    clear A8
                    have A8 := A8'
                    clear A8'
                    have A7' := Lib.hid (A7.out.on hbx)
                    clear A7
                    have A7 := A7'
                    clear A7'
                    clear hbx
                    try simp only [pickOp, Act.put, List.setIfInBounds_toArray, List.set_cons_zero, List.set_cons_succ]
                    obtain ⟨⟨p1, p2⟩, pf1, pf2⟩ := A7.out
                    refine T_b1 (fun K hK => ?_)
                    simp only [pickOp]
                    go_simp
                    refine hK.out _ _ (ckeep (cbelow_put2 hH.1 L7.out _ _)) (fun hH' => ?_)
                    clear hK K
                    have A7' := Lib.hid (A7.out.put (.int .u32 la) (.int .i64 m))
                    have A8' := Lib.hid (A8.out.far2 (b' := _) (.int .u32 la) (.int .i64 m) (NE.out.symm))
                    clear p1 p2 pf1 pf2 A7 A8 hH
                    try simp only [pickOp, Act.put, List.setIfInBounds_toArray, List.set_cons_zero, List.set_cons_succ]
                    obtain ⟨ws, hws⟩ : ∃ ws, ws = ((wdbpaqr.setCell ⟨wdbp.heap.size, 0, none⟩ (.int .u32 la)).setCell ⟨wdbp.heap.size, 1, none⟩ (.int .i64 m)) := ⟨_, rfl⟩
                    rw [← hws] at hH' A7' A8' ⊢
                    have hH := hH'
                    clear hws hH'
                    obtain ⟨⟨p1, p2⟩, pf1, pf2⟩ := A8'.out
                    refine T_b1 (fun K hK => ?_)
                    simp only [pickOp]
                    go_simp
                    refine hK.out _ _ (ckeep (cbelow_put2 hH.1 L8.out _ _)) (fun hH' => ?_)
                    clear hK K
                    have A8 := Lib.hid (A8'.out.put (.int .u32 ha) (.int .i64 m))
                    have A7 := Lib.hid (A7'.out.far2 (b' := _) (.int .u32 ha) (.int .i64 m) (NE.out.symm.symm))
                    clear p1 p2 pf1 pf2 A7' A8' hH
                    try simp only [pickOp, Act.put, List.setIfInBounds_toArray, List.set_cons_zero, List.set_cons_succ]
                    refine T_done (NoPanic.normal ?_)
                    have HBz := Lib.hid hH'.1
                    clear hH'
                    go_wp2_with fail
                    go_meet
                    exact ⟨_, _, rfl, rfl, HBz.out, A7.out.1, A8.out.1⟩
            · simp only [pickOp]
              go_simp
              refine hK.out _ _ (ckeep (cbelow_al hH.1 _)) (fun hH' => ?_)
              clear hK K
              have L7 := Lib.hid hH.1.size
              clear hH
              have A7 := Lib.hid (Pf.new wdb 24 (.int .u32 0) (.int .i64 0))
              have NE := Lib.hid (Nat.ne_of_lt A8.out.lt)
              have A8' := Lib.hid (A8.out.on (cbelow_al (Below.refl _ _) (Obj.cells #[.int .u32 0, .int .i64 0] 24)))
              clear A8
              have A8 := A8'
              clear A8'
              try simp only [pickOp, Act.put, List.setIfInBounds_toArray, List.set_cons_zero, List.set_cons_succ]
              obtain ⟨wdba, hwn⟩ : ∃ x, x = wdb.alloc (Obj.cells #[.int .u32 0, .int .i64 0] 24) := ⟨_, rfl⟩
              rw [← hwn] at hH' A8 A7 ⊢
              have hH := hH'
              clear hH' hwn
              refine T_b1 (fun K hK => ?_)
              · simp only [pickOp]
                go_simp
                refine (OLb.out _).mono ?_
                rintro e wdbap ⟨rfl, hbx⟩
                try go_wp2_with fail
                refine hK.out _ _ (ckeep (cbelow_on hH.1 hbx)) (fun hH' => ?_)
                clear hK K hH
                have hH := hH'
                clear hH'
                have A8' := Lib.hid (A8.out.on hbx)
                clear A8
                have A8 := A8'
                clear A8'
                have A7' := Lib.hid (A7.out.on hbx)
                clear A7
                have A7 := A7'
                clear A7'
                clear hbx
                try simp only [pickOp, Act.put, List.setIfInBounds_toArray, List.set_cons_zero, List.set_cons_succ]
                refine T_b1 (fun K hK => ?_)
                · simp only [pickOp]
                  go_simp
                  refine (LP.out _).mono ?_
                  rintro e wdbapq ⟨rfl, hbx⟩
                  try go_wp2_with fail
                  refine hK.out _ _ (ckeep (cbelow_on hH.1 hbx)) (fun hH' => ?_)
                  clear hK K hH
                  have hH := hH'
                  clear hH'
                  have A8' := Lib.hid (A8.out.on hbx)
                  clear A8
                  have A8 := A8'
                  clear A8'
                  have A7' := Lib.hid (A7.out.on hbx)
                  clear A7
                  have A7 := A7'
                  clear A7'
                  clear hbx
                  try simp only [pickOp, Act.put, List.setIfInBounds_toArray, List.set_cons_zero, List.set_cons_succ]
                  refine T_b1 (fun K hK => ?_)
                  · simp only [pickOp]
                    go_simp
                    refine (OHb.out _).mono ?_
                    rintro e wdbapqr ⟨rfl, hbx⟩
                    try go_wp2_with fail
                    refine hK.out _ _ (ckeep (cbelow_on hH.1 hbx)) (fun hH' => ?_)
                    clear hK K hH
                    have hH := hH'
                    clear hH'
                    have A8' := Lib.hid (A8.out.on hbx)
                    clear A8
                    have A8 := A8'
                    clear A8'
                    have A7' := Lib.hid (A7.out.on hbx)
                    clear A7
                    have A7 := A7'
                    clear A7'
                    clear hbx
                    try simp only [pickOp, Act.put, List.setIfInBounds_toArray, List.set_cons_zero, List.set_cons_succ]
                    obtain ⟨⟨p1, p2⟩, pf1, pf2⟩ := A7.out
                    refine T_b1 (fun K hK => ?_)
                    simp only [pickOp]
                    go_simp
                    refine hK.out _ _ (ckeep (cbelow_put2 hH.1 L7.out _ _)) (fun hH' => ?_)
                    clear hK K
                    have A7' := Lib.hid (A7.out.put (.int .u32 la) (.int .i64 m))
                    have A8' := Lib.hid (A8.out.far2 (b' := _) (.int .u32 la) (.int .i64 m) (NE.out.symm))
                    clear p1 p2 pf1 pf2 A7 A8 hH
                    try simp only [pickOp, Act.put, List.setIfInBounds_toArray, List.set_cons_zero, List.set_cons_succ]
                    obtain ⟨ws, hws⟩ : ∃ ws, ws = ((wdbapqr.setCell ⟨wdb.heap.size, 0, none⟩ (.int .u32 la)).setCell ⟨wdb.heap.size, 1, none⟩ (.int .i64 m)) := ⟨_, rfl⟩
                    rw [← hws] at hH' A7' A8' ⊢
                    have hH := hH'
                    clear hws hH'
                    obtain ⟨⟨p1, p2⟩, pf1, pf2⟩ := A8'.out
                    refine T_b1 (fun K hK => ?_)
                    simp only [pickOp]
                    go_simp
                    refine hK.out _ _ (ckeep (cbelow_put2 hH.1 L8.out _ _)) (fun hH' => ?_)
                    clear hK K
                    have A8 := Lib.hid (A8'.out.put (.int .u32 ha) (.int .i64 m))
                    have A7 := Lib.hid (A7'.out.far2 (b' := _) (.int .u32 ha) (.int .i64 m) (NE.out.symm.symm))
                    clear p1 p2 pf1 pf2 A7' A8' hH
                    try simp only [pickOp, Act.put, List.setIfInBounds_toArray, List.set_cons_zero, List.set_cons_succ]
                    refine T_done (NoPanic.normal ?_)
                    have HBz := Lib.hid hH'.1
                    clear hH'
                    go_wp2_with fail
                    go_meet
                    exact ⟨_, _, rfl, rfl, HBz.out, A7.out.1, A8.out.1⟩
        case rest =>
          obtain ⟨g, g', rfl, rfl, hbx, fl, fh⟩ := hcut
          have FP3 := Lib.hid (FP2.out.on hbx)
          have FQ3 := Lib.hid (FQ2.out.on hbx)
          have FL3 := Lib.hid fl
          have FH3 := Lib.hid fh
          have HB3 := Lib.hid (cbelow_on HB2.out hbx)
          clear FP2 FQ2 fl fh HB2 hbx OL OH OLb OHb z0 z1 z2 z3 hmw hmw2 k32' m2 LPX LP'
          obtain ⟨W3, rfl⟩ : ∃ W3 : World, W3 = wc := ⟨_, rfl⟩
          obtain ⟨z0, z1⟩ := FP3.out
          obtain ⟨y0, y1⟩ := FL3.out
          obtain ⟨x0, x1⟩ := FH3.out
          go_upto_region 4 with fail
          go_cut [62] (fun u wx => u = .bool false ∧ Below W3.heap.size W3 wx)
          case first =>
           as_aux_lemma =>
            cases hl <;> cases hh
            all_goals
              refine wp_region_noPanic ?_
              refine wp_region_along (S := fun w' => Below W3.heap.size W3 w' ∧ ∀ b o, (W3.cell? ⟨b, o, none⟩).isSome = true → w'.cell? ⟨b, o, none⟩ = W3.cell? ⟨b, o, none⟩) ([(0, true), (1, true), (2, false), (3, true), (4, true), (5, true), (6, false), (7, true), (8, true), (9, true), (10, true), (11, true), (12, false), (13, true), (14, true), (15, true)] ++ ([(16, true), (17, true), (19, true), (20, true), (22, true), (23, true), (18, false), (21, false), (24, false), (25, true), (26, true), (27, true)])) (by kernel_rfl) (by as_aux_lemma => kernel_rfl) (by kernel_rfl) (by kernel_rfl) (alongPre_append _ _ _ (by as_aux_lemma => kernel_rfl) (by as_aux_lemma => kernel_rfl)) (by as_aux_lemma => kernel_rfl) (fun _ _ _ _ _ h => h) (ckeep (Below.refl _ _).drew) (fun hH => ?_)
              simp only [List.cons_append, List.nil_append, stepsOf, pickOp]
              iterate 2 (first | (refine along_skip (by rfl) ?_; try simp only [Act.put, List.setIfInBounds_toArray, List.set_cons_zero, List.set_cons_succ]) | (refine along_pure ?_ (by rfl) (fun w hSw => ?_) ?_; rotate_left; ((try dsimp only at hSw); go_simp; try with_reducible rfl); try simp only [Act.put, List.setIfInBounds_toArray, List.set_cons_zero, List.set_cons_succ]))
              refine along_bar (fun K hK => ?_)
              go_simp
              refine (M0.out _).mono ?_
              rintro e w' ⟨rfl, hbx⟩
              try go_wp2_with fail
              refine hK.out _ _ (ckeep (cbelow_on hH.1 hbx)) (fun hH' => ?_)
              clear hK K hH
              have hH := hH'
              clear hH'
              clear hbx
              try simp only [Act.put, List.setIfInBounds_toArray, List.set_cons_zero, List.set_cons_succ]
              iterate 3 (first | (refine along_skip (by rfl) ?_; try simp only [Act.put, List.setIfInBounds_toArray, List.set_cons_zero, List.set_cons_succ]) | (refine along_pure ?_ (by rfl) (fun w hSw => ?_) ?_; rotate_left; ((try dsimp only at hSw); go_simp; try with_reducible rfl); try simp only [Act.put, List.setIfInBounds_toArray, List.set_cons_zero, List.set_cons_succ]))
              refine along_bar (fun K hK => ?_)
              go_simp
              refine (WLP.out _).mono ?_
              rintro e w' ⟨rfl, hbx⟩
              try go_wp2_with fail
              refine hK.out _ _ (ckeep (cbelow_on hH.1 hbx)) (fun hH' => ?_)
              clear hK K hH
              have hH := hH'
              clear hH'
              clear hbx
              try simp only [Act.put, List.setIfInBounds_toArray, List.set_cons_zero, List.set_cons_succ]
              iterate 5 (first | (refine along_skip (by rfl) ?_; try simp only [Act.put, List.setIfInBounds_toArray, List.set_cons_zero, List.set_cons_succ]) | (refine along_pure ?_ (by rfl) (fun w hSw => ?_) ?_; rotate_left; ((try dsimp only at hSw); go_simp; try with_reducible rfl); try simp only [Act.put, List.setIfInBounds_toArray, List.set_cons_zero, List.set_cons_succ]))
              refine along_bar (fun K hK => ?_)
              go_simp
              refine (WHP.out _).mono ?_
              rintro e w' ⟨rfl, hbx⟩
              try go_wp2_with fail
              refine hK.out _ _ (ckeep (cbelow_on hH.1 hbx)) (fun hH' => ?_)
              clear hK K hH
              have hH := hH'
              clear hH'
              clear hbx
              try simp only [Act.put, List.setIfInBounds_toArray, List.set_cons_zero, List.set_cons_succ]
              iterate 9 (first | (refine along_skip (by rfl) ?_; try simp only [Act.put, List.setIfInBounds_toArray, List.set_cons_zero, List.set_cons_succ]) | (refine along_pure ?_ (by rfl) (fun w hSw => ?_) ?_; rotate_left; ((try dsimp only at hSw); go_simp; try with_reducible rfl); try simp only [Act.put, List.setIfInBounds_toArray, List.set_cons_zero, List.set_cons_succ]))
              refine along_bar (fun K hK => ?_)
              go_simp
              refine (HP.out _).mono ?_
              rintro e w' ⟨rfl, hbx⟩
              try go_wp2_with fail
              refine hK.out _ _ (ckeep (cbelow_on hH.1 hbx)) (fun hH' => ?_)
              clear hK K hH
              have hH := hH'
              clear hH'
              clear hbx
              try simp only [Act.put, List.setIfInBounds_toArray, List.set_cons_zero, List.set_cons_succ]
              refine along_bar (fun K hK => ?_)
              go_simp
              refine (HL.out _).mono ?_
              rintro e w' ⟨rfl, hbx⟩
              try go_wp2_with fail
              refine hK.out _ _ (ckeep (cbelow_on hH.1 hbx)) (fun hH' => ?_)
              clear hK K hH
              have hH := hH'
              clear hH'
              clear hbx
              try simp only [Act.put, List.setIfInBounds_toArray, List.set_cons_zero, List.set_cons_succ]
              refine along_bar (fun K hK => ?_)
              go_simp
              refine (HH.out _).mono ?_
              rintro e w' ⟨rfl, hbx⟩
              try go_wp2_with fail
              refine hK.out _ _ (ckeep (cbelow_on hH.1 hbx)) (fun hH' => ?_)
              clear hK K hH
              have hH := hH'
              clear hH'
              clear hbx
              try simp only [Act.put, List.setIfInBounds_toArray, List.set_cons_zero, List.set_cons_succ]
              iterate 3 (first | (refine along_skip (by rfl) ?_; try simp only [Act.put, List.setIfInBounds_toArray, List.set_cons_zero, List.set_cons_succ]) | (refine along_pure ?_ (by rfl) (fun w hSw => ?_) ?_; rotate_left; ((try dsimp only at hSw); go_simp; try with_reducible rfl); try simp only [Act.put, List.setIfInBounds_toArray, List.set_cons_zero, List.set_cons_succ]))
              refine along_end (NoPanic.normal ?_)
              have HB := Lib.hid hH.1
              clear hH
              go_wp2_with fail
              go_meet
              exact ⟨rfl, HB.out⟩
          case rest =>
           obtain ⟨rfl, hbx⟩ := hcut
           have hH := ckeep hbx
           clear hbx
           have HB4 := Lib.hid (cbelow_on HB3.out hH.1)
           have FP4 := Lib.hid (FP3.out.on hH.1)
           have FQ4 := Lib.hid (FQ3.out.on hH.1)
           have FL4 := Lib.hid (FL3.out.on hH.1)
           have FH4 := Lib.hid (FH3.out.on hH.1)
           clear hH FP3 FQ3 FL3 FH3 HB3 z0 z1 y0 y1 x0 x1
           obtain ⟨W4, rfl⟩ : ∃ W4 : World, W4 = wc := ⟨_, rfl⟩
           obtain ⟨z0, z1⟩ := FP4.out
           obtain ⟨y0, y1⟩ := FL4.out
           obtain ⟨x0, x1⟩ := FH4.out
           go_upto_region 6 with fail
           have m3 := M3.out
           refine wp_region_noPanic ?_
           refine wp_region_along (S := fun w' => Below W4.heap.size W4 w' ∧ ∀ b o, (W4.cell? ⟨b, o, none⟩).isSome = true → w'.cell? ⟨b, o, none⟩ = W4.cell? ⟨b, o, none⟩) ([(0, true), (2, true), (3, true), (4, true), (1, false), (5, true), (6, true), (7, true), (8, true), (9, true), (10, true), (11, true), (12, true), (13, true), (14, true), (16, true)] ++ ([(15, false), (17, false), (18, true), (19, true)])) (by kernel_rfl) (by as_aux_lemma => kernel_rfl) (by kernel_rfl) (by kernel_rfl) (alongPre_append _ _ _ (by as_aux_lemma => kernel_rfl) (by as_aux_lemma => kernel_rfl)) (by as_aux_lemma => kernel_rfl) (fun _ _ _ _ _ h => h) (ckeep (Below.refl _ _).drew) (fun hH => ?_)
           simp only [List.cons_append, List.nil_append, stepsOf, pickOp]
           iterate 4 (first | (refine along_skip (by rfl) ?_; try simp only [Act.put, List.setIfInBounds_toArray, List.set_cons_zero, List.set_cons_succ]) | (refine along_pure ?_ (by rfl) (fun w hSw => ?_) ?_; rotate_left; ((try dsimp only at hSw); go_simp; try with_reducible rfl); try simp only [Act.put, List.setIfInBounds_toArray, List.set_cons_zero, List.set_cons_succ]))
           refine along_bar (fun K hK => ?_)
           go_simp
           refine (LL.out _).mono ?_
           rintro e w' ⟨rfl, hbx⟩
           try go_wp2_with fail
           refine hK.out _ _ (ckeep (cbelow_on hH.1 hbx)) (fun hH' => ?_)
           clear hK K hH
           have hH := hH'
           clear hH'
           clear hbx
           try simp only [Act.put, List.setIfInBounds_toArray, List.set_cons_zero, List.set_cons_succ]
           iterate 11 (first | (refine along_skip (by rfl) ?_; try simp only [Act.put, List.setIfInBounds_toArray, List.set_cons_zero, List.set_cons_succ]) | (refine along_pure ?_ (by rfl) (fun w hSw => ?_) ?_; rotate_left; ((try dsimp only at hSw); go_simp; try with_reducible rfl); try simp only [Act.put, List.setIfInBounds_toArray, List.set_cons_zero, List.set_cons_succ]))
           refine along_bar (fun K hK => ?_)
           go_simp
           refine (LH.out _).mono ?_
           rintro e w' ⟨rfl, hbx⟩
           try go_wp2_with fail
           refine hK.out _ _ (ckeep (cbelow_on hH.1 hbx)) (fun hH' => ?_)
           clear hK K hH
           have hH := hH'
           clear hH'
           clear hbx
           try simp only [Act.put, List.setIfInBounds_toArray, List.set_cons_zero, List.set_cons_succ]
           refine along_bar (fun K hK => ?_)
           go_simp
           refine (LP.out _).mono ?_
           rintro e w' ⟨rfl, hbx⟩
           try go_wp2_with fail
           refine hK.out _ _ (ckeep (cbelow_on hH.1 hbx)) (fun hH' => ?_)
           clear hK K hH
           have hH := hH'
           clear hH'
           clear hbx
           try simp only [Act.put, List.setIfInBounds_toArray, List.set_cons_zero, List.set_cons_succ]
           iterate 2 (first | (refine along_skip (by rfl) ?_; try simp only [Act.put, List.setIfInBounds_toArray, List.set_cons_zero, List.set_cons_succ]) | (refine along_pure ?_ (by rfl) (fun w hSw => ?_) ?_; rotate_left; ((try dsimp only at hSw); go_simp; try with_reducible rfl); try simp only [Act.put, List.setIfInBounds_toArray, List.set_cons_zero, List.set_cons_succ]))
           refine along_end (NoPanic.normal ?_)
           have HB5 := Lib.hid (cbelow_on HB4.out hH.1)
           have FP5 := Lib.hid (FP4.out.on hH.1)
           have FQ5 := Lib.hid (FQ4.out.on hH.1)
           have FL5 := Lib.hid (FL4.out.on hH.1)
           have FH5 := Lib.hid (FH4.out.on hH.1)
           clear hH FP4 FQ4 FL4 FH4 HB4 z0 z1 y0 y1 x0 x1 m3
           obtain ⟨W5, rfl⟩ : ∃ W5 : World, W5 = w' := ⟨_, rfl⟩
           obtain ⟨z0, z1⟩ := FP5.out
           obtain ⟨z2, z3⟩ := FQ5.out
           obtain ⟨y0, y1⟩ := FL5.out
           obtain ⟨x0, x1⟩ := FH5.out
           have TA := Lib.hid (cawake_any W5.drew (ht.out.on HB5.out).drew)
           have e4 := E4.out
           subst e4
           go_upto_region 8 with fail
           cases wp
           · cases ml
             · skip
               refine wp_region_noPanic ?_
               refine wp_region_along (S := fun w' => Below W5.heap.size W5 w' ∧ ∀ b o, (W5.cell? ⟨b, o, none⟩).isSome = true → w'.cell? ⟨b, o, none⟩ = W5.cell? ⟨b, o, none⟩) ([(0, false), (1, true), (2, true), (3, true), (4, false), (5, true), (6, true), (7, true), (8, true), (9, false), (10, true), (11, true), (12, true), (13, false), (14, true), (15, true)] ++ ([(16, true), (17, true), (18, true), (19, true), (21, true), (22, true), (20, false), (23, false), (24, true), (25, true), (26, true), (27, false), (28, true), (29, true), (30, true), (31, true)])) (by kernel_rfl) (by as_aux_lemma => kernel_rfl) (by kernel_rfl) (by kernel_rfl) (alongPre_append _ _ _ (by as_aux_lemma => kernel_rfl) (by as_aux_lemma => kernel_rfl)) (by as_aux_lemma => kernel_rfl) (fun _ _ _ _ _ h => h) (ckeep (Below.refl _ _).drew) (fun hH => ?_)
               simp only [List.cons_append, List.nil_append, stepsOf, pickOp]
               refine along_bar (fun K hK => ?_)
               go_simp
               refine TA.out.mono ?_
               rintro e w' ⟨rfl, hbx⟩
               try go_wp2_with fail
               refine hK.out _ _ (ckeep (cbelow_on hH.1 hbx)) (fun hH' => ?_)
               clear hK K hH
               have hH := hH'
               clear hH'
               clear hbx
               try simp only [Act.put, List.setIfInBounds_toArray, List.set_cons_zero, List.set_cons_succ]
               iterate 3 (first | (refine along_skip (by rfl) ?_; try simp only [Act.put, List.setIfInBounds_toArray, List.set_cons_zero, List.set_cons_succ]) | (refine along_pure ?_ (by rfl) (fun w hSw => ?_) ?_; rotate_left; ((try dsimp only at hSw); go_simp; try with_reducible rfl); try simp only [Act.put, List.setIfInBounds_toArray, List.set_cons_zero, List.set_cons_succ]))
               refine along_bar (fun K hK => ?_)
               go_simp
               refine (WPQ.out _).mono ?_
               rintro e w' ⟨rfl, hbx⟩
               try go_wp2_with fail
               refine hK.out _ _ (ckeep (cbelow_on hH.1 hbx)) (fun hH' => ?_)
               clear hK K hH
               have hH := hH'
               clear hH'
               clear hbx
               try simp only [Act.put, List.setIfInBounds_toArray, List.set_cons_zero, List.set_cons_succ]
               iterate 4 (first | (refine along_skip (by rfl) ?_; try simp only [Act.put, List.setIfInBounds_toArray, List.set_cons_zero, List.set_cons_succ]) | (refine along_pure ?_ (by rfl) (fun w hSw => ?_) ?_; rotate_left; ((try dsimp only at hSw); go_simp; try with_reducible rfl); try simp only [Act.put, List.setIfInBounds_toArray, List.set_cons_zero, List.set_cons_succ]))
               refine along_pass (by rfl) hH ?_
               try simp only [Act.put, List.setIfInBounds_toArray, List.set_cons_zero, List.set_cons_succ]
               iterate 3 (first | (refine along_skip (by rfl) ?_; try simp only [Act.put, List.setIfInBounds_toArray, List.set_cons_zero, List.set_cons_succ]) | (refine along_pure ?_ (by rfl) (fun w hSw => ?_) ?_; rotate_left; ((try dsimp only at hSw); go_simp; try with_reducible rfl); try simp only [Act.put, List.setIfInBounds_toArray, List.set_cons_zero, List.set_cons_succ]))
               refine along_pass (by rfl) hH ?_
               try simp only [Act.put, List.setIfInBounds_toArray, List.set_cons_zero, List.set_cons_succ]
               iterate 8 (first | (refine along_skip (by rfl) ?_; try simp only [Act.put, List.setIfInBounds_toArray, List.set_cons_zero, List.set_cons_succ]) | (refine along_pure ?_ (by rfl) (fun w hSw => ?_) ?_; rotate_left; ((try dsimp only at hSw); go_simp; try with_reducible rfl); try simp only [Act.put, List.setIfInBounds_toArray, List.set_cons_zero, List.set_cons_succ]))
               refine along_bar (fun K hK => ?_)
               go_simp
               refine (MPQ.out _).mono ?_
               rintro e w' ⟨rfl, hbx⟩
               try go_wp2_with fail
               refine hK.out _ _ (ckeep (cbelow_on hH.1 hbx)) (fun hH' => ?_)
               clear hK K hH
               have hH := hH'
               clear hH'
               clear hbx
               try simp only [Act.put, List.setIfInBounds_toArray, List.set_cons_zero, List.set_cons_succ]
               refine along_bar (fun K hK => ?_)
               go_simp
               refine (MLQ.out _).mono ?_
               rintro e w' ⟨rfl, hbx⟩
               try go_wp2_with fail
               refine hK.out _ _ (ckeep (cbelow_on hH.1 hbx)) (fun hH' => ?_)
               clear hK K hH
               have hH := hH'
               clear hH'
               clear hbx
               try simp only [Act.put, List.setIfInBounds_toArray, List.set_cons_zero, List.set_cons_succ]
               iterate 3 (first | (refine along_skip (by rfl) ?_; try simp only [Act.put, List.setIfInBounds_toArray, List.set_cons_zero, List.set_cons_succ]) | (refine along_pure ?_ (by rfl) (fun w hSw => ?_) ?_; rotate_left; ((try dsimp only at hSw); go_simp; try with_reducible rfl); try simp only [Act.put, List.setIfInBounds_toArray, List.set_cons_zero, List.set_cons_succ]))
               refine along_bar (fun K hK => ?_)
               go_simp
               refine (MHQ.out _).mono ?_
               rintro e w' ⟨rfl, hbx⟩
               try go_wp2_with fail
               refine hK.out _ _ (ckeep (cbelow_on hH.1 hbx)) (fun hH' => ?_)
               clear hK K hH
               have hH := hH'
               clear hH'
               clear hbx
               try simp only [Act.put, List.setIfInBounds_toArray, List.set_cons_zero, List.set_cons_succ]
               iterate 4 (first | (refine along_skip (by rfl) ?_; try simp only [Act.put, List.setIfInBounds_toArray, List.set_cons_zero, List.set_cons_succ]) | (refine along_pure ?_ (by rfl) (fun w hSw => ?_) ?_; rotate_left; ((try dsimp only at hSw); go_simp; try with_reducible rfl); try simp only [Act.put, List.setIfInBounds_toArray, List.set_cons_zero, List.set_cons_succ]))
               refine along_end (NoPanic.normal ?_)
               have HB6 := Lib.hid (cbelow_on HB5.out hH.1)
               clear hH
               go_wp2
               go_ret
               exact ⟨cret_bool (by simp), HB6.out⟩
             · skip
               refine wp_region_noPanic ?_
               refine wp_region_along (S := fun w' => Below W5.heap.size W5 w' ∧ ∀ b o, (W5.cell? ⟨b, o, none⟩).isSome = true → w'.cell? ⟨b, o, none⟩ = W5.cell? ⟨b, o, none⟩) ([(0, false), (1, true), (2, true), (3, true), (4, false), (5, true), (6, true), (7, true), (8, true), (9, false), (10, true), (11, true), (12, true), (13, false), (14, true), (15, true)] ++ ([(16, true), (17, true), (18, true), (19, true), (21, true), (22, true), (20, false), (23, false), (24, true), (25, true), (26, true), (27, false), (28, true), (29, true), (30, true), (31, true)])) (by kernel_rfl) (by as_aux_lemma => kernel_rfl) (by kernel_rfl) (by kernel_rfl) (alongPre_append _ _ _ (by as_aux_lemma => kernel_rfl) (by as_aux_lemma => kernel_rfl)) (by as_aux_lemma => kernel_rfl) (fun _ _ _ _ _ h => h) (ckeep (Below.refl _ _).drew) (fun hH => ?_)
               simp only [List.cons_append, List.nil_append, stepsOf, pickOp]
               refine along_bar (fun K hK => ?_)
               go_simp
               refine TA.out.mono ?_
               rintro e w' ⟨rfl, hbx⟩
               try go_wp2_with fail
               refine hK.out _ _ (ckeep (cbelow_on hH.1 hbx)) (fun hH' => ?_)
               clear hK K hH
               have hH := hH'
               clear hH'
               clear hbx
               try simp only [Act.put, List.setIfInBounds_toArray, List.set_cons_zero, List.set_cons_succ]
               iterate 3 (first | (refine along_skip (by rfl) ?_; try simp only [Act.put, List.setIfInBounds_toArray, List.set_cons_zero, List.set_cons_succ]) | (refine along_pure ?_ (by rfl) (fun w hSw => ?_) ?_; rotate_left; ((try dsimp only at hSw); go_simp; try with_reducible rfl); try simp only [Act.put, List.setIfInBounds_toArray, List.set_cons_zero, List.set_cons_succ]))
               refine along_bar (fun K hK => ?_)
               go_simp
               refine (WPQ.out _).mono ?_
               rintro e w' ⟨rfl, hbx⟩
               try go_wp2_with fail
               refine hK.out _ _ (ckeep (cbelow_on hH.1 hbx)) (fun hH' => ?_)
               clear hK K hH
               have hH := hH'
               clear hH'
               clear hbx
               try simp only [Act.put, List.setIfInBounds_toArray, List.set_cons_zero, List.set_cons_succ]
               iterate 4 (first | (refine along_skip (by rfl) ?_; try simp only [Act.put, List.setIfInBounds_toArray, List.set_cons_zero, List.set_cons_succ]) | (refine along_pure ?_ (by rfl) (fun w hSw => ?_) ?_; rotate_left; ((try dsimp only at hSw); go_simp; try with_reducible rfl); try simp only [Act.put, List.setIfInBounds_toArray, List.set_cons_zero, List.set_cons_succ]))
               refine along_pass (by rfl) hH ?_
               try simp only [Act.put, List.setIfInBounds_toArray, List.set_cons_zero, List.set_cons_succ]
               iterate 3 (first | (refine along_skip (by rfl) ?_; try simp only [Act.put, List.setIfInBounds_toArray, List.set_cons_zero, List.set_cons_succ]) | (refine along_pure ?_ (by rfl) (fun w hSw => ?_) ?_; rotate_left; ((try dsimp only at hSw); go_simp; try with_reducible rfl); try simp only [Act.put, List.setIfInBounds_toArray, List.set_cons_zero, List.set_cons_succ]))
               refine along_pass (by rfl) hH ?_
               try simp only [Act.put, List.setIfInBounds_toArray, List.set_cons_zero, List.set_cons_succ]
               iterate 8 (first | (refine along_skip (by rfl) ?_; try simp only [Act.put, List.setIfInBounds_toArray, List.set_cons_zero, List.set_cons_succ]) | (refine along_pure ?_ (by rfl) (fun w hSw => ?_) ?_; rotate_left; ((try dsimp only at hSw); go_simp; try with_reducible rfl); try simp only [Act.put, List.setIfInBounds_toArray, List.set_cons_zero, List.set_cons_succ]))
               refine along_bar (fun K hK => ?_)
               go_simp
               refine (MPQ.out _).mono ?_
               rintro e w' ⟨rfl, hbx⟩
               try go_wp2_with fail
               refine hK.out _ _ (ckeep (cbelow_on hH.1 hbx)) (fun hH' => ?_)
               clear hK K hH
               have hH := hH'
               clear hH'
               clear hbx
               try simp only [Act.put, List.setIfInBounds_toArray, List.set_cons_zero, List.set_cons_succ]
               refine along_bar (fun K hK => ?_)
               go_simp
               refine (MLQ.out _).mono ?_
               rintro e w' ⟨rfl, hbx⟩
               try go_wp2_with fail
               refine hK.out _ _ (ckeep (cbelow_on hH.1 hbx)) (fun hH' => ?_)
               clear hK K hH
               have hH := hH'
               clear hH'
               clear hbx
               try simp only [Act.put, List.setIfInBounds_toArray, List.set_cons_zero, List.set_cons_succ]
               iterate 3 (first | (refine along_skip (by rfl) ?_; try simp only [Act.put, List.setIfInBounds_toArray, List.set_cons_zero, List.set_cons_succ]) | (refine along_pure ?_ (by rfl) (fun w hSw => ?_) ?_; rotate_left; ((try dsimp only at hSw); go_simp; try with_reducible rfl); try simp only [Act.put, List.setIfInBounds_toArray, List.set_cons_zero, List.set_cons_succ]))
               refine along_pass (by rfl) hH ?_
               try simp only [Act.put, List.setIfInBounds_toArray, List.set_cons_zero, List.set_cons_succ]
               iterate 4 (first | (refine along_skip (by rfl) ?_; try simp only [Act.put, List.setIfInBounds_toArray, List.set_cons_zero, List.set_cons_succ]) | (refine along_pure ?_ (by rfl) (fun w hSw => ?_) ?_; rotate_left; ((try dsimp only at hSw); go_simp; try with_reducible rfl); try simp only [Act.put, List.setIfInBounds_toArray, List.set_cons_zero, List.set_cons_succ]))
               refine along_end (NoPanic.normal ?_)
               have HB6 := Lib.hid (cbelow_on HB5.out hH.1)
               clear hH
               go_wp2
               go_ret
               exact ⟨cret_bool (by simp), HB6.out⟩
           · obtain ⟨rfl, rfl⟩ := E3.out (by trivial)
             cases ml
             · skip
               refine wp_region_noPanic ?_
               refine wp_region_along (S := fun w' => Below W5.heap.size W5 w' ∧ ∀ b o, (W5.cell? ⟨b, o, none⟩).isSome = true → w'.cell? ⟨b, o, none⟩ = W5.cell? ⟨b, o, none⟩) ([(0, false), (1, true), (2, true), (3, true), (4, false), (5, true), (6, true), (7, true), (8, true), (9, false), (10, true), (11, true), (12, true), (13, false), (14, true), (15, true)] ++ ([(16, true), (17, true), (18, true), (19, true), (21, true), (22, true), (20, false), (23, false), (24, true), (25, true), (26, true), (27, false), (28, true), (29, true), (30, true), (31, true)])) (by kernel_rfl) (by as_aux_lemma => kernel_rfl) (by kernel_rfl) (by kernel_rfl) (alongPre_append _ _ _ (by as_aux_lemma => kernel_rfl) (by as_aux_lemma => kernel_rfl)) (by as_aux_lemma => kernel_rfl) (fun _ _ _ _ _ h => h) (ckeep (Below.refl _ _).drew) (fun hH => ?_)
               simp only [List.cons_append, List.nil_append, stepsOf, pickOp]
               refine along_bar (fun K hK => ?_)
               go_simp
               refine TA.out.mono ?_
               rintro e w' ⟨rfl, hbx⟩
               try go_wp2_with fail
               refine hK.out _ _ (ckeep (cbelow_on hH.1 hbx)) (fun hH' => ?_)
               clear hK K hH
               have hH := hH'
               clear hH'
               clear hbx
               try simp only [Act.put, List.setIfInBounds_toArray, List.set_cons_zero, List.set_cons_succ]
               iterate 3 (first | (refine along_skip (by rfl) ?_; try simp only [Act.put, List.setIfInBounds_toArray, List.set_cons_zero, List.set_cons_succ]) | (refine along_pure ?_ (by rfl) (fun w hSw => ?_) ?_; rotate_left; ((try dsimp only at hSw); go_simp; try with_reducible rfl); try simp only [Act.put, List.setIfInBounds_toArray, List.set_cons_zero, List.set_cons_succ]))
               refine along_bar (fun K hK => ?_)
               go_simp
               refine (WPQ.out _).mono ?_
               rintro e w' ⟨rfl, hbx⟩
               try go_wp2_with fail
               refine hK.out _ _ (ckeep (cbelow_on hH.1 hbx)) (fun hH' => ?_)
               clear hK K hH
               have hH := hH'
               clear hH'
               clear hbx
               try simp only [Act.put, List.setIfInBounds_toArray, List.set_cons_zero, List.set_cons_succ]
               iterate 4 (first | (refine along_skip (by rfl) ?_; try simp only [Act.put, List.setIfInBounds_toArray, List.set_cons_zero, List.set_cons_succ]) | (refine along_pure ?_ (by rfl) (fun w hSw => ?_) ?_; rotate_left; ((try dsimp only at hSw); go_simp; try with_reducible rfl); try simp only [Act.put, List.setIfInBounds_toArray, List.set_cons_zero, List.set_cons_succ]))
               refine along_bar (fun K hK => ?_)
               go_simp
               refine (WLQ.out _).mono ?_
               rintro e w' ⟨rfl, hbx⟩
               try go_wp2_with fail
               refine hK.out _ _ (ckeep (cbelow_on hH.1 hbx)) (fun hH' => ?_)
               clear hK K hH
               have hH := hH'
               clear hH'
               clear hbx
               try simp only [Act.put, List.setIfInBounds_toArray, List.set_cons_zero, List.set_cons_succ]
               iterate 3 (first | (refine along_skip (by rfl) ?_; try simp only [Act.put, List.setIfInBounds_toArray, List.set_cons_zero, List.set_cons_succ]) | (refine along_pure ?_ (by rfl) (fun w hSw => ?_) ?_; rotate_left; ((try dsimp only at hSw); go_simp; try with_reducible rfl); try simp only [Act.put, List.setIfInBounds_toArray, List.set_cons_zero, List.set_cons_succ]))
               refine along_bar (fun K hK => ?_)
               go_simp
               refine (WHQ.out _).mono ?_
               rintro e w' ⟨rfl, hbx⟩
               try go_wp2_with fail
               refine hK.out _ _ (ckeep (cbelow_on hH.1 hbx)) (fun hH' => ?_)
               clear hK K hH
               have hH := hH'
               clear hH'
               clear hbx
               try simp only [Act.put, List.setIfInBounds_toArray, List.set_cons_zero, List.set_cons_succ]
               iterate 8 (first | (refine along_skip (by rfl) ?_; try simp only [Act.put, List.setIfInBounds_toArray, List.set_cons_zero, List.set_cons_succ]) | (refine along_pure ?_ (by rfl) (fun w hSw => ?_) ?_; rotate_left; ((try dsimp only at hSw); go_simp; try with_reducible rfl); try simp only [Act.put, List.setIfInBounds_toArray, List.set_cons_zero, List.set_cons_succ]))
               refine along_bar (fun K hK => ?_)
               go_simp
               refine (MPQ.out _).mono ?_
               rintro e w' ⟨rfl, hbx⟩
               try go_wp2_with fail
               refine hK.out _ _ (ckeep (cbelow_on hH.1 hbx)) (fun hH' => ?_)
               clear hK K hH
               have hH := hH'
               clear hH'
               clear hbx
               try simp only [Act.put, List.setIfInBounds_toArray, List.set_cons_zero, List.set_cons_succ]
               refine along_bar (fun K hK => ?_)
               go_simp
               refine (MLQ.out _).mono ?_
               rintro e w' ⟨rfl, hbx⟩
               try go_wp2_with fail
               refine hK.out _ _ (ckeep (cbelow_on hH.1 hbx)) (fun hH' => ?_)
               clear hK K hH
               have hH := hH'
               clear hH'
               clear hbx
               try simp only [Act.put, List.setIfInBounds_toArray, List.set_cons_zero, List.set_cons_succ]
               iterate 3 (first | (refine along_skip (by rfl) ?_; try simp only [Act.put, List.setIfInBounds_toArray, List.set_cons_zero, List.set_cons_succ]) | (refine along_pure ?_ (by rfl) (fun w hSw => ?_) ?_; rotate_left; ((try dsimp only at hSw); go_simp; try with_reducible rfl); try simp only [Act.put, List.setIfInBounds_toArray, List.set_cons_zero, List.set_cons_succ]))
               refine along_bar (fun K hK => ?_)
               go_simp
               refine (MHQ.out _).mono ?_
               rintro e w' ⟨rfl, hbx⟩
               try go_wp2_with fail
               refine hK.out _ _ (ckeep (cbelow_on hH.1 hbx)) (fun hH' => ?_)
               clear hK K hH
               have hH := hH'
               clear hH'
               clear hbx
               try simp only [Act.put, List.setIfInBounds_toArray, List.set_cons_zero, List.set_cons_succ]
               iterate 4 (first | (refine along_skip (by rfl) ?_; try simp only [Act.put, List.setIfInBounds_toArray, List.set_cons_zero, List.set_cons_succ]) | (refine along_pure ?_ (by rfl) (fun w hSw => ?_) ?_; rotate_left; ((try dsimp only at hSw); go_simp; try with_reducible rfl); try simp only [Act.put, List.setIfInBounds_toArray, List.set_cons_zero, List.set_cons_succ]))
               refine along_end (NoPanic.normal ?_)
               have HB6 := Lib.hid (cbelow_on HB5.out hH.1)
               clear hH
               go_wp2
               go_ret
               exact ⟨cret_bool (by simp), HB6.out⟩
             · skip
               refine wp_region_noPanic ?_
               refine wp_region_along (S := fun w' => Below W5.heap.size W5 w' ∧ ∀ b o, (W5.cell? ⟨b, o, none⟩).isSome = true → w'.cell? ⟨b, o, none⟩ = W5.cell? ⟨b, o, none⟩) ([(0, false), (1, true), (2, true), (3, true), (4, false), (5, true), (6, true), (7, true), (8, true), (9, false), (10, true), (11, true), (12, true), (13, false), (14, true), (15, true)] ++ ([(16, true), (17, true), (18, true), (19, true), (21, true), (22, true), (20, false), (23, false), (24, true), (25, true), (26, true), (27, false), (28, true), (29, true), (30, true), (31, true)])) (by kernel_rfl) (by as_aux_lemma => kernel_rfl) (by kernel_rfl) (by kernel_rfl) (alongPre_append _ _ _ (by as_aux_lemma => kernel_rfl) (by as_aux_lemma => kernel_rfl)) (by as_aux_lemma => kernel_rfl) (fun _ _ _ _ _ h => h) (ckeep (Below.refl _ _).drew) (fun hH => ?_)
               simp only [List.cons_append, List.nil_append, stepsOf, pickOp]
               refine along_bar (fun K hK => ?_)
               go_simp
               refine TA.out.mono ?_
               rintro e w' ⟨rfl, hbx⟩
               try go_wp2_with fail
               refine hK.out _ _ (ckeep (cbelow_on hH.1 hbx)) (fun hH' => ?_)
               clear hK K hH
               have hH := hH'
               clear hH'
               clear hbx
               try simp only [Act.put, List.setIfInBounds_toArray, List.set_cons_zero, List.set_cons_succ]
               iterate 3 (first | (refine along_skip (by rfl) ?_; try simp only [Act.put, List.setIfInBounds_toArray, List.set_cons_zero, List.set_cons_succ]) | (refine along_pure ?_ (by rfl) (fun w hSw => ?_) ?_; rotate_left; ((try dsimp only at hSw); go_simp; try with_reducible rfl); try simp only [Act.put, List.setIfInBounds_toArray, List.set_cons_zero, List.set_cons_succ]))
               refine along_bar (fun K hK => ?_)
               go_simp
               refine (WPQ.out _).mono ?_
               rintro e w' ⟨rfl, hbx⟩
               try go_wp2_with fail
               refine hK.out _ _ (ckeep (cbelow_on hH.1 hbx)) (fun hH' => ?_)
               clear hK K hH
               have hH := hH'
               clear hH'
               clear hbx
               try simp only [Act.put, List.setIfInBounds_toArray, List.set_cons_zero, List.set_cons_succ]
               iterate 4 (first | (refine along_skip (by rfl) ?_; try simp only [Act.put, List.setIfInBounds_toArray, List.set_cons_zero, List.set_cons_succ]) | (refine along_pure ?_ (by rfl) (fun w hSw => ?_) ?_; rotate_left; ((try dsimp only at hSw); go_simp; try with_reducible rfl); try simp only [Act.put, List.setIfInBounds_toArray, List.set_cons_zero, List.set_cons_succ]))
               refine along_bar (fun K hK => ?_)
               go_simp
               refine (WLQ.out _).mono ?_
               rintro e w' ⟨rfl, hbx⟩
               try go_wp2_with fail
               refine hK.out _ _ (ckeep (cbelow_on hH.1 hbx)) (fun hH' => ?_)
               clear hK K hH
               have hH := hH'
               clear hH'
               clear hbx
               try simp only [Act.put, List.setIfInBounds_toArray, List.set_cons_zero, List.set_cons_succ]
               iterate 3 (first | (refine along_skip (by rfl) ?_; try simp only [Act.put, List.setIfInBounds_toArray, List.set_cons_zero, List.set_cons_succ]) | (refine along_pure ?_ (by rfl) (fun w hSw => ?_) ?_; rotate_left; ((try dsimp only at hSw); go_simp; try with_reducible rfl); try simp only [Act.put, List.setIfInBounds_toArray, List.set_cons_zero, List.set_cons_succ]))
               refine along_bar (fun K hK => ?_)
               go_simp
               refine (WHQ.out _).mono ?_
               rintro e w' ⟨rfl, hbx⟩
               try go_wp2_with fail
               refine hK.out _ _ (ckeep (cbelow_on hH.1 hbx)) (fun hH' => ?_)
               clear hK K hH
               have hH := hH'
               clear hH'
               clear hbx
               try simp only [Act.put, List.setIfInBounds_toArray, List.set_cons_zero, List.set_cons_succ]
               iterate 8 (first | (refine along_skip (by rfl) ?_; try simp only [Act.put, List.setIfInBounds_toArray, List.set_cons_zero, List.set_cons_succ]) | (refine along_pure ?_ (by rfl) (fun w hSw => ?_) ?_; rotate_left; ((try dsimp only at hSw); go_simp; try with_reducible rfl); try simp only [Act.put, List.setIfInBounds_toArray, List.set_cons_zero, List.set_cons_succ]))
               refine along_bar (fun K hK => ?_)
               go_simp
               refine (MPQ.out _).mono ?_
               rintro e w' ⟨rfl, hbx⟩
               try go_wp2_with fail
               refine hK.out _ _ (ckeep (cbelow_on hH.1 hbx)) (fun hH' => ?_)
               clear hK K hH
               have hH := hH'
               clear hH'
               clear hbx
               try simp only [Act.put, List.setIfInBounds_toArray, List.set_cons_zero, List.set_cons_succ]
               refine along_bar (fun K hK => ?_)
               go_simp
               refine (MLQ.out _).mono ?_
               rintro e w' ⟨rfl, hbx⟩
               try go_wp2_with fail
               refine hK.out _ _ (ckeep (cbelow_on hH.1 hbx)) (fun hH' => ?_)
               clear hK K hH
               have hH := hH'
               clear hH'
               clear hbx
               try simp only [Act.put, List.setIfInBounds_toArray, List.set_cons_zero, List.set_cons_succ]
               iterate 3 (first | (refine along_skip (by rfl) ?_; try simp only [Act.put, List.setIfInBounds_toArray, List.set_cons_zero, List.set_cons_succ]) | (refine along_pure ?_ (by rfl) (fun w hSw => ?_) ?_; rotate_left; ((try dsimp only at hSw); go_simp; try with_reducible rfl); try simp only [Act.put, List.setIfInBounds_toArray, List.set_cons_zero, List.set_cons_succ]))
               refine along_pass (by rfl) hH ?_
               try simp only [Act.put, List.setIfInBounds_toArray, List.set_cons_zero, List.set_cons_succ]
               iterate 4 (first | (refine along_skip (by rfl) ?_; try simp only [Act.put, List.setIfInBounds_toArray, List.set_cons_zero, List.set_cons_succ]) | (refine along_pure ?_ (by rfl) (fun w hSw => ?_) ?_; rotate_left; ((try dsimp only at hSw); go_simp; try with_reducible rfl); try simp only [Act.put, List.setIfInBounds_toArray, List.set_cons_zero, List.set_cons_succ]))
               refine along_end (NoPanic.normal ?_)
               have HB6 := Lib.hid (cbelow_on HB5.out hH.1)
               clear hH
               go_wp2
               go_ret
               exact ⟨cret_bool (by simp), HB6.out⟩
end Go.Proofs.YtgbphocmnpjjpabDoor
