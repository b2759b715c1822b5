/- The walk of FilterMeets. -/
import Derived.Test.YtlmeagnegakifaaDoorF5
import Derived.Test.YtlmeagnegakifaaDoorAt
namespace Go.Proofs.YtlmeagnegakifaaDoor
open Go.RowKit
set_option linter.unusedVariables false

set_option maxRecDepth 100000 in
set_option maxHeartbeats 8000000 in
theorem fmeets_core (a n b m p l h u v a' n' b' m' p' l' h' u' v' d s q x y s0 s1 s2 s3 s4 t0 t1 t2 t3 t4 x0 x1 x2 x3 x4 E1 E2 c : Int) (P1 P2 M : Bool) (P : World → Prop) (HP : Hid (∀ W w, P W → Below W.heap.size W w → P w))
    (RC1 : Hid (∀ w, Calls Tryd.prog 33 #[fv a n b m p l h u v] w fun e w' => e = .returned (.int .i64 E1) ∧ Below w.heap.size w w'))
    (RC2 : Hid (∀ w, Calls Tryd.prog 33 #[fv a' n' b' m' p' l' h' u' v'] w fun e w' => e = .returned (.int .i64 E2) ∧ Below w.heap.size w w'))
    (AW : Hid (∀ w, P w → Calls Tryd.prog 36 #[] w fun e w' => e = .returned (.bool true) ∧ Below w.heap.size w w'))
    (m0 : max s0 t0 = x0) (m1 : max s1 t1 = x1) (m2 : max s2 t2 = x2) (m3 : max s3 t3 = x3) (m4 : max s4 t4 = x4)
    (rest : Hid (E1 = 0 → E2 = 0 →
      (∀ w, Calls Tryd.prog 38 #[fv a n b m p l h u v] w fun e w' => e = .returned (hv s0 s1 s2 s3 s4) ∧ Below w.heap.size w w') ∧ (∀ w, Calls Tryd.prog 38 #[fv a' n' b' m' p' l' h' u' v'] w fun e w' => e = .returned (hv t0 t1 t2 t3 t4) ∧ Below w.heap.size w w') ∧
      (∀ w, Calls Tryd.prog 37 #[fv a n b m p l h u v, hv s0 s1 s2 s3 s4] w fun e w' => e = .returned (.bool true) ∧ Below w.heap.size w w') ∧ (∀ w, Calls Tryd.prog 37 #[fv a n b m p l h u v, hv d s q x y] w fun e w' => e = .returned (.bool P1) ∧ Below w.heap.size w w') ∧ (∀ w, Calls Tryd.prog 37 #[fv a' n' b' m' p' l' h' u' v', hv d s q x y] w fun e w' => e = .returned (.bool P2) ∧ Below w.heap.size w w') ∧
      (∀ w, Calls Tryd.prog 39 #[hv d s q x y, hv s0 s1 s2 s3 s4] w fun e w' => e = .returned (.int .i64 c) ∧ Below w.heap.size w w') ∧ (P1 = true → ¬ c < 0) ∧
      (∀ w, Calls Tryd.prog 40 #[fv a n b m p l h u v, fv a' n' b' m' p' l' h' u' v'] w fun e w' => e = .returned (.bool M) ∧ Below w.heap.size w w') ∧ (∀ w, Calls Tryd.prog 40 #[fv a' n' b' m' p' l' h' u' v', fv a n b m p l h u v] w fun e w' => e = .returned (.bool M) ∧ Below w.heap.size w w') ∧ (∀ w, Calls Tryd.prog 40 #[fv a n b m p l h u v, fv a n b m p l h u v] w fun e w' => e = .returned (.bool true) ∧ Below w.heap.size w w') ∧
      (P1 = true → P2 = true → M = true) ∧ (M = false → (∀ w, Calls Tryd.prog 37 #[fv a' n' b' m' p' l' h' u' v', hv s0 s1 s2 s3 s4] w fun e w' => e = .returned (.bool false) ∧ Below w.heap.size w w')) ∧
      (M = true → (∀ w, Calls Tryd.prog 37 #[fv a n b m p l h u v, hv x0 x1 x2 x3 x4] w fun e w' => e = .returned (.bool true) ∧ Below w.heap.size w w') ∧ (∀ w, Calls Tryd.prog 37 #[fv a' n' b' m' p' l' h' u' v', hv x0 x1 x2 x3 x4] w fun e w' => e = .returned (.bool true) ∧ Below w.heap.size w w'))))
    (w : World) (ht : P w) :
    Calls Tryd.prog 8 #[fv a n b m p l h u v, fv a' n' b' m' p' l' h' u' v', hv d s q x y] w fun e w' => e = .returned (.bool true) ∧ Below w.heap.size w w' := by
  obtain ⟨W0, hW0⟩ : ∃ W0, ((w.alloc (Obj.cells (fc a n b m p l h u v).toArray 62)).alloc (Obj.cells (fc a' n' b' m' p' l' h' u' v').toArray 62)).alloc (Obj.cells (hc d s q x y).toArray 25) = W0 := ⟨_, rfl⟩
  have F0 := Lib.hid (show Blk W0 w.heap.size (fc a n b m p l h u v) by rw [← hW0]; exact (Blk.new _ _ _).on (cbelow_al (cbelow_al (Below.refl _ _) _) _))
  have G0 := Lib.hid (show Blk W0 (w.heap.size + 1) (fc a' n' b' m' p' l' h' u' v') by rw [← hW0]; have k := (Blk.new (w.alloc (Obj.cells (fc a n b m p l h u v).toArray 62)) 62 (fc a' n' b' m' p' l' h' u' v')).on (cbelow_al (Below.refl _ _) (Obj.cells (hc d s q x y).toArray 25)); rw [World.size_alloc] at k; exact k)
  have K0 := Lib.hid (show Blk W0 (w.heap.size + 1 + 1) (hc d s q x y) by rw [← hW0]; have k := Blk.new ((w.alloc (Obj.cells (fc a n b m p l h u v).toArray 62)).alloc (Obj.cells (fc a' n' b' m' p' l' h' u' v').toArray 62)) 25 (hc d s q x y); rw [World.size_alloc, World.size_alloc] at k; exact k)
  have B0 := Lib.hid (show Below w.heap.size w W0 by rw [← hW0]; exact cbelow_al (cbelow_al (cbelow_al (Below.refl _ _) _) _) _)
  have hP0 := Lib.hid (HP.out _ _ ht B0.out)
  clear ht
  unfold fc hc at *
  unfold fv hv at *
  go_enter Tryd.func8, Tryd.ntmps8
  go_upto_region 1 with fail
  clear hW0
  obtain ⟨f_0, f_1, f_2, f_3, f_4, f_5, f_6, f_7, f_8⟩ : _ ∧ _ ∧ _ ∧ _ ∧ _ ∧ _ ∧ _ ∧ _ ∧ _ := ⟨F0.out.1 0 _ rfl, F0.out.1 1 _ rfl, F0.out.1 2 _ rfl, F0.out.1 3 _ rfl, F0.out.1 4 _ rfl, F0.out.1 5 _ rfl, F0.out.1 6 _ rfl, F0.out.1 7 _ rfl, F0.out.1 8 _ rfl⟩
  obtain ⟨g_0, g_1, g_2, g_3, g_4, g_5, g_6, g_7, g_8⟩ : _ ∧ _ ∧ _ ∧ _ ∧ _ ∧ _ ∧ _ ∧ _ ∧ _ := ⟨G0.out.1 0 _ rfl, G0.out.1 1 _ rfl, G0.out.1 2 _ rfl, G0.out.1 3 _ rfl, G0.out.1 4 _ rfl, G0.out.1 5 _ rfl, G0.out.1 6 _ rfl, G0.out.1 7 _ rfl, G0.out.1 8 _ rfl⟩
  obtain ⟨k_0, k_1, k_2, k_3, k_4⟩ : _ ∧ _ ∧ _ ∧ _ ∧ _ := ⟨K0.out.1 0 _ rfl, K0.out.1 1 _ rfl, K0.out.1 2 _ rfl, K0.out.1 3 _ rfl, K0.out.1 4 _ rfl⟩
  go_wp2_with fail
  refine (RC1.out _).mono ?_
  rintro e w1 ⟨rfl, hb⟩
  have F1 := Lib.hid (F0.out.on hb)
  have G1 := Lib.hid (G0.out.on hb)
  have K1 := Lib.hid (K0.out.on hb)
  have B1 := Lib.hid (cbelow_on B0.out hb)
  have hP1 := Lib.hid (HP.out _ _ hP0.out hb)
  clear hb f_0 f_1 f_2 f_3 f_4 f_5 f_6 f_7 f_8 g_0 g_1 g_2 g_3 g_4 g_5 g_6 g_7 g_8 k_0 k_1 k_2 k_3 k_4 F0 G0 K0 B0 hP0
  obtain ⟨f_0, f_1, f_2, f_3, f_4, f_5, f_6, f_7, f_8⟩ : _ ∧ _ ∧ _ ∧ _ ∧ _ ∧ _ ∧ _ ∧ _ ∧ _ := ⟨F1.out.1 0 _ rfl, F1.out.1 1 _ rfl, F1.out.1 2 _ rfl, F1.out.1 3 _ rfl, F1.out.1 4 _ rfl, F1.out.1 5 _ rfl, F1.out.1 6 _ rfl, F1.out.1 7 _ rfl, F1.out.1 8 _ rfl⟩
  obtain ⟨g_0, g_1, g_2, g_3, g_4, g_5, g_6, g_7, g_8⟩ : _ ∧ _ ∧ _ ∧ _ ∧ _ ∧ _ ∧ _ ∧ _ ∧ _ := ⟨G1.out.1 0 _ rfl, G1.out.1 1 _ rfl, G1.out.1 2 _ rfl, G1.out.1 3 _ rfl, G1.out.1 4 _ rfl, G1.out.1 5 _ rfl, G1.out.1 6 _ rfl, G1.out.1 7 _ rfl, G1.out.1 8 _ rfl⟩
  obtain ⟨k_0, k_1, k_2, k_3, k_4⟩ : _ ∧ _ ∧ _ ∧ _ ∧ _ := ⟨K1.out.1 0 _ rfl, K1.out.1 1 _ rfl, K1.out.1 2 _ rfl, K1.out.1 3 _ rfl, K1.out.1 4 _ rfl⟩
  by_cases e1 : E1 = 0
  · subst e1
    go_wp2_with fail
    refine (RC2.out _).mono ?_
    rintro e w2 ⟨rfl, hb⟩
    have F2 := Lib.hid (F1.out.on hb)
    have G2 := Lib.hid (G1.out.on hb)
    have K2 := Lib.hid (K1.out.on hb)
    have B2 := Lib.hid (cbelow_on B1.out hb)
    have hP2 := Lib.hid (HP.out _ _ hP1.out hb)
    clear hb f_0 f_1 f_2 f_3 f_4 f_5 f_6 f_7 f_8 g_0 g_1 g_2 g_3 g_4 g_5 g_6 g_7 g_8 k_0 k_1 k_2 k_3 k_4 F1 G1 K1 B1 hP1
    obtain ⟨f_0, f_1, f_2, f_3, f_4, f_5, f_6, f_7, f_8⟩ : _ ∧ _ ∧ _ ∧ _ ∧ _ ∧ _ ∧ _ ∧ _ ∧ _ := ⟨F2.out.1 0 _ rfl, F2.out.1 1 _ rfl, F2.out.1 2 _ rfl, F2.out.1 3 _ rfl, F2.out.1 4 _ rfl, F2.out.1 5 _ rfl, F2.out.1 6 _ rfl, F2.out.1 7 _ rfl, F2.out.1 8 _ rfl⟩
    obtain ⟨g_0, g_1, g_2, g_3, g_4, g_5, g_6, g_7, g_8⟩ : _ ∧ _ ∧ _ ∧ _ ∧ _ ∧ _ ∧ _ ∧ _ ∧ _ := ⟨G2.out.1 0 _ rfl, G2.out.1 1 _ rfl, G2.out.1 2 _ rfl, G2.out.1 3 _ rfl, G2.out.1 4 _ rfl, G2.out.1 5 _ rfl, G2.out.1 6 _ rfl, G2.out.1 7 _ rfl, G2.out.1 8 _ rfl⟩
    obtain ⟨k_0, k_1, k_2, k_3, k_4⟩ : _ ∧ _ ∧ _ ∧ _ ∧ _ := ⟨K2.out.1 0 _ rfl, K2.out.1 1 _ rfl, K2.out.1 2 _ rfl, K2.out.1 3 _ rfl, K2.out.1 4 _ rfl⟩
    by_cases e2 : E2 = 0
    · subst e2
      obtain ⟨SF, SG, R1, R2, R3, CM, hc0, MT, MS, MF, hM, R4, R56⟩ := rest.out (by trivial) (by trivial)
      replace SF := Lib.hid SF
      replace SG := Lib.hid SG
      replace R1 := Lib.hid R1
      replace R2 := Lib.hid R2
      replace R3 := Lib.hid R3
      replace CM := Lib.hid CM
      replace MT := Lib.hid MT
      replace MS := Lib.hid MS
      replace MF := Lib.hid MF
      replace R4 := Lib.hid R4
      replace R56 := Lib.hid R56
      replace hc0 := Lib.hid hc0
      replace hM := Lib.hid hM
      clear rest RC1 RC2
      go_wp2_with fail
      refine (SF.out _).mono ?_
      rintro e w3 ⟨rfl, hb⟩
      have F3 := Lib.hid (F2.out.on hb)
      have G3 := Lib.hid (G2.out.on hb)
      have K3 := Lib.hid (K2.out.on hb)
      have B3 := Lib.hid (cbelow_on B2.out hb)
      have hP3 := Lib.hid (HP.out _ _ hP2.out hb)
      clear hb f_0 f_1 f_2 f_3 f_4 f_5 f_6 f_7 f_8 g_0 g_1 g_2 g_3 g_4 g_5 g_6 g_7 g_8 k_0 k_1 k_2 k_3 k_4 F2 G2 K2 B2 hP2
      go_upto_region 4 with fail
      refine at_code (S := fun W => Blk W w3.heap.size [.int .u32 s0, .int .u32 s1, .int .u8 s2, .int .u16 s3, .int .u16 s4] ∧ Below w3.heap.size w3 W) ⟨Blk.new _ _ _, cbelow_al (Below.refl _ _) _⟩ (fun W4 hW => ?_)
      obtain ⟨hN, hb⟩ := hW
      have F4 := Lib.hid (F3.out.on hb)
      have G4 := Lib.hid (G3.out.on hb)
      have K4 := Lib.hid (K3.out.on hb)
      have B4 := Lib.hid (cbelow_on B3.out hb)
      have hP4 := Lib.hid (HP.out _ _ hP3.out hb)
      clear hb F3 G3 K3 B3 hP3
      have S4 := Lib.hid hN
      clear hN
      go_cut [51] (fun z wx => z = .bool false ∧ Below W4.heap.size W4 wx)
      case first =>
        clear B4 hP4
        have B4 := Lib.hid (Below.refl W4.heap.size W4)
        obtain ⟨f_0, f_1, f_2, f_3, f_4, f_5, f_6, f_7, f_8⟩ : _ ∧ _ ∧ _ ∧ _ ∧ _ ∧ _ ∧ _ ∧ _ ∧ _ := ⟨F4.out.1 0 _ rfl, F4.out.1 1 _ rfl, F4.out.1 2 _ rfl, F4.out.1 3 _ rfl, F4.out.1 4 _ rfl, F4.out.1 5 _ rfl, F4.out.1 6 _ rfl, F4.out.1 7 _ rfl, F4.out.1 8 _ rfl⟩
        obtain ⟨g_0, g_1, g_2, g_3, g_4, g_5, g_6, g_7, g_8⟩ : _ ∧ _ ∧ _ ∧ _ ∧ _ ∧ _ ∧ _ ∧ _ ∧ _ := ⟨G4.out.1 0 _ rfl, G4.out.1 1 _ rfl, G4.out.1 2 _ rfl, G4.out.1 3 _ rfl, G4.out.1 4 _ rfl, G4.out.1 5 _ rfl, G4.out.1 6 _ rfl, G4.out.1 7 _ rfl, G4.out.1 8 _ rfl⟩
        obtain ⟨k_0, k_1, k_2, k_3, k_4⟩ : _ ∧ _ ∧ _ ∧ _ ∧ _ := ⟨K4.out.1 0 _ rfl, K4.out.1 1 _ rfl, K4.out.1 2 _ rfl, K4.out.1 3 _ rfl, K4.out.1 4 _ rfl⟩
        obtain ⟨s_0, s_1, s_2, s_3, s_4⟩ : _ ∧ _ ∧ _ ∧ _ ∧ _ := ⟨S4.out.1 0 _ rfl, S4.out.1 1 _ rfl, S4.out.1 2 _ rfl, S4.out.1 3 _ rfl, S4.out.1 4 _ rfl⟩
        go_wp2_with fail
        refine (R1.out _).mono ?_
        rintro e w5 ⟨rfl, hb⟩
        have F5 := Lib.hid (F4.out.on hb)
        have G5 := Lib.hid (G4.out.on hb)
        have K5 := Lib.hid (K4.out.on hb)
        have S5 := Lib.hid (S4.out.on hb)
        have B5 := Lib.hid (cbelow_on B4.out hb)
        clear hb f_0 f_1 f_2 f_3 f_4 f_5 f_6 f_7 f_8 g_0 g_1 g_2 g_3 g_4 g_5 g_6 g_7 g_8 k_0 k_1 k_2 k_3 k_4 s_0 s_1 s_2 s_3 s_4 F4 G4 K4 S4 B4
        obtain ⟨f_0, f_1, f_2, f_3, f_4, f_5, f_6, f_7, f_8⟩ : _ ∧ _ ∧ _ ∧ _ ∧ _ ∧ _ ∧ _ ∧ _ ∧ _ := ⟨F5.out.1 0 _ rfl, F5.out.1 1 _ rfl, F5.out.1 2 _ rfl, F5.out.1 3 _ rfl, F5.out.1 4 _ rfl, F5.out.1 5 _ rfl, F5.out.1 6 _ rfl, F5.out.1 7 _ rfl, F5.out.1 8 _ rfl⟩
        obtain ⟨g_0, g_1, g_2, g_3, g_4, g_5, g_6, g_7, g_8⟩ : _ ∧ _ ∧ _ ∧ _ ∧ _ ∧ _ ∧ _ ∧ _ ∧ _ := ⟨G5.out.1 0 _ rfl, G5.out.1 1 _ rfl, G5.out.1 2 _ rfl, G5.out.1 3 _ rfl, G5.out.1 4 _ rfl, G5.out.1 5 _ rfl, G5.out.1 6 _ rfl, G5.out.1 7 _ rfl, G5.out.1 8 _ rfl⟩
        obtain ⟨k_0, k_1, k_2, k_3, k_4⟩ : _ ∧ _ ∧ _ ∧ _ ∧ _ := ⟨K5.out.1 0 _ rfl, K5.out.1 1 _ rfl, K5.out.1 2 _ rfl, K5.out.1 3 _ rfl, K5.out.1 4 _ rfl⟩
        obtain ⟨s_0, s_1, s_2, s_3, s_4⟩ : _ ∧ _ ∧ _ ∧ _ ∧ _ := ⟨S5.out.1 0 _ rfl, S5.out.1 1 _ rfl, S5.out.1 2 _ rfl, S5.out.1 3 _ rfl, S5.out.1 4 _ rfl⟩
        go_wp2_with fail
        refine (R2.out _).mono ?_
        rintro e w6 ⟨rfl, hb⟩
        have F6 := Lib.hid (F5.out.on hb)
        have G6 := Lib.hid (G5.out.on hb)
        have K6 := Lib.hid (K5.out.on hb)
        have S6 := Lib.hid (S5.out.on hb)
        have B6 := Lib.hid (cbelow_on B5.out hb)
        clear hb f_0 f_1 f_2 f_3 f_4 f_5 f_6 f_7 f_8 g_0 g_1 g_2 g_3 g_4 g_5 g_6 g_7 g_8 k_0 k_1 k_2 k_3 k_4 s_0 s_1 s_2 s_3 s_4 F5 G5 K5 S5 B5
        obtain ⟨f_0, f_1, f_2, f_3, f_4, f_5, f_6, f_7, f_8⟩ : _ ∧ _ ∧ _ ∧ _ ∧ _ ∧ _ ∧ _ ∧ _ ∧ _ := ⟨F6.out.1 0 _ rfl, F6.out.1 1 _ rfl, F6.out.1 2 _ rfl, F6.out.1 3 _ rfl, F6.out.1 4 _ rfl, F6.out.1 5 _ rfl, F6.out.1 6 _ rfl, F6.out.1 7 _ rfl, F6.out.1 8 _ rfl⟩
        obtain ⟨g_0, g_1, g_2, g_3, g_4, g_5, g_6, g_7, g_8⟩ : _ ∧ _ ∧ _ ∧ _ ∧ _ ∧ _ ∧ _ ∧ _ ∧ _ := ⟨G6.out.1 0 _ rfl, G6.out.1 1 _ rfl, G6.out.1 2 _ rfl, G6.out.1 3 _ rfl, G6.out.1 4 _ rfl, G6.out.1 5 _ rfl, G6.out.1 6 _ rfl, G6.out.1 7 _ rfl, G6.out.1 8 _ rfl⟩
        obtain ⟨k_0, k_1, k_2, k_3, k_4⟩ : _ ∧ _ ∧ _ ∧ _ ∧ _ := ⟨K6.out.1 0 _ rfl, K6.out.1 1 _ rfl, K6.out.1 2 _ rfl, K6.out.1 3 _ rfl, K6.out.1 4 _ rfl⟩
        obtain ⟨s_0, s_1, s_2, s_3, s_4⟩ : _ ∧ _ ∧ _ ∧ _ ∧ _ := ⟨S6.out.1 0 _ rfl, S6.out.1 1 _ rfl, S6.out.1 2 _ rfl, S6.out.1 3 _ rfl, S6.out.1 4 _ rfl⟩
        cases P1 with
        | false =>
          go_wp2_with fail
          refine (R2.out _).mono ?_
          rintro e w7 ⟨rfl, hb⟩
          have F7 := Lib.hid (F6.out.on hb)
          have G7 := Lib.hid (G6.out.on hb)
          have K7 := Lib.hid (K6.out.on hb)
          have S7 := Lib.hid (S6.out.on hb)
          have B7 := Lib.hid (cbelow_on B6.out hb)
          clear hb f_0 f_1 f_2 f_3 f_4 f_5 f_6 f_7 f_8 g_0 g_1 g_2 g_3 g_4 g_5 g_6 g_7 g_8 k_0 k_1 k_2 k_3 k_4 s_0 s_1 s_2 s_3 s_4 F6 G6 K6 S6 B6
          go_wp2_with fail
          go_meet
          exact ⟨rfl, B7.out⟩
        | true =>
          have hc1 : decide (c < 0) = false := decide_eq_false (by have := hc0.out (by trivial); omega)
          go_wp2_with fail
          refine (CM.out _).mono ?_
          rintro e w7 ⟨rfl, hb⟩
          have F7 := Lib.hid (F6.out.on hb)
          have G7 := Lib.hid (G6.out.on hb)
          have K7 := Lib.hid (K6.out.on hb)
          have S7 := Lib.hid (S6.out.on hb)
          have B7 := Lib.hid (cbelow_on B6.out hb)
          clear hb f_0 f_1 f_2 f_3 f_4 f_5 f_6 f_7 f_8 g_0 g_1 g_2 g_3 g_4 g_5 g_6 g_7 g_8 k_0 k_1 k_2 k_3 k_4 s_0 s_1 s_2 s_3 s_4 F6 G6 K6 S6 B6
          obtain ⟨f_0, f_1, f_2, f_3, f_4, f_5, f_6, f_7, f_8⟩ : _ ∧ _ ∧ _ ∧ _ ∧ _ ∧ _ ∧ _ ∧ _ ∧ _ := ⟨F7.out.1 0 _ rfl, F7.out.1 1 _ rfl, F7.out.1 2 _ rfl, F7.out.1 3 _ rfl, F7.out.1 4 _ rfl, F7.out.1 5 _ rfl, F7.out.1 6 _ rfl, F7.out.1 7 _ rfl, F7.out.1 8 _ rfl⟩
          obtain ⟨g_0, g_1, g_2, g_3, g_4, g_5, g_6, g_7, g_8⟩ : _ ∧ _ ∧ _ ∧ _ ∧ _ ∧ _ ∧ _ ∧ _ ∧ _ := ⟨G7.out.1 0 _ rfl, G7.out.1 1 _ rfl, G7.out.1 2 _ rfl, G7.out.1 3 _ rfl, G7.out.1 4 _ rfl, G7.out.1 5 _ rfl, G7.out.1 6 _ rfl, G7.out.1 7 _ rfl, G7.out.1 8 _ rfl⟩
          obtain ⟨k_0, k_1, k_2, k_3, k_4⟩ : _ ∧ _ ∧ _ ∧ _ ∧ _ := ⟨K7.out.1 0 _ rfl, K7.out.1 1 _ rfl, K7.out.1 2 _ rfl, K7.out.1 3 _ rfl, K7.out.1 4 _ rfl⟩
          obtain ⟨s_0, s_1, s_2, s_3, s_4⟩ : _ ∧ _ ∧ _ ∧ _ ∧ _ := ⟨S7.out.1 0 _ rfl, S7.out.1 1 _ rfl, S7.out.1 2 _ rfl, S7.out.1 3 _ rfl, S7.out.1 4 _ rfl⟩
          go_wp2_with fail
          refine (R2.out _).mono ?_
          rintro e w8 ⟨rfl, hb⟩
          have F8 := Lib.hid (F7.out.on hb)
          have G8 := Lib.hid (G7.out.on hb)
          have K8 := Lib.hid (K7.out.on hb)
          have S8 := Lib.hid (S7.out.on hb)
          have B8 := Lib.hid (cbelow_on B7.out hb)
          clear hb f_0 f_1 f_2 f_3 f_4 f_5 f_6 f_7 f_8 g_0 g_1 g_2 g_3 g_4 g_5 g_6 g_7 g_8 k_0 k_1 k_2 k_3 k_4 s_0 s_1 s_2 s_3 s_4 F7 G7 K7 S7 B7
          obtain ⟨f_0, f_1, f_2, f_3, f_4, f_5, f_6, f_7, f_8⟩ : _ ∧ _ ∧ _ ∧ _ ∧ _ ∧ _ ∧ _ ∧ _ ∧ _ := ⟨F8.out.1 0 _ rfl, F8.out.1 1 _ rfl, F8.out.1 2 _ rfl, F8.out.1 3 _ rfl, F8.out.1 4 _ rfl, F8.out.1 5 _ rfl, F8.out.1 6 _ rfl, F8.out.1 7 _ rfl, F8.out.1 8 _ rfl⟩
          obtain ⟨g_0, g_1, g_2, g_3, g_4, g_5, g_6, g_7, g_8⟩ : _ ∧ _ ∧ _ ∧ _ ∧ _ ∧ _ ∧ _ ∧ _ ∧ _ := ⟨G8.out.1 0 _ rfl, G8.out.1 1 _ rfl, G8.out.1 2 _ rfl, G8.out.1 3 _ rfl, G8.out.1 4 _ rfl, G8.out.1 5 _ rfl, G8.out.1 6 _ rfl, G8.out.1 7 _ rfl, G8.out.1 8 _ rfl⟩
          obtain ⟨k_0, k_1, k_2, k_3, k_4⟩ : _ ∧ _ ∧ _ ∧ _ ∧ _ := ⟨K8.out.1 0 _ rfl, K8.out.1 1 _ rfl, K8.out.1 2 _ rfl, K8.out.1 3 _ rfl, K8.out.1 4 _ rfl⟩
          obtain ⟨s_0, s_1, s_2, s_3, s_4⟩ : _ ∧ _ ∧ _ ∧ _ ∧ _ := ⟨S8.out.1 0 _ rfl, S8.out.1 1 _ rfl, S8.out.1 2 _ rfl, S8.out.1 3 _ rfl, S8.out.1 4 _ rfl⟩
          go_wp2_with fail
          refine (R3.out _).mono ?_
          rintro e w9 ⟨rfl, hb⟩
          have F9 := Lib.hid (F8.out.on hb)
          have G9 := Lib.hid (G8.out.on hb)
          have K9 := Lib.hid (K8.out.on hb)
          have S9 := Lib.hid (S8.out.on hb)
          have B9 := Lib.hid (cbelow_on B8.out hb)
          clear hb f_0 f_1 f_2 f_3 f_4 f_5 f_6 f_7 f_8 g_0 g_1 g_2 g_3 g_4 g_5 g_6 g_7 g_8 k_0 k_1 k_2 k_3 k_4 s_0 s_1 s_2 s_3 s_4 F8 G8 K8 S8 B8
          obtain ⟨f_0, f_1, f_2, f_3, f_4, f_5, f_6, f_7, f_8⟩ : _ ∧ _ ∧ _ ∧ _ ∧ _ ∧ _ ∧ _ ∧ _ ∧ _ := ⟨F9.out.1 0 _ rfl, F9.out.1 1 _ rfl, F9.out.1 2 _ rfl, F9.out.1 3 _ rfl, F9.out.1 4 _ rfl, F9.out.1 5 _ rfl, F9.out.1 6 _ rfl, F9.out.1 7 _ rfl, F9.out.1 8 _ rfl⟩
          obtain ⟨g_0, g_1, g_2, g_3, g_4, g_5, g_6, g_7, g_8⟩ : _ ∧ _ ∧ _ ∧ _ ∧ _ ∧ _ ∧ _ ∧ _ ∧ _ := ⟨G9.out.1 0 _ rfl, G9.out.1 1 _ rfl, G9.out.1 2 _ rfl, G9.out.1 3 _ rfl, G9.out.1 4 _ rfl, G9.out.1 5 _ rfl, G9.out.1 6 _ rfl, G9.out.1 7 _ rfl, G9.out.1 8 _ rfl⟩
          obtain ⟨k_0, k_1, k_2, k_3, k_4⟩ : _ ∧ _ ∧ _ ∧ _ ∧ _ := ⟨K9.out.1 0 _ rfl, K9.out.1 1 _ rfl, K9.out.1 2 _ rfl, K9.out.1 3 _ rfl, K9.out.1 4 _ rfl⟩
          obtain ⟨s_0, s_1, s_2, s_3, s_4⟩ : _ ∧ _ ∧ _ ∧ _ ∧ _ := ⟨S9.out.1 0 _ rfl, S9.out.1 1 _ rfl, S9.out.1 2 _ rfl, S9.out.1 3 _ rfl, S9.out.1 4 _ rfl⟩
          cases P2 with
          | false =>
            go_wp2_with fail
            go_meet
            exact ⟨rfl, B9.out⟩
          | true =>
            obtain rfl := hM.out (by trivial) (by trivial)
            go_wp2_with fail
            refine (MT.out _).mono ?_
            rintro e w10 ⟨rfl, hb⟩
            have F10 := Lib.hid (F9.out.on hb)
            have G10 := Lib.hid (G9.out.on hb)
            have K10 := Lib.hid (K9.out.on hb)
            have S10 := Lib.hid (S9.out.on hb)
            have B10 := Lib.hid (cbelow_on B9.out hb)
            clear hb f_0 f_1 f_2 f_3 f_4 f_5 f_6 f_7 f_8 g_0 g_1 g_2 g_3 g_4 g_5 g_6 g_7 g_8 k_0 k_1 k_2 k_3 k_4 s_0 s_1 s_2 s_3 s_4 F9 G9 K9 S9 B9
            go_wp2_with fail
            go_meet
            exact ⟨rfl, B10.out⟩
      case rest =>
        obtain ⟨rfl, hbx⟩ := hcut
        have F5 := Lib.hid (F4.out.on hbx)
        have G5 := Lib.hid (G4.out.on hbx)
        have K5 := Lib.hid (K4.out.on hbx)
        have S5 := Lib.hid (S4.out.on hbx)
        have B5 := Lib.hid (cbelow_on B4.out hbx)
        have hP5 := Lib.hid (HP.out _ _ hP4.out hbx)
        clear hbx F4 G4 K4 S4 B4 hP4
        obtain ⟨W5, rfl⟩ : ∃ W5 : World, W5 = wc := ⟨_, rfl⟩
        clear R1 R2 R3 CM hc0 hM
        go_upto_region 6 with fail
        obtain ⟨f_0, f_1, f_2, f_3, f_4, f_5, f_6, f_7, f_8⟩ : _ ∧ _ ∧ _ ∧ _ ∧ _ ∧ _ ∧ _ ∧ _ ∧ _ := ⟨F5.out.1 0 _ rfl, F5.out.1 1 _ rfl, F5.out.1 2 _ rfl, F5.out.1 3 _ rfl, F5.out.1 4 _ rfl, F5.out.1 5 _ rfl, F5.out.1 6 _ rfl, F5.out.1 7 _ rfl, F5.out.1 8 _ rfl⟩
        obtain ⟨g_0, g_1, g_2, g_3, g_4, g_5, g_6, g_7, g_8⟩ : _ ∧ _ ∧ _ ∧ _ ∧ _ ∧ _ ∧ _ ∧ _ ∧ _ := ⟨G5.out.1 0 _ rfl, G5.out.1 1 _ rfl, G5.out.1 2 _ rfl, G5.out.1 3 _ rfl, G5.out.1 4 _ rfl, G5.out.1 5 _ rfl, G5.out.1 6 _ rfl, G5.out.1 7 _ rfl, G5.out.1 8 _ rfl⟩
        obtain ⟨k_0, k_1, k_2, k_3, k_4⟩ : _ ∧ _ ∧ _ ∧ _ ∧ _ := ⟨K5.out.1 0 _ rfl, K5.out.1 1 _ rfl, K5.out.1 2 _ rfl, K5.out.1 3 _ rfl, K5.out.1 4 _ rfl⟩
        obtain ⟨s_0, s_1, s_2, s_3, s_4⟩ : _ ∧ _ ∧ _ ∧ _ ∧ _ := ⟨S5.out.1 0 _ rfl, S5.out.1 1 _ rfl, S5.out.1 2 _ rfl, S5.out.1 3 _ rfl, S5.out.1 4 _ rfl⟩
        refine wp_region_noPanic ?_
        refine wp_region_along (S := fun w' => Below W5.heap.size W5 w' ∧ ∀ b o, (W5.cell? ⟨b, o, none⟩).isSome = true → w'.cell? ⟨b, o, none⟩ = W5.cell? ⟨b, o, none⟩) ([(0, true), (1, true), (3, true), (4, true), (2, false), (5, false), (6, true), (7, true), (8, true), (9, true), (10, false), (11, true), (12, true)]) (by kernel_rfl) (by as_aux_lemma => kernel_rfl) (by kernel_rfl) (by kernel_rfl) (by as_aux_lemma => kernel_rfl) (by as_aux_lemma => kernel_rfl) (fun _ _ _ _ _ h => h) (ckeep (Below.refl _ _).drew) (fun hH => ?_)
        simp only [stepsOf, pickOp]
        iterate 4 (first | (refine along_skip (by rfl) ?_; try simp only [Act.put, List.setIfInBounds_toArray, List.set_cons_zero, List.set_cons_succ]) | (refine along_pure ?_ (by rfl) (fun w hSw => ?_) ?_; rotate_left; ((try dsimp only at hSw); go_simp; try with_reducible rfl); try simp only [Act.put, List.setIfInBounds_toArray, List.set_cons_zero, List.set_cons_succ]))
        refine along_bar (fun K hK => ?_)
        go_simp
        refine (MT.out _).mono ?_
        rintro e w' ⟨rfl, hbx⟩
        try go_wp2_with fail
        refine hK.out _ _ (ckeep (cbelow_on hH.1 hbx)) (fun hH' => ?_)
        clear hK K hH
        have hH := hH'
        clear hH'
        clear hbx
        try simp only [Act.put, List.setIfInBounds_toArray, List.set_cons_zero, List.set_cons_succ]
        refine along_bar (fun K hK => ?_)
        go_simp
        refine (MS.out _).mono ?_
        rintro e w' ⟨rfl, hbx⟩
        try go_wp2_with fail
        refine hK.out _ _ (ckeep (cbelow_on hH.1 hbx)) (fun hH' => ?_)
        clear hK K hH
        have hH := hH'
        clear hH'
        clear hbx
        try simp only [Act.put, List.setIfInBounds_toArray, List.set_cons_zero, List.set_cons_succ]
        iterate 4 (first | (refine along_skip (by rfl) ?_; try simp only [Act.put, List.setIfInBounds_toArray, List.set_cons_zero, List.set_cons_succ]) | (refine along_pure ?_ (by rfl) (fun w hSw => ?_) ?_; rotate_left; ((try dsimp only at hSw); go_simp; try with_reducible rfl); try simp only [Act.put, List.setIfInBounds_toArray, List.set_cons_zero, List.set_cons_succ]))
        refine along_bar (fun K hK => ?_)
        go_simp
        refine (MF.out _).mono ?_
        rintro e w' ⟨rfl, hbx⟩
        try go_wp2_with fail
        refine hK.out _ _ (ckeep (cbelow_on hH.1 hbx)) (fun hH' => ?_)
        clear hK K hH
        have hH := hH'
        clear hH'
        clear hbx
        try simp only [Act.put, List.setIfInBounds_toArray, List.set_cons_zero, List.set_cons_succ]
        iterate 2 (first | (refine along_skip (by rfl) ?_; try simp only [Act.put, List.setIfInBounds_toArray, List.set_cons_zero, List.set_cons_succ]) | (refine along_pure ?_ (by rfl) (fun w hSw => ?_) ?_; rotate_left; ((try dsimp only at hSw); go_simp; try with_reducible rfl); try simp only [Act.put, List.setIfInBounds_toArray, List.set_cons_zero, List.set_cons_succ]))
        refine along_end (NoPanic.normal ?_)
        have F6 := Lib.hid (F5.out.on hH.1)
        have G6 := Lib.hid (G5.out.on hH.1)
        have K6 := Lib.hid (K5.out.on hH.1)
        have S6 := Lib.hid (S5.out.on hH.1)
        have B6 := Lib.hid (cbelow_on B5.out hH.1)
        have hP6 := Lib.hid (HP.out _ _ hP5.out hH.1)
        clear f_0 f_1 f_2 f_3 f_4 f_5 f_6 f_7 f_8 g_0 g_1 g_2 g_3 g_4 g_5 g_6 g_7 g_8 k_0 k_1 k_2 k_3 k_4 s_0 s_1 s_2 s_3 s_4 F5 G5 K5 S5 B5 hP5
        clear hH
        obtain ⟨W6, rfl⟩ : ∃ W6 : World, W6 = w' := ⟨_, rfl⟩
        obtain ⟨f_0, f_1, f_2, f_3, f_4, f_5, f_6, f_7, f_8⟩ : _ ∧ _ ∧ _ ∧ _ ∧ _ ∧ _ ∧ _ ∧ _ ∧ _ := ⟨F6.out.1 0 _ rfl, F6.out.1 1 _ rfl, F6.out.1 2 _ rfl, F6.out.1 3 _ rfl, F6.out.1 4 _ rfl, F6.out.1 5 _ rfl, F6.out.1 6 _ rfl, F6.out.1 7 _ rfl, F6.out.1 8 _ rfl⟩
        obtain ⟨g_0, g_1, g_2, g_3, g_4, g_5, g_6, g_7, g_8⟩ : _ ∧ _ ∧ _ ∧ _ ∧ _ ∧ _ ∧ _ ∧ _ ∧ _ := ⟨G6.out.1 0 _ rfl, G6.out.1 1 _ rfl, G6.out.1 2 _ rfl, G6.out.1 3 _ rfl, G6.out.1 4 _ rfl, G6.out.1 5 _ rfl, G6.out.1 6 _ rfl, G6.out.1 7 _ rfl, G6.out.1 8 _ rfl⟩
        obtain ⟨k_0, k_1, k_2, k_3, k_4⟩ : _ ∧ _ ∧ _ ∧ _ ∧ _ := ⟨K6.out.1 0 _ rfl, K6.out.1 1 _ rfl, K6.out.1 2 _ rfl, K6.out.1 3 _ rfl, K6.out.1 4 _ rfl⟩
        obtain ⟨s_0, s_1, s_2, s_3, s_4⟩ : _ ∧ _ ∧ _ ∧ _ ∧ _ := ⟨S6.out.1 0 _ rfl, S6.out.1 1 _ rfl, S6.out.1 2 _ rfl, S6.out.1 3 _ rfl, S6.out.1 4 _ rfl⟩
        go_wp2_with fail
        refine (MT.out _).mono ?_
        rintro e w7 ⟨rfl, hb⟩
        have F7 := Lib.hid (F6.out.on hb)
        have G7 := Lib.hid (G6.out.on hb)
        have K7 := Lib.hid (K6.out.on hb)
        have S7 := Lib.hid (S6.out.on hb)
        have B7 := Lib.hid (cbelow_on B6.out hb)
        have hP7 := Lib.hid (HP.out _ _ hP6.out hb)
        clear hb f_0 f_1 f_2 f_3 f_4 f_5 f_6 f_7 f_8 g_0 g_1 g_2 g_3 g_4 g_5 g_6 g_7 g_8 k_0 k_1 k_2 k_3 k_4 s_0 s_1 s_2 s_3 s_4 F6 G6 K6 S6 B6 hP6
        cases M with
        | false =>
          replace R4 := Lib.hid (R4.out (by trivial))
          go_upto_region 9 with fail
          obtain ⟨f_0, f_1, f_2, f_3, f_4, f_5, f_6, f_7, f_8⟩ : _ ∧ _ ∧ _ ∧ _ ∧ _ ∧ _ ∧ _ ∧ _ ∧ _ := ⟨F7.out.1 0 _ rfl, F7.out.1 1 _ rfl, F7.out.1 2 _ rfl, F7.out.1 3 _ rfl, F7.out.1 4 _ rfl, F7.out.1 5 _ rfl, F7.out.1 6 _ rfl, F7.out.1 7 _ rfl, F7.out.1 8 _ rfl⟩
          obtain ⟨g_0, g_1, g_2, g_3, g_4, g_5, g_6, g_7, g_8⟩ : _ ∧ _ ∧ _ ∧ _ ∧ _ ∧ _ ∧ _ ∧ _ ∧ _ := ⟨G7.out.1 0 _ rfl, G7.out.1 1 _ rfl, G7.out.1 2 _ rfl, G7.out.1 3 _ rfl, G7.out.1 4 _ rfl, G7.out.1 5 _ rfl, G7.out.1 6 _ rfl, G7.out.1 7 _ rfl, G7.out.1 8 _ rfl⟩
          obtain ⟨k_0, k_1, k_2, k_3, k_4⟩ : _ ∧ _ ∧ _ ∧ _ ∧ _ := ⟨K7.out.1 0 _ rfl, K7.out.1 1 _ rfl, K7.out.1 2 _ rfl, K7.out.1 3 _ rfl, K7.out.1 4 _ rfl⟩
          obtain ⟨s_0, s_1, s_2, s_3, s_4⟩ : _ ∧ _ ∧ _ ∧ _ ∧ _ := ⟨S7.out.1 0 _ rfl, S7.out.1 1 _ rfl, S7.out.1 2 _ rfl, S7.out.1 3 _ rfl, S7.out.1 4 _ rfl⟩
          refine wp_region_noPanic ?_
          refine wp_region_along (S := fun w' => Below w7.heap.size w7 w' ∧ ∀ b o, (w7.cell? ⟨b, o, none⟩).isSome = true → w'.cell? ⟨b, o, none⟩ = w7.cell? ⟨b, o, none⟩) ([(0, false), (1, true), (2, true), (3, true), (4, false), (5, true), (6, true), (7, true), (8, false), (9, false), (10, true), (11, true), (12, true), (13, true)]) (by kernel_rfl) (by as_aux_lemma => kernel_rfl) (by kernel_rfl) (by kernel_rfl) (by as_aux_lemma => kernel_rfl) (by as_aux_lemma => kernel_rfl) (fun _ _ _ _ _ h => h) (ckeep (Below.refl _ _).drew) (fun hH => ?_)
          simp only [stepsOf, pickOp]
          refine along_bar (fun K hK => ?_)
          go_simp
          refine (AW.out _ (HP.out _ _ hP7.out hH.1)).mono ?_
          rintro e w' ⟨rfl, hbx⟩
          try go_wp2_with fail
          refine hK.out _ _ (ckeep (cbelow_on hH.1 hbx)) (fun hH' => ?_)
          clear hK K hH
          have hH := hH'
          clear hH'
          clear hbx
          try simp only [Act.put, List.setIfInBounds_toArray, List.set_cons_zero, List.set_cons_succ]
          iterate 3 (first | (refine along_skip (by rfl) ?_; try simp only [Act.put, List.setIfInBounds_toArray, List.set_cons_zero, List.set_cons_succ]) | (refine along_pure ?_ (by rfl) (fun w hSw => ?_) ?_; rotate_left; ((try dsimp only at hSw); go_simp; try with_reducible rfl); try simp only [Act.put, List.setIfInBounds_toArray, List.set_cons_zero, List.set_cons_succ]))
          refine along_bar (fun K hK => ?_)
          go_simp
          refine (R4.out _).mono ?_
          rintro e w' ⟨rfl, hbx⟩
          try go_wp2_with fail
          refine hK.out _ _ (ckeep (cbelow_on hH.1 hbx)) (fun hH' => ?_)
          clear hK K hH
          have hH := hH'
          clear hH'
          clear hbx
          try simp only [Act.put, List.setIfInBounds_toArray, List.set_cons_zero, List.set_cons_succ]
          iterate 3 (first | (refine along_skip (by rfl) ?_; try simp only [Act.put, List.setIfInBounds_toArray, List.set_cons_zero, List.set_cons_succ]) | (refine along_pure ?_ (by rfl) (fun w hSw => ?_) ?_; rotate_left; ((try dsimp only at hSw); go_simp; try with_reducible rfl); try simp only [Act.put, List.setIfInBounds_toArray, List.set_cons_zero, List.set_cons_succ]))
          refine along_pass (by rfl) hH ?_
          try simp only [Act.put, List.setIfInBounds_toArray, List.set_cons_zero, List.set_cons_succ]
          refine along_pass (by rfl) hH ?_
          try simp only [Act.put, List.setIfInBounds_toArray, List.set_cons_zero, List.set_cons_succ]
          iterate 4 (first | (refine along_skip (by rfl) ?_; try simp only [Act.put, List.setIfInBounds_toArray, List.set_cons_zero, List.set_cons_succ]) | (refine along_pure ?_ (by rfl) (fun w hSw => ?_) ?_; rotate_left; ((try dsimp only at hSw); go_simp; try with_reducible rfl); try simp only [Act.put, List.setIfInBounds_toArray, List.set_cons_zero, List.set_cons_succ]))
          refine along_end (NoPanic.normal ?_)
          have F8 := Lib.hid (F7.out.on hH.1)
          have G8 := Lib.hid (G7.out.on hH.1)
          have K8 := Lib.hid (K7.out.on hH.1)
          have S8 := Lib.hid (S7.out.on hH.1)
          have B8 := Lib.hid (cbelow_on B7.out hH.1)
          have hP8 := Lib.hid (HP.out _ _ hP7.out hH.1)
          clear f_0 f_1 f_2 f_3 f_4 f_5 f_6 f_7 f_8 g_0 g_1 g_2 g_3 g_4 g_5 g_6 g_7 g_8 k_0 k_1 k_2 k_3 k_4 s_0 s_1 s_2 s_3 s_4 F7 G7 K7 S7 B7 hP7
          clear hH
          obtain ⟨W8, rfl⟩ : ∃ W8 : World, W8 = w' := ⟨_, rfl⟩
          go_wp2
          go_ret
          exact ⟨rfl, B8.out⟩
        | true =>
          obtain ⟨R5, R6⟩ := R56.out (by trivial)
          replace R5 := Lib.hid R5
          replace R6 := Lib.hid R6
          obtain ⟨f_0, f_1, f_2, f_3, f_4, f_5, f_6, f_7, f_8⟩ : _ ∧ _ ∧ _ ∧ _ ∧ _ ∧ _ ∧ _ ∧ _ ∧ _ := ⟨F7.out.1 0 _ rfl, F7.out.1 1 _ rfl, F7.out.1 2 _ rfl, F7.out.1 3 _ rfl, F7.out.1 4 _ rfl, F7.out.1 5 _ rfl, F7.out.1 6 _ rfl, F7.out.1 7 _ rfl, F7.out.1 8 _ rfl⟩
          obtain ⟨g_0, g_1, g_2, g_3, g_4, g_5, g_6, g_7, g_8⟩ : _ ∧ _ ∧ _ ∧ _ ∧ _ ∧ _ ∧ _ ∧ _ ∧ _ := ⟨G7.out.1 0 _ rfl, G7.out.1 1 _ rfl, G7.out.1 2 _ rfl, G7.out.1 3 _ rfl, G7.out.1 4 _ rfl, G7.out.1 5 _ rfl, G7.out.1 6 _ rfl, G7.out.1 7 _ rfl, G7.out.1 8 _ rfl⟩
          obtain ⟨k_0, k_1, k_2, k_3, k_4⟩ : _ ∧ _ ∧ _ ∧ _ ∧ _ := ⟨K7.out.1 0 _ rfl, K7.out.1 1 _ rfl, K7.out.1 2 _ rfl, K7.out.1 3 _ rfl, K7.out.1 4 _ rfl⟩
          obtain ⟨s_0, s_1, s_2, s_3, s_4⟩ : _ ∧ _ ∧ _ ∧ _ ∧ _ := ⟨S7.out.1 0 _ rfl, S7.out.1 1 _ rfl, S7.out.1 2 _ rfl, S7.out.1 3 _ rfl, S7.out.1 4 _ rfl⟩
          go_wp2_with fail
          refine (SG.out _).mono ?_
          rintro e w8 ⟨rfl, hb⟩
          have F8 := Lib.hid (F7.out.on hb)
          have G8 := Lib.hid (G7.out.on hb)
          have K8 := Lib.hid (K7.out.on hb)
          have S8 := Lib.hid (S7.out.on hb)
          have B8 := Lib.hid (cbelow_on B7.out hb)
          have hP8 := Lib.hid (HP.out _ _ hP7.out hb)
          clear hb f_0 f_1 f_2 f_3 f_4 f_5 f_6 f_7 f_8 g_0 g_1 g_2 g_3 g_4 g_5 g_6 g_7 g_8 k_0 k_1 k_2 k_3 k_4 s_0 s_1 s_2 s_3 s_4 F7 G7 K7 S7 B7 hP7
          go_upto_region 11 with fail
          refine at_code (S := fun W => Blk W w8.heap.size [.int .u32 t0, .int .u32 t1, .int .u8 t2, .int .u16 t3, .int .u16 t4] ∧ Below w8.heap.size w8 W) ⟨Blk.new _ _ _, cbelow_al (Below.refl _ _) _⟩ (fun W9 hW => ?_)
          obtain ⟨hN, hb⟩ := hW
          have F9 := Lib.hid (F8.out.on hb)
          have G9 := Lib.hid (G8.out.on hb)
          have K9 := Lib.hid (K8.out.on hb)
          have S9 := Lib.hid (S8.out.on hb)
          have B9 := Lib.hid (cbelow_on B8.out hb)
          have hP9 := Lib.hid (HP.out _ _ hP8.out hb)
          clear hb F8 G8 K8 S8 B8 hP8
          have T9 := Lib.hid hN
          clear hN
          obtain ⟨f_0, f_1, f_2, f_3, f_4, f_5, f_6, f_7, f_8⟩ : _ ∧ _ ∧ _ ∧ _ ∧ _ ∧ _ ∧ _ ∧ _ ∧ _ := ⟨F9.out.1 0 _ rfl, F9.out.1 1 _ rfl, F9.out.1 2 _ rfl, F9.out.1 3 _ rfl, F9.out.1 4 _ rfl, F9.out.1 5 _ rfl, F9.out.1 6 _ rfl, F9.out.1 7 _ rfl, F9.out.1 8 _ rfl⟩
          obtain ⟨g_0, g_1, g_2, g_3, g_4, g_5, g_6, g_7, g_8⟩ : _ ∧ _ ∧ _ ∧ _ ∧ _ ∧ _ ∧ _ ∧ _ ∧ _ := ⟨G9.out.1 0 _ rfl, G9.out.1 1 _ rfl, G9.out.1 2 _ rfl, G9.out.1 3 _ rfl, G9.out.1 4 _ rfl, G9.out.1 5 _ rfl, G9.out.1 6 _ rfl, G9.out.1 7 _ rfl, G9.out.1 8 _ rfl⟩
          obtain ⟨k_0, k_1, k_2, k_3, k_4⟩ : _ ∧ _ ∧ _ ∧ _ ∧ _ := ⟨K9.out.1 0 _ rfl, K9.out.1 1 _ rfl, K9.out.1 2 _ rfl, K9.out.1 3 _ rfl, K9.out.1 4 _ rfl⟩
          obtain ⟨s_0, s_1, s_2, s_3, s_4⟩ : _ ∧ _ ∧ _ ∧ _ ∧ _ := ⟨S9.out.1 0 _ rfl, S9.out.1 1 _ rfl, S9.out.1 2 _ rfl, S9.out.1 3 _ rfl, S9.out.1 4 _ rfl⟩
          obtain ⟨t_0, t_1, t_2, t_3, t_4⟩ : _ ∧ _ ∧ _ ∧ _ ∧ _ := ⟨T9.out.1 0 _ rfl, T9.out.1 1 _ rfl, T9.out.1 2 _ rfl, T9.out.1 3 _ rfl, T9.out.1 4 _ rfl⟩
          go_upto_region 12 with fail
          refine at_code (S := fun W => Blk W W9.heap.size [.int .u32 x0, .int .u32 x1, .int .u8 x2, .int .u16 x3, .int .u16 x4] ∧ Below W9.heap.size W9 W) ⟨Blk.new _ _ _, cbelow_al (Below.refl _ _) _⟩ (fun W10 hW => ?_)
          obtain ⟨hN, hb⟩ := hW
          have F10 := Lib.hid (F9.out.on hb)
          have G10 := Lib.hid (G9.out.on hb)
          have K10 := Lib.hid (K9.out.on hb)
          have S10 := Lib.hid (S9.out.on hb)
          have T10 := Lib.hid (T9.out.on hb)
          have B10 := Lib.hid (cbelow_on B9.out hb)
          have hP10 := Lib.hid (HP.out _ _ hP9.out hb)
          clear hb f_0 f_1 f_2 f_3 f_4 f_5 f_6 f_7 f_8 g_0 g_1 g_2 g_3 g_4 g_5 g_6 g_7 g_8 k_0 k_1 k_2 k_3 k_4 s_0 s_1 s_2 s_3 s_4 t_0 t_1 t_2 t_3 t_4 F9 G9 K9 S9 T9 B9 hP9
          have X10 := Lib.hid hN
          clear hN
          go_wp2_with fail
          refine (AW.out _ hP10.out).mono ?_
          rintro e w11 ⟨rfl, hb⟩
          have F11 := Lib.hid (F10.out.on hb)
          have G11 := Lib.hid (G10.out.on hb)
          have K11 := Lib.hid (K10.out.on hb)
          have S11 := Lib.hid (S10.out.on hb)
          have T11 := Lib.hid (T10.out.on hb)
          have X11 := Lib.hid (X10.out.on hb)
          have B11 := Lib.hid (cbelow_on B10.out hb)
          have hP11 := Lib.hid (HP.out _ _ hP10.out hb)
          clear hb F10 G10 K10 S10 T10 X10 B10 hP10
          obtain ⟨f_0, f_1, f_2, f_3, f_4, f_5, f_6, f_7, f_8⟩ : _ ∧ _ ∧ _ ∧ _ ∧ _ ∧ _ ∧ _ ∧ _ ∧ _ := ⟨F11.out.1 0 _ rfl, F11.out.1 1 _ rfl, F11.out.1 2 _ rfl, F11.out.1 3 _ rfl, F11.out.1 4 _ rfl, F11.out.1 5 _ rfl, F11.out.1 6 _ rfl, F11.out.1 7 _ rfl, F11.out.1 8 _ rfl⟩
          obtain ⟨g_0, g_1, g_2, g_3, g_4, g_5, g_6, g_7, g_8⟩ : _ ∧ _ ∧ _ ∧ _ ∧ _ ∧ _ ∧ _ ∧ _ ∧ _ := ⟨G11.out.1 0 _ rfl, G11.out.1 1 _ rfl, G11.out.1 2 _ rfl, G11.out.1 3 _ rfl, G11.out.1 4 _ rfl, G11.out.1 5 _ rfl, G11.out.1 6 _ rfl, G11.out.1 7 _ rfl, G11.out.1 8 _ rfl⟩
          obtain ⟨k_0, k_1, k_2, k_3, k_4⟩ : _ ∧ _ ∧ _ ∧ _ ∧ _ := ⟨K11.out.1 0 _ rfl, K11.out.1 1 _ rfl, K11.out.1 2 _ rfl, K11.out.1 3 _ rfl, K11.out.1 4 _ rfl⟩
          obtain ⟨s_0, s_1, s_2, s_3, s_4⟩ : _ ∧ _ ∧ _ ∧ _ ∧ _ := ⟨S11.out.1 0 _ rfl, S11.out.1 1 _ rfl, S11.out.1 2 _ rfl, S11.out.1 3 _ rfl, S11.out.1 4 _ rfl⟩
          obtain ⟨t_0, t_1, t_2, t_3, t_4⟩ : _ ∧ _ ∧ _ ∧ _ ∧ _ := ⟨T11.out.1 0 _ rfl, T11.out.1 1 _ rfl, T11.out.1 2 _ rfl, T11.out.1 3 _ rfl, T11.out.1 4 _ rfl⟩
          obtain ⟨x_0, x_1, x_2, x_3, x_4⟩ : _ ∧ _ ∧ _ ∧ _ ∧ _ := ⟨X11.out.1 0 _ rfl, X11.out.1 1 _ rfl, X11.out.1 2 _ rfl, X11.out.1 3 _ rfl, X11.out.1 4 _ rfl⟩
          go_wp2_with fail
          refine (R5.out _).mono ?_
          rintro e w12 ⟨rfl, hb⟩
          have F12 := Lib.hid (F11.out.on hb)
          have G12 := Lib.hid (G11.out.on hb)
          have K12 := Lib.hid (K11.out.on hb)
          have S12 := Lib.hid (S11.out.on hb)
          have T12 := Lib.hid (T11.out.on hb)
          have X12 := Lib.hid (X11.out.on hb)
          have B12 := Lib.hid (cbelow_on B11.out hb)
          have hP12 := Lib.hid (HP.out _ _ hP11.out hb)
          clear hb f_0 f_1 f_2 f_3 f_4 f_5 f_6 f_7 f_8 g_0 g_1 g_2 g_3 g_4 g_5 g_6 g_7 g_8 k_0 k_1 k_2 k_3 k_4 s_0 s_1 s_2 s_3 s_4 t_0 t_1 t_2 t_3 t_4 x_0 x_1 x_2 x_3 x_4 F11 G11 K11 S11 T11 X11 B11 hP11
          obtain ⟨f_0, f_1, f_2, f_3, f_4, f_5, f_6, f_7, f_8⟩ : _ ∧ _ ∧ _ ∧ _ ∧ _ ∧ _ ∧ _ ∧ _ ∧ _ := ⟨F12.out.1 0 _ rfl, F12.out.1 1 _ rfl, F12.out.1 2 _ rfl, F12.out.1 3 _ rfl, F12.out.1 4 _ rfl, F12.out.1 5 _ rfl, F12.out.1 6 _ rfl, F12.out.1 7 _ rfl, F12.out.1 8 _ rfl⟩
          obtain ⟨g_0, g_1, g_2, g_3, g_4, g_5, g_6, g_7, g_8⟩ : _ ∧ _ ∧ _ ∧ _ ∧ _ ∧ _ ∧ _ ∧ _ ∧ _ := ⟨G12.out.1 0 _ rfl, G12.out.1 1 _ rfl, G12.out.1 2 _ rfl, G12.out.1 3 _ rfl, G12.out.1 4 _ rfl, G12.out.1 5 _ rfl, G12.out.1 6 _ rfl, G12.out.1 7 _ rfl, G12.out.1 8 _ rfl⟩
          obtain ⟨k_0, k_1, k_2, k_3, k_4⟩ : _ ∧ _ ∧ _ ∧ _ ∧ _ := ⟨K12.out.1 0 _ rfl, K12.out.1 1 _ rfl, K12.out.1 2 _ rfl, K12.out.1 3 _ rfl, K12.out.1 4 _ rfl⟩
          obtain ⟨s_0, s_1, s_2, s_3, s_4⟩ : _ ∧ _ ∧ _ ∧ _ ∧ _ := ⟨S12.out.1 0 _ rfl, S12.out.1 1 _ rfl, S12.out.1 2 _ rfl, S12.out.1 3 _ rfl, S12.out.1 4 _ rfl⟩
          obtain ⟨t_0, t_1, t_2, t_3, t_4⟩ : _ ∧ _ ∧ _ ∧ _ ∧ _ := ⟨T12.out.1 0 _ rfl, T12.out.1 1 _ rfl, T12.out.1 2 _ rfl, T12.out.1 3 _ rfl, T12.out.1 4 _ rfl⟩
          obtain ⟨x_0, x_1, x_2, x_3, x_4⟩ : _ ∧ _ ∧ _ ∧ _ ∧ _ := ⟨X12.out.1 0 _ rfl, X12.out.1 1 _ rfl, X12.out.1 2 _ rfl, X12.out.1 3 _ rfl, X12.out.1 4 _ rfl⟩
          go_wp2_with fail
          refine (R6.out _).mono ?_
          rintro e w13 ⟨rfl, hb⟩
          have F13 := Lib.hid (F12.out.on hb)
          have G13 := Lib.hid (G12.out.on hb)
          have K13 := Lib.hid (K12.out.on hb)
          have S13 := Lib.hid (S12.out.on hb)
          have T13 := Lib.hid (T12.out.on hb)
          have X13 := Lib.hid (X12.out.on hb)
          have B13 := Lib.hid (cbelow_on B12.out hb)
          have hP13 := Lib.hid (HP.out _ _ hP12.out hb)
          clear hb f_0 f_1 f_2 f_3 f_4 f_5 f_6 f_7 f_8 g_0 g_1 g_2 g_3 g_4 g_5 g_6 g_7 g_8 k_0 k_1 k_2 k_3 k_4 s_0 s_1 s_2 s_3 s_4 t_0 t_1 t_2 t_3 t_4 x_0 x_1 x_2 x_3 x_4 F12 G12 K12 S12 T12 X12 B12 hP12
          go_wp2
          go_ret
          exact ⟨rfl, B13.out⟩
    · have e2' : (E2 != 0) = true := by simp; exact e2
      go_wp2_with fail
      refine (AW.out _ hP2.out).mono ?_
      rintro e w3 ⟨rfl, hb⟩
      have F3 := Lib.hid (F2.out.on hb)
      have G3 := Lib.hid (G2.out.on hb)
      have K3 := Lib.hid (K2.out.on hb)
      have B3 := Lib.hid (cbelow_on B2.out hb)
      have hP3 := Lib.hid (HP.out _ _ hP2.out hb)
      clear hb f_0 f_1 f_2 f_3 f_4 f_5 f_6 f_7 f_8 g_0 g_1 g_2 g_3 g_4 g_5 g_6 g_7 g_8 k_0 k_1 k_2 k_3 k_4 F2 G2 K2 B2 hP2
      go_wp2
      go_ret
      exact ⟨rfl, B3.out⟩
  · have e1' : (E1 != 0) = true := by simp; exact e1
    go_wp2_with fail
    refine (AW.out _ hP1.out).mono ?_
    rintro e w2 ⟨rfl, hb⟩
    have F2 := Lib.hid (F1.out.on hb)
    have G2 := Lib.hid (G1.out.on hb)
    have K2 := Lib.hid (K1.out.on hb)
    have B2 := Lib.hid (cbelow_on B1.out hb)
    have hP2 := Lib.hid (HP.out _ _ hP1.out hb)
    clear hb f_0 f_1 f_2 f_3 f_4 f_5 f_6 f_7 f_8 g_0 g_1 g_2 g_3 g_4 g_5 g_6 g_7 g_8 k_0 k_1 k_2 k_3 k_4 F1 G1 K1 B1 hP1
    go_wp2
    go_ret
    exact ⟨rfl, B2.out⟩
end Go.Proofs.YtlmeagnegakifaaDoor
