/- The least header of a filter; whether two filters meet. -/
import Derived.Test.YtlmeagnegakifaaDoorF4
namespace Go.Proofs.YtlmeagnegakifaaDoor
open Go.RowKit
set_option linter.unusedVariables false

/-- The least protocol that passes. -/
def pq (p : Int) : Int := if p = -1 then 0 else p
set_option maxRecDepth 100000 in
set_option maxHeartbeats 1000000 in
theorem fsome_any (a n b m p l h u v : Int) (hp : p = -1 ∨ 0 ≤ p ∧ p ≤ 255) (w : World) :
    Calls Tryd.prog 38 #[fv a n b m p l h u v] w fun e w' => e = .returned (hv a b (pq p) l u) ∧ Below w.heap.size w w' := by
  unfold fv hv
  by_cases c : p = -1
  · subst c
    go_enter Tryd.func38, Tryd.ntmps38
    go_wp2
    refine bodyPost_ret (v := .agg #[.int .u32 a, .int .u32 b, .int .u8 0, .int .u16 l, .int .u16 u]) (by simp [results, Tryd.results38, go_sem]) rfl ⟨by simp [pq], ?_⟩
    repeat (first | exact Below.refl _ _ | refine cbelow_al ?_ _ | (refine Below.setCell ?_ (by first | exact Nat.le_refl _ | (simp; done) | (simp; omega)) _))
  · have c' : (p != -1) = true := by simp; exact c
    have cq : IntKind.u8.wrap p = p := by rw [IntKind.wrap_u8]; omega
    go_enter Tryd.func38, Tryd.ntmps38
    go_wp2
    refine bodyPost_ret (v := .agg #[.int .u32 a, .int .u32 b, .int .u8 p, .int .u16 l, .int .u16 u]) (by simp [results, Tryd.results38, go_sem]) rfl ⟨by simp [pq, c], ?_⟩
    repeat (first | exact Below.refl _ _ | refine cbelow_al ?_ _ | (refine Below.setCell ?_ (by first | exact Nat.le_refl _ | (simp; done) | (simp; omega)) _))
/-- Whether two ranges meet. -/
def mrB (l h u v : Nat) : Bool := inR l h (max l u) && inR u v (max l u)
set_option maxRecDepth 100000 in
set_option maxHeartbeats 1000000 in
theorem mrange_core (l h u v x : Int) (I1 I2 : Bool) (hx : max l u = x) (C1 : Hid (∀ w, Calls Tryd.prog 60 #[rv l h, .int .u16 x] w fun e w' => e = .returned (.bool I1) ∧ Below w.heap.size w w')) (C2 : Hid (∀ w, Calls Tryd.prog 60 #[rv u v, .int .u16 x] w fun e w' => e = .returned (.bool I2) ∧ Below w.heap.size w w')) (w : World) : Calls Tryd.prog 65 #[rv l h, rv u v] w fun e w' => e = .returned (.bool (I1 && I2)) ∧ Below w.heap.size w w' := by
  unfold rv at *
  obtain ⟨W0, hW0⟩ : ∃ W0, (w.alloc (Obj.cells #[.int .u16 l, .int .u16 h] 47)).alloc (Obj.cells #[.int .u16 u, .int .u16 v] 47) = W0 := ⟨_, rfl⟩
  have F0 := Lib.hid (show Blk W0 w.heap.size [.int .u16 l, .int .u16 h] by rw [← hW0]; exact (Blk.new _ _ _).on (cbelow_al (Below.refl _ _) _))
  have G0 := Lib.hid (show Blk W0 (w.heap.size + 1) [.int .u16 u, .int .u16 v] by rw [← hW0]; have k := Blk.new (w.alloc (Obj.cells #[.int .u16 l, .int .u16 h] 47)) 47 [.int .u16 u, .int .u16 v]; rw [World.size_alloc] at k; exact k)
  have B0 := Lib.hid (show Below w.heap.size w W0 by rw [← hW0]; exact cbelow_al (cbelow_al (Below.refl _ _) _) _)
  go_enter Tryd.func65, Tryd.ntmps65
  go_upto_region 1 with fail
  clear hW0
  obtain ⟨f_0, f_1⟩ : _ ∧ _ := ⟨F0.out.1 0 _ rfl, F0.out.1 1 _ rfl⟩
  obtain ⟨g_0, g_1⟩ : _ ∧ _ := ⟨G0.out.1 0 _ rfl, G0.out.1 1 _ rfl⟩
  go_wp2_with fail
  refine (C1.out _).mono ?_
  rintro e w1 ⟨rfl, hb⟩
  have F1 := Lib.hid (F0.out.on hb)
  have G1 := Lib.hid (G0.out.on hb)
  have B1 := Lib.hid (cbelow_on B0.out hb)
  clear hb f_0 f_1 g_0 g_1 F0 G0 B0
  obtain ⟨f_0, f_1⟩ : _ ∧ _ := ⟨F1.out.1 0 _ rfl, F1.out.1 1 _ rfl⟩
  obtain ⟨g_0, g_1⟩ : _ ∧ _ := ⟨G1.out.1 0 _ rfl, G1.out.1 1 _ rfl⟩
  cases I1 with
  | false =>
    go_wp2
    go_ret
    exact ⟨rfl, B1.out⟩
  | true =>
    go_wp2_with fail
    refine (C2.out _).mono ?_
    rintro e w2 ⟨rfl, hb⟩
    have F2 := Lib.hid (F1.out.on hb)
    have G2 := Lib.hid (G1.out.on hb)
    have B2 := Lib.hid (cbelow_on B1.out hb)
    clear hb f_0 f_1 g_0 g_1 F1 G1 B1
    cases I2 with
    | false =>
      go_wp2
      go_ret
      exact ⟨rfl, B2.out⟩
    | true =>
      go_wp2
      go_ret
      exact ⟨rfl, B2.out⟩
theorem mrange_any (l h u v : Nat) (w : World) : Calls Tryd.prog 65 #[rv l h, rv u v] w fun e w' => e = .returned (.bool (mrB l h u v)) ∧ Below w.heap.size w w' :=
  mrange_core l h u v (max l u : Nat) _ _ (by omega) (fun w => inb_any l h (max l u) w) (fun w => inb_any u v (max l u) w) w
/-- Whether two protocols have one in common. -/
def prM (p q : Int) : Bool := decide (p = -1) || decide (q = -1) || decide (p = q)
set_option maxRecDepth 100000 in
set_option maxHeartbeats 4000000 in
theorem fmeet_core (a n b m p l h u v a' n' b' m' p' l' h' u' v' : Int) (M1 M2 R1 R2 : Bool) (C1 : Hid (∀ w, Calls Tryd.prog 64 #[pv a n, pv a' n'] w fun e w' => e = .returned (.bool M1) ∧ Below w.heap.size w w')) (C2 : Hid (∀ w, Calls Tryd.prog 64 #[pv b m, pv b' m'] w fun e w' => e = .returned (.bool M2) ∧ Below w.heap.size w w')) (C3 : Hid (∀ w, Calls Tryd.prog 65 #[rv l h, rv l' h'] w fun e w' => e = .returned (.bool R1) ∧ Below w.heap.size w w')) (C4 : Hid (∀ w, Calls Tryd.prog 65 #[rv u v, rv u' v'] w fun e w' => e = .returned (.bool R2) ∧ Below w.heap.size w w'))
    (E : Bool) (hE : Hid ((M1 && M2 && prM p p' && R1 && R2) = E)) (w : World) : Calls Tryd.prog 40 #[fv a n b m p l h u v, fv a' n' b' m' p' l' h' u' v'] w fun e w' => e = .returned (.bool E) ∧ Below w.heap.size w w' := by
  unfold pv at C1 C2
  unfold rv at C3 C4
  obtain ⟨W0, hW0⟩ : ∃ W0, (w.alloc (Obj.cells (fc a n b m p l h u v).toArray 62)).alloc (Obj.cells (fc a' n' b' m' p' l' h' u' v').toArray 62) = W0 := ⟨_, rfl⟩
  have F0 := Lib.hid (show Blk W0 w.heap.size (fc a n b m p l h u v) by rw [← hW0]; exact (Blk.new _ _ _).on (cbelow_al (Below.refl _ _) _))
  have G0 := Lib.hid (show Blk W0 (w.heap.size + 1) (fc a' n' b' m' p' l' h' u' v') by rw [← hW0]; have k := Blk.new (w.alloc (Obj.cells (fc a n b m p l h u v).toArray 62)) 62 (fc a' n' b' m' p' l' h' u' v'); rw [World.size_alloc] at k; exact k)
  have B0 := Lib.hid (show Below w.heap.size w W0 by rw [← hW0]; exact cbelow_al (cbelow_al (Below.refl _ _) _) _)
  unfold fc at *
  unfold fv
  go_enter Tryd.func40, Tryd.ntmps40
  go_upto_region 1 with fail
  clear hW0
  obtain ⟨f_0, f_1, f_2, f_3, f_4, f_5, f_6, f_7, f_8⟩ : _ ∧ _ ∧ _ ∧ _ ∧ _ ∧ _ ∧ _ ∧ _ ∧ _ := ⟨F0.out.1 0 _ rfl, F0.out.1 1 _ rfl, F0.out.1 2 _ rfl, F0.out.1 3 _ rfl, F0.out.1 4 _ rfl, F0.out.1 5 _ rfl, F0.out.1 6 _ rfl, F0.out.1 7 _ rfl, F0.out.1 8 _ rfl⟩
  obtain ⟨g_0, g_1, g_2, g_3, g_4, g_5, g_6, g_7, g_8⟩ : _ ∧ _ ∧ _ ∧ _ ∧ _ ∧ _ ∧ _ ∧ _ ∧ _ := ⟨G0.out.1 0 _ rfl, G0.out.1 1 _ rfl, G0.out.1 2 _ rfl, G0.out.1 3 _ rfl, G0.out.1 4 _ rfl, G0.out.1 5 _ rfl, G0.out.1 6 _ rfl, G0.out.1 7 _ rfl, G0.out.1 8 _ rfl⟩
  go_wp2_with fail
  refine (C1.out _).mono ?_
  rintro e w1 ⟨rfl, hb⟩
  have F1 := Lib.hid (F0.out.on hb)
  have G1 := Lib.hid (G0.out.on hb)
  have B1 := Lib.hid (cbelow_on B0.out hb)
  clear hb f_0 f_1 f_2 f_3 f_4 f_5 f_6 f_7 f_8 g_0 g_1 g_2 g_3 g_4 g_5 g_6 g_7 g_8 F0 G0 B0
  obtain ⟨f_0, f_1, f_2, f_3, f_4, f_5, f_6, f_7, f_8⟩ : _ ∧ _ ∧ _ ∧ _ ∧ _ ∧ _ ∧ _ ∧ _ ∧ _ := ⟨F1.out.1 0 _ rfl, F1.out.1 1 _ rfl, F1.out.1 2 _ rfl, F1.out.1 3 _ rfl, F1.out.1 4 _ rfl, F1.out.1 5 _ rfl, F1.out.1 6 _ rfl, F1.out.1 7 _ rfl, F1.out.1 8 _ rfl⟩
  obtain ⟨g_0, g_1, g_2, g_3, g_4, g_5, g_6, g_7, g_8⟩ : _ ∧ _ ∧ _ ∧ _ ∧ _ ∧ _ ∧ _ ∧ _ ∧ _ := ⟨G1.out.1 0 _ rfl, G1.out.1 1 _ rfl, G1.out.1 2 _ rfl, G1.out.1 3 _ rfl, G1.out.1 4 _ rfl, G1.out.1 5 _ rfl, G1.out.1 6 _ rfl, G1.out.1 7 _ rfl, G1.out.1 8 _ rfl⟩
  cases M1 with
  | false =>
    go_wp2
    go_ret
    exact ⟨cret_bool (by rw [← hE.out]; simp [prM]), B1.out⟩
  | true =>
    go_wp2_with fail
    refine (C2.out _).mono ?_
    rintro e w2 ⟨rfl, hb⟩
    have F2 := Lib.hid (F1.out.on hb)
    have G2 := Lib.hid (G1.out.on hb)
    have B2 := Lib.hid (cbelow_on B1.out hb)
    clear hb f_0 f_1 f_2 f_3 f_4 f_5 f_6 f_7 f_8 g_0 g_1 g_2 g_3 g_4 g_5 g_6 g_7 g_8 F1 G1 B1
    obtain ⟨f_0, f_1, f_2, f_3, f_4, f_5, f_6, f_7, f_8⟩ : _ ∧ _ ∧ _ ∧ _ ∧ _ ∧ _ ∧ _ ∧ _ ∧ _ := ⟨F2.out.1 0 _ rfl, F2.out.1 1 _ rfl, F2.out.1 2 _ rfl, F2.out.1 3 _ rfl, F2.out.1 4 _ rfl, F2.out.1 5 _ rfl, F2.out.1 6 _ rfl, F2.out.1 7 _ rfl, F2.out.1 8 _ rfl⟩
    obtain ⟨g_0, g_1, g_2, g_3, g_4, g_5, g_6, g_7, g_8⟩ : _ ∧ _ ∧ _ ∧ _ ∧ _ ∧ _ ∧ _ ∧ _ ∧ _ := ⟨G2.out.1 0 _ rfl, G2.out.1 1 _ rfl, G2.out.1 2 _ rfl, G2.out.1 3 _ rfl, G2.out.1 4 _ rfl, G2.out.1 5 _ rfl, G2.out.1 6 _ rfl, G2.out.1 7 _ rfl, G2.out.1 8 _ rfl⟩
    cases M2 with
    | false =>
      go_wp2
      go_ret
      exact ⟨cret_bool (by rw [← hE.out]; simp [prM]), B2.out⟩
    | true =>
      by_cases p1 : p = -1
      · subst p1
        go_wp2_with fail
        refine (C3.out _).mono ?_
        rintro e w3 ⟨rfl, hb⟩
        have F3 := Lib.hid (F2.out.on hb)
        have G3 := Lib.hid (G2.out.on hb)
        have B3 := Lib.hid (cbelow_on B2.out hb)
        clear hb f_0 f_1 f_2 f_3 f_4 f_5 f_6 f_7 f_8 g_0 g_1 g_2 g_3 g_4 g_5 g_6 g_7 g_8 F2 G2 B2
        obtain ⟨f_0, f_1, f_2, f_3, f_4, f_5, f_6, f_7, f_8⟩ : _ ∧ _ ∧ _ ∧ _ ∧ _ ∧ _ ∧ _ ∧ _ ∧ _ := ⟨F3.out.1 0 _ rfl, F3.out.1 1 _ rfl, F3.out.1 2 _ rfl, F3.out.1 3 _ rfl, F3.out.1 4 _ rfl, F3.out.1 5 _ rfl, F3.out.1 6 _ rfl, F3.out.1 7 _ rfl, F3.out.1 8 _ rfl⟩
        obtain ⟨g_0, g_1, g_2, g_3, g_4, g_5, g_6, g_7, g_8⟩ : _ ∧ _ ∧ _ ∧ _ ∧ _ ∧ _ ∧ _ ∧ _ ∧ _ := ⟨G3.out.1 0 _ rfl, G3.out.1 1 _ rfl, G3.out.1 2 _ rfl, G3.out.1 3 _ rfl, G3.out.1 4 _ rfl, G3.out.1 5 _ rfl, G3.out.1 6 _ rfl, G3.out.1 7 _ rfl, G3.out.1 8 _ rfl⟩
        cases R1 with
        | false =>
          go_wp2
          go_ret
          exact ⟨cret_bool (by rw [← hE.out]; simp [prM]), B3.out⟩
        | true =>
          go_wp2_with fail
          refine (C4.out _).mono ?_
          rintro e w4 ⟨rfl, hb⟩
          have F4 := Lib.hid (F3.out.on hb)
          have G4 := Lib.hid (G3.out.on hb)
          have B4 := Lib.hid (cbelow_on B3.out hb)
          clear hb f_0 f_1 f_2 f_3 f_4 f_5 f_6 f_7 f_8 g_0 g_1 g_2 g_3 g_4 g_5 g_6 g_7 g_8 F3 G3 B3
          cases R2 with
          | false =>
            go_wp2
            go_ret
            exact ⟨cret_bool (by rw [← hE.out]; simp [prM]), B4.out⟩
          | true =>
            go_wp2
            go_ret
            exact ⟨cret_bool (by rw [← hE.out]; simp [prM]), B4.out⟩
      · have p1' : (p == -1) = false := by simp; exact p1
        by_cases p2 : p' = -1
        · subst p2
          go_wp2_with fail
          refine (C3.out _).mono ?_
          rintro e w3 ⟨rfl, hb⟩
          have F3 := Lib.hid (F2.out.on hb)
          have G3 := Lib.hid (G2.out.on hb)
          have B3 := Lib.hid (cbelow_on B2.out hb)
          clear hb f_0 f_1 f_2 f_3 f_4 f_5 f_6 f_7 f_8 g_0 g_1 g_2 g_3 g_4 g_5 g_6 g_7 g_8 F2 G2 B2
          obtain ⟨f_0, f_1, f_2, f_3, f_4, f_5, f_6, f_7, f_8⟩ : _ ∧ _ ∧ _ ∧ _ ∧ _ ∧ _ ∧ _ ∧ _ ∧ _ := ⟨F3.out.1 0 _ rfl, F3.out.1 1 _ rfl, F3.out.1 2 _ rfl, F3.out.1 3 _ rfl, F3.out.1 4 _ rfl, F3.out.1 5 _ rfl, F3.out.1 6 _ rfl, F3.out.1 7 _ rfl, F3.out.1 8 _ rfl⟩
          obtain ⟨g_0, g_1, g_2, g_3, g_4, g_5, g_6, g_7, g_8⟩ : _ ∧ _ ∧ _ ∧ _ ∧ _ ∧ _ ∧ _ ∧ _ ∧ _ := ⟨G3.out.1 0 _ rfl, G3.out.1 1 _ rfl, G3.out.1 2 _ rfl, G3.out.1 3 _ rfl, G3.out.1 4 _ rfl, G3.out.1 5 _ rfl, G3.out.1 6 _ rfl, G3.out.1 7 _ rfl, G3.out.1 8 _ rfl⟩
          cases R1 with
          | false =>
            go_wp2
            go_ret
            exact ⟨cret_bool (by rw [← hE.out]; simp [prM]), B3.out⟩
          | true =>
            go_wp2_with fail
            refine (C4.out _).mono ?_
            rintro e w4 ⟨rfl, hb⟩
            have F4 := Lib.hid (F3.out.on hb)
            have G4 := Lib.hid (G3.out.on hb)
            have B4 := Lib.hid (cbelow_on B3.out hb)
            clear hb f_0 f_1 f_2 f_3 f_4 f_5 f_6 f_7 f_8 g_0 g_1 g_2 g_3 g_4 g_5 g_6 g_7 g_8 F3 G3 B3
            cases R2 with
            | false =>
              go_wp2
              go_ret
              exact ⟨cret_bool (by rw [← hE.out]; simp [prM]), B4.out⟩
            | true =>
              go_wp2
              go_ret
              exact ⟨cret_bool (by rw [← hE.out]; simp [prM]), B4.out⟩
        · have p2' : (p' == -1) = false := by simp; exact p2
          by_cases p3 : p = p'
          · subst p3
            go_wp2_with fail
            refine (C3.out _).mono ?_
            rintro e w3 ⟨rfl, hb⟩
            have F3 := Lib.hid (F2.out.on hb)
            have G3 := Lib.hid (G2.out.on hb)
            have B3 := Lib.hid (cbelow_on B2.out hb)
            clear hb f_0 f_1 f_2 f_3 f_4 f_5 f_6 f_7 f_8 g_0 g_1 g_2 g_3 g_4 g_5 g_6 g_7 g_8 F2 G2 B2
            obtain ⟨f_0, f_1, f_2, f_3, f_4, f_5, f_6, f_7, f_8⟩ : _ ∧ _ ∧ _ ∧ _ ∧ _ ∧ _ ∧ _ ∧ _ ∧ _ := ⟨F3.out.1 0 _ rfl, F3.out.1 1 _ rfl, F3.out.1 2 _ rfl, F3.out.1 3 _ rfl, F3.out.1 4 _ rfl, F3.out.1 5 _ rfl, F3.out.1 6 _ rfl, F3.out.1 7 _ rfl, F3.out.1 8 _ rfl⟩
            obtain ⟨g_0, g_1, g_2, g_3, g_4, g_5, g_6, g_7, g_8⟩ : _ ∧ _ ∧ _ ∧ _ ∧ _ ∧ _ ∧ _ ∧ _ ∧ _ := ⟨G3.out.1 0 _ rfl, G3.out.1 1 _ rfl, G3.out.1 2 _ rfl, G3.out.1 3 _ rfl, G3.out.1 4 _ rfl, G3.out.1 5 _ rfl, G3.out.1 6 _ rfl, G3.out.1 7 _ rfl, G3.out.1 8 _ rfl⟩
            cases R1 with
            | false =>
              go_wp2
              go_ret
              exact ⟨cret_bool (by rw [← hE.out]; simp [prM]), B3.out⟩
            | true =>
              go_wp2_with fail
              refine (C4.out _).mono ?_
              rintro e w4 ⟨rfl, hb⟩
              have F4 := Lib.hid (F3.out.on hb)
              have G4 := Lib.hid (G3.out.on hb)
              have B4 := Lib.hid (cbelow_on B3.out hb)
              clear hb f_0 f_1 f_2 f_3 f_4 f_5 f_6 f_7 f_8 g_0 g_1 g_2 g_3 g_4 g_5 g_6 g_7 g_8 F3 G3 B3
              cases R2 with
              | false =>
                go_wp2
                go_ret
                exact ⟨cret_bool (by rw [← hE.out]; simp [prM]), B4.out⟩
              | true =>
                go_wp2
                go_ret
                exact ⟨cret_bool (by rw [← hE.out]; simp [prM]), B4.out⟩
          · have p3' : (p == p') = false := by simp; exact p3
            go_wp2
            go_ret
            exact ⟨cret_bool (by rw [← hE.out]; simp [prM, p1, p2, p3]), B2.out⟩
/-- Whether two filters meet. -/
def meetF (a : Nat) (n : Int) (b : Nat) (m p : Int) (l h u v a' : Nat) (n' : Int) (b' : Nat) (m' p' : Int) (l' h' u' v' : Nat) : Bool := meetB a n a' n' && meetB b m b' m' && prM p p' && mrB l h l' h' && mrB u v u' v'
theorem fmeet_any (a : Nat) (n : Int) (b : Nat) (m p : Int) (l h u v a' : Nat) (n' : Int) (b' : Nat) (m' p' : Int) (l' h' u' v' : Nat) (ha : a < 4294967296) (hb : b < 4294967296) (ha' : a' < 4294967296) (hb' : b' < 4294967296) (w : World) :
    Calls Tryd.prog 40 #[fv a n b m p l h u v, fv a' n' b' m' p' l' h' u' v'] w fun e w' => e = .returned (.bool (meetF a n b m p l h u v a' n' b' m' p' l' h' u' v')) ∧ Below w.heap.size w w' :=
  fmeet_core a n b m p l h u v a' n' b' m' p' l' h' u' v' _ _ _ _ (fun w => meet_any a n a' n' ha ha' w) (fun w => meet_any b m b' m' hb hb' w) (fun w => mrange_any l h l' h' w) (fun w => mrange_any u v u' v' w) _ rfl w
end Go.Proofs.YtlmeagnegakifaaDoor
