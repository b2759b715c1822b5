/- What filters are checked and matched for; the program's and the document's. -/
import Derived.Test.YtoiopjdbmaffeaaBlk
import Derived.Test.YtoiopjdbmaffeaaC2
import Derived.Test.YtoiopjdbmaffeaaC4
import Derived.Test.YtoiopjdbmaffeaaH1
namespace Go.Proofs.Ytoiopjdbmaffeaa
open Go.RowKit
set_option linter.unusedVariables false

def fc (a n b m p l h u v : Int) : List Value := [.int .u32 a, .int .i64 n, .int .u32 b, .int .i64 m, .int .i64 p, .int .u16 l, .int .u16 h, .int .u16 u, .int .u16 v]
def fv (a n b m p l h u v : Int) : Value := .agg #[.int .u32 a, .int .i64 n, .int .u32 b, .int .i64 m, .int .i64 p, .int .u16 l, .int .u16 h, .int .u16 u, .int .u16 v]
def hc (d s q x y : Int) : List Value := [.int .u32 d, .int .u32 s, .int .u8 q, .int .u16 x, .int .u16 y]
def rv (l h : Int) : Value := .agg #[.int .u16 l, .int .u16 h]
/-- What is wrong with a filter. -/
def chk (R1 R2 : Bool) (p : Int) (E1 E2 : Bool) : Int := if R1 = true ∧ R2 = true then (if p = -1 ∨ (0 ≤ p ∧ p ≤ 255) then (if E1 = true ∨ E2 = true then 14 else 0) else 5) else 13
/-- Whether a protocol passes. -/
def prB (p q : Int) : Bool := decide (p = -1) || decide (p = q)
set_option maxHeartbeats 400000 in
theorem fempty_any (l h : Int) (w : World) : Calls Try.prog 25 #[rv l h] w fun e w' => e = .returned (.bool (decide (h < l))) ∧ Below w.heap.size w w' := by
  unfold rv
  by_cases c : h < l
  · have c' : decide (h < l) = true := decide_eq_true c
    go_enter Try.func25, Try.ntmps25
    go_wp2
    go_ret
    exact ⟨by simp [c], cbelow_al (Below.refl _ _) _⟩
  · have c' : decide (h < l) = false := decide_eq_false c
    go_enter Try.func25, Try.ntmps25
    go_wp2
    go_ret
    exact ⟨by simp, cbelow_al (Below.refl _ _) _⟩
set_option maxRecDepth 100000 in
set_option maxHeartbeats 4000000 in
theorem fcheck_core (a n b m p l h u v : Int) (R1 R2 E1 E2 : Bool) (C1 : Hid (∀ w, Calls Try.prog 24 #[pv a n] w fun e w' => e = .returned (.bool R1) ∧ Below w.heap.size w w')) (C2 : Hid (∀ w, Calls Try.prog 24 #[pv b m] w fun e w' => e = .returned (.bool R2) ∧ Below w.heap.size w w')) (C3 : Hid (∀ w, Calls Try.prog 25 #[rv l h] w fun e w' => e = .returned (.bool E1) ∧ Below w.heap.size w w')) (C4 : Hid (∀ w, Calls Try.prog 25 #[rv u v] w fun e w' => e = .returned (.bool E2) ∧ Below w.heap.size w w'))
    (E : Int) (hE : Hid (chk R1 R2 p E1 E2 = E)) (w : World) : Calls Try.prog 21 #[fv a n b m p l h u v] w fun e w' => e = .returned (.int .i64 E) ∧ Below w.heap.size w w' := by
  unfold pv at C1 C2
  unfold rv at C3 C4
  obtain ⟨W0, hW0⟩ : ∃ W0, w.alloc (Obj.cells (fc a n b m p l h u v).toArray 41) = W0 := ⟨_, rfl⟩
  have F0 := Lib.hid (show Blk W0 w.heap.size (fc a n b m p l h u v) by rw [← hW0]; exact Blk.new _ _ _)
  have B0 := Lib.hid (show Below w.heap.size w W0 by rw [← hW0]; exact cbelow_al (Below.refl _ _) _)
  unfold fc at *
  unfold fv
  go_enter Try.func21, Try.ntmps21
  go_upto_region 1 with fail
  clear hW0
  obtain ⟨z0, z1, z2, z3, z4, z5, z6, z7, z8⟩ : _ ∧ _ ∧ _ ∧ _ ∧ _ ∧ _ ∧ _ ∧ _ ∧ _ := ⟨F0.out.1 0 _ rfl, F0.out.1 1 _ rfl, F0.out.1 2 _ rfl, F0.out.1 3 _ rfl, F0.out.1 4 _ rfl, F0.out.1 5 _ rfl, F0.out.1 6 _ rfl, F0.out.1 7 _ rfl, F0.out.1 8 _ rfl⟩
  go_wp2_with fail
  refine (C1.out _).mono ?_
  rintro e w1 ⟨rfl, hb⟩
  have F1 := Lib.hid (F0.out.on hb)
  have B1 := Lib.hid (cbelow_on B0.out hb)
  clear hb z0 z1 z2 z3 z4 z5 z6 z7 z8 F0 B0 C1
  obtain ⟨z0, z1, z2, z3, z4, z5, z6, z7, z8⟩ : _ ∧ _ ∧ _ ∧ _ ∧ _ ∧ _ ∧ _ ∧ _ ∧ _ := ⟨F1.out.1 0 _ rfl, F1.out.1 1 _ rfl, F1.out.1 2 _ rfl, F1.out.1 3 _ rfl, F1.out.1 4 _ rfl, F1.out.1 5 _ rfl, F1.out.1 6 _ rfl, F1.out.1 7 _ rfl, F1.out.1 8 _ rfl⟩
  cases R1 with
  | false =>
    go_wp2
    go_ret
    exact ⟨by rw [← hE.out]; simp [chk], B1.out⟩
  | true =>
    go_wp2_with fail
    refine (C2.out _).mono ?_
    rintro e w2 ⟨rfl, hb⟩
    have F2 := Lib.hid (F1.out.on hb)
    have B2 := Lib.hid (cbelow_on B1.out hb)
    clear hb z0 z1 z2 z3 z4 z5 z6 z7 z8 F1 B1 C2
    obtain ⟨z0, z1, z2, z3, z4, z5, z6, z7, z8⟩ : _ ∧ _ ∧ _ ∧ _ ∧ _ ∧ _ ∧ _ ∧ _ ∧ _ := ⟨F2.out.1 0 _ rfl, F2.out.1 1 _ rfl, F2.out.1 2 _ rfl, F2.out.1 3 _ rfl, F2.out.1 4 _ rfl, F2.out.1 5 _ rfl, F2.out.1 6 _ rfl, F2.out.1 7 _ rfl, F2.out.1 8 _ rfl⟩
    cases R2 with
    | false =>
      go_wp2
      go_ret
      exact ⟨by rw [← hE.out]; simp [chk], B2.out⟩
    | true =>
      by_cases p1 : p = -1
      · subst p1
        go_wp2_with fail
        refine (C3.out _).mono ?_
        rintro e w3 ⟨rfl, hb⟩
        have F3 := Lib.hid (F2.out.on hb)
        have B3 := Lib.hid (cbelow_on B2.out hb)
        clear hb z0 z1 z2 z3 z4 z5 z6 z7 z8 F2 B2 C3
        obtain ⟨z0, z1, z2, z3, z4, z5, z6, z7, z8⟩ : _ ∧ _ ∧ _ ∧ _ ∧ _ ∧ _ ∧ _ ∧ _ ∧ _ := ⟨F3.out.1 0 _ rfl, F3.out.1 1 _ rfl, F3.out.1 2 _ rfl, F3.out.1 3 _ rfl, F3.out.1 4 _ rfl, F3.out.1 5 _ rfl, F3.out.1 6 _ rfl, F3.out.1 7 _ rfl, F3.out.1 8 _ rfl⟩
        cases E1 with
        | true =>
          go_wp2
          go_ret
          exact ⟨by rw [← hE.out]; unfold chk; rw [if_pos ⟨rfl, rfl⟩, if_pos (by omega)]; simp, B3.out⟩
        | false =>
          go_wp2_with fail
          refine (C4.out _).mono ?_
          rintro e w4 ⟨rfl, hb⟩
          have F4 := Lib.hid (F3.out.on hb)
          have B4 := Lib.hid (cbelow_on B3.out hb)
          clear hb z0 z1 z2 z3 z4 z5 z6 z7 z8 F3 B3 C4
          obtain ⟨z0, z1, z2, z3, z4, z5, z6, z7, z8⟩ : _ ∧ _ ∧ _ ∧ _ ∧ _ ∧ _ ∧ _ ∧ _ ∧ _ := ⟨F4.out.1 0 _ rfl, F4.out.1 1 _ rfl, F4.out.1 2 _ rfl, F4.out.1 3 _ rfl, F4.out.1 4 _ rfl, F4.out.1 5 _ rfl, F4.out.1 6 _ rfl, F4.out.1 7 _ rfl, F4.out.1 8 _ rfl⟩
          cases E2 with
          | true =>
            go_wp2
            go_ret
            exact ⟨by rw [← hE.out]; unfold chk; rw [if_pos ⟨rfl, rfl⟩, if_pos (by omega)]; simp, B4.out⟩
          | false =>
            go_wp2
            go_ret
            exact ⟨by rw [← hE.out]; unfold chk; rw [if_pos ⟨rfl, rfl⟩, if_pos (by omega)]; simp, B4.out⟩
      · have p1' : (p != -1) = true := by simp; exact p1
        have p1'' : (p == -1) = false := by simp; exact p1
        by_cases p2 : p < 0
        · have p2' : decide (p < 0) = true := decide_eq_true p2
          have p2'' : decide (p < -1) = true := decide_eq_true (by omega)
          have p2n : p < -1 := by omega
          go_wp2
          go_ret
          exact ⟨by rw [← hE.out]; unfold chk; rw [if_pos ⟨rfl, rfl⟩, if_neg (by omega)]; rfl, B2.out⟩
        · have p2' : decide (p < 0) = false := decide_eq_false p2
          have p2'' : decide (p < -1) = false := decide_eq_false (by omega)
          have p2n : ¬ p < -1 := by omega
          by_cases p3 : 255 < p
          · have p3' : decide (255 < p) = true := decide_eq_true p3
            go_wp2
            go_ret
            exact ⟨by rw [← hE.out]; unfold chk; rw [if_pos ⟨rfl, rfl⟩, if_neg (by omega)]; rfl, B2.out⟩
          · have p3' : decide (255 < p) = false := decide_eq_false p3
            have p4 : 0 ≤ p := by omega
            have p5 : p ≤ 255 := by omega
            go_wp2_with fail
            refine (C3.out _).mono ?_
            rintro e w3 ⟨rfl, hb⟩
            have F3 := Lib.hid (F2.out.on hb)
            have B3 := Lib.hid (cbelow_on B2.out hb)
            clear hb z0 z1 z2 z3 z4 z5 z6 z7 z8 F2 B2 C3
            obtain ⟨z0, z1, z2, z3, z4, z5, z6, z7, z8⟩ : _ ∧ _ ∧ _ ∧ _ ∧ _ ∧ _ ∧ _ ∧ _ ∧ _ := ⟨F3.out.1 0 _ rfl, F3.out.1 1 _ rfl, F3.out.1 2 _ rfl, F3.out.1 3 _ rfl, F3.out.1 4 _ rfl, F3.out.1 5 _ rfl, F3.out.1 6 _ rfl, F3.out.1 7 _ rfl, F3.out.1 8 _ rfl⟩
            cases E1 with
            | true =>
              go_wp2
              go_ret
              exact ⟨by rw [← hE.out]; unfold chk; rw [if_pos ⟨rfl, rfl⟩, if_pos (by omega)]; simp, B3.out⟩
            | false =>
              go_wp2_with fail
              refine (C4.out _).mono ?_
              rintro e w4 ⟨rfl, hb⟩
              have F4 := Lib.hid (F3.out.on hb)
              have B4 := Lib.hid (cbelow_on B3.out hb)
              clear hb z0 z1 z2 z3 z4 z5 z6 z7 z8 F3 B3 C4
              obtain ⟨z0, z1, z2, z3, z4, z5, z6, z7, z8⟩ : _ ∧ _ ∧ _ ∧ _ ∧ _ ∧ _ ∧ _ ∧ _ ∧ _ := ⟨F4.out.1 0 _ rfl, F4.out.1 1 _ rfl, F4.out.1 2 _ rfl, F4.out.1 3 _ rfl, F4.out.1 4 _ rfl, F4.out.1 5 _ rfl, F4.out.1 6 _ rfl, F4.out.1 7 _ rfl, F4.out.1 8 _ rfl⟩
              cases E2 with
              | true =>
                go_wp2
                go_ret
                exact ⟨by rw [← hE.out]; unfold chk; rw [if_pos ⟨rfl, rfl⟩, if_pos (by omega)]; simp, B4.out⟩
              | false =>
                go_wp2
                go_ret
                exact ⟨by rw [← hE.out]; unfold chk; rw [if_pos ⟨rfl, rfl⟩, if_pos (by omega)]; simp, B4.out⟩
set_option maxRecDepth 100000 in
set_option maxHeartbeats 4000000 in
theorem rfcheck_core (a n b m p l h u v : Int) (R1 R2 : Bool) (C1 : Hid (∀ w, Calls Try.prog 16 #[pv a n] w fun e w' => e = .returned (.bool R1) ∧ Below w.heap.size w w')) (C2 : Hid (∀ w, Calls Try.prog 16 #[pv b m] w fun e w' => e = .returned (.bool R2) ∧ Below w.heap.size w w'))
    (E : Int) (hE : Hid (chk R1 R2 p (decide (h < l)) (decide (v < u)) = E)) (w : World) : Calls Try.prog 11 #[fv a n b m p l h u v] w fun e w' => e = .returned (.int .i64 E) ∧ Below w.heap.size w w' := by
  unfold pv at C1 C2
  obtain ⟨W0, hW0⟩ : ∃ W0, w.alloc (Obj.cells (fc a n b m p l h u v).toArray 41) = W0 := ⟨_, rfl⟩
  have F0 := Lib.hid (show Blk W0 w.heap.size (fc a n b m p l h u v) by rw [← hW0]; exact Blk.new _ _ _)
  have B0 := Lib.hid (show Below w.heap.size w W0 by rw [← hW0]; exact cbelow_al (Below.refl _ _) _)
  unfold fc at *
  unfold fv
  go_enter Try.func11, Try.ntmps11
  go_upto_region 1 with fail
  clear hW0
  obtain ⟨z0, z1, z2, z3, z4, z5, z6, z7, z8⟩ : _ ∧ _ ∧ _ ∧ _ ∧ _ ∧ _ ∧ _ ∧ _ ∧ _ := ⟨F0.out.1 0 _ rfl, F0.out.1 1 _ rfl, F0.out.1 2 _ rfl, F0.out.1 3 _ rfl, F0.out.1 4 _ rfl, F0.out.1 5 _ rfl, F0.out.1 6 _ rfl, F0.out.1 7 _ rfl, F0.out.1 8 _ rfl⟩
  go_wp2_with fail
  refine (C1.out _).mono ?_
  rintro e w1 ⟨rfl, hb⟩
  have F1 := Lib.hid (F0.out.on hb)
  have B1 := Lib.hid (cbelow_on B0.out hb)
  clear hb z0 z1 z2 z3 z4 z5 z6 z7 z8 F0 B0 C1
  obtain ⟨z0, z1, z2, z3, z4, z5, z6, z7, z8⟩ : _ ∧ _ ∧ _ ∧ _ ∧ _ ∧ _ ∧ _ ∧ _ ∧ _ := ⟨F1.out.1 0 _ rfl, F1.out.1 1 _ rfl, F1.out.1 2 _ rfl, F1.out.1 3 _ rfl, F1.out.1 4 _ rfl, F1.out.1 5 _ rfl, F1.out.1 6 _ rfl, F1.out.1 7 _ rfl, F1.out.1 8 _ rfl⟩
  cases R1 with
  | false =>
    go_wp2
    go_ret
    exact ⟨by rw [← hE.out]; simp [chk], B1.out⟩
  | true =>
    go_wp2_with fail
    refine (C2.out _).mono ?_
    rintro e w2 ⟨rfl, hb⟩
    have F2 := Lib.hid (F1.out.on hb)
    have B2 := Lib.hid (cbelow_on B1.out hb)
    clear hb z0 z1 z2 z3 z4 z5 z6 z7 z8 F1 B1 C2
    obtain ⟨z0, z1, z2, z3, z4, z5, z6, z7, z8⟩ : _ ∧ _ ∧ _ ∧ _ ∧ _ ∧ _ ∧ _ ∧ _ ∧ _ := ⟨F2.out.1 0 _ rfl, F2.out.1 1 _ rfl, F2.out.1 2 _ rfl, F2.out.1 3 _ rfl, F2.out.1 4 _ rfl, F2.out.1 5 _ rfl, F2.out.1 6 _ rfl, F2.out.1 7 _ rfl, F2.out.1 8 _ rfl⟩
    cases R2 with
    | false =>
      go_wp2
      go_ret
      exact ⟨by rw [← hE.out]; simp [chk], B2.out⟩
    | true =>
      by_cases p1 : p = -1
      · subst p1
        by_cases e1 : h < l
        · have e1' : decide (h < l) = true := decide_eq_true e1
          go_wp2
          go_ret
          exact ⟨by rw [← hE.out]; unfold chk; rw [if_pos ⟨rfl, rfl⟩, if_pos (by omega)]; simp [e1], B2.out⟩
        · have e1' : decide (h < l) = false := decide_eq_false e1
          by_cases e2 : v < u
          · have e2' : decide (v < u) = true := decide_eq_true e2
            go_wp2
            go_ret
            exact ⟨by rw [← hE.out]; unfold chk; rw [if_pos ⟨rfl, rfl⟩, if_pos (by omega)]; simp [e2], B2.out⟩
          · have e2' : decide (v < u) = false := decide_eq_false e2
            go_wp2
            go_ret
            exact ⟨by rw [← hE.out]; unfold chk; rw [if_pos ⟨rfl, rfl⟩, if_pos (by omega)]; simp [e1, e2], B2.out⟩
      · have p1' : (p != -1) = true := by simp; exact p1
        have p1'' : (p == -1) = false := by simp; exact p1
        by_cases p2 : p < 0
        · have p2' : decide (p < 0) = true := decide_eq_true p2
          have p2'' : decide (p < -1) = true := decide_eq_true (by omega)
          have p2n : p < -1 := by omega
          go_wp2
          go_ret
          exact ⟨by rw [← hE.out]; unfold chk; rw [if_pos ⟨rfl, rfl⟩, if_neg (by omega)]; rfl, B2.out⟩
        · have p2' : decide (p < 0) = false := decide_eq_false p2
          have p2'' : decide (p < -1) = false := decide_eq_false (by omega)
          have p2n : ¬ p < -1 := by omega
          by_cases p3 : 255 < p
          · have p3' : decide (255 < p) = true := decide_eq_true p3
            go_wp2
            go_ret
            exact ⟨by rw [← hE.out]; unfold chk; rw [if_pos ⟨rfl, rfl⟩, if_neg (by omega)]; rfl, B2.out⟩
          · have p3' : decide (255 < p) = false := decide_eq_false p3
            have p4 : 0 ≤ p := by omega
            have p5 : p ≤ 255 := by omega
            by_cases e1 : h < l
            · have e1' : decide (h < l) = true := decide_eq_true e1
              go_wp2
              go_ret
              exact ⟨by rw [← hE.out]; unfold chk; rw [if_pos ⟨rfl, rfl⟩, if_pos (by omega)]; simp [e1], B2.out⟩
            · have e1' : decide (h < l) = false := decide_eq_false e1
              by_cases e2 : v < u
              · have e2' : decide (v < u) = true := decide_eq_true e2
                go_wp2
                go_ret
                exact ⟨by rw [← hE.out]; unfold chk; rw [if_pos ⟨rfl, rfl⟩, if_pos (by omega)]; simp [e2], B2.out⟩
              · have e2' : decide (v < u) = false := decide_eq_false e2
                go_wp2
                go_ret
                exact ⟨by rw [← hE.out]; unfold chk; rw [if_pos ⟨rfl, rfl⟩, if_pos (by omega)]; simp [e1, e2], B2.out⟩
set_option maxRecDepth 100000 in
set_option maxHeartbeats 4000000 in
theorem fmatch_core (a n b m p l h u v d s q x y : Int) (hq : 0 ≤ q ∧ q < 256) (H1 H2 I1 I2 : Bool) (C1 : Hid (∀ w, Calls Try.prog 18 #[pv a n, .int .u32 d] w fun e w' => e = .returned (.bool H1) ∧ Below w.heap.size w w')) (C2 : Hid (∀ w, Calls Try.prog 18 #[pv b m, .int .u32 s] w fun e w' => e = .returned (.bool H2) ∧ Below w.heap.size w w')) (C3 : Hid (∀ w, Calls Try.prog 19 #[rv l h, .int .u16 x] w fun e w' => e = .returned (.bool I1) ∧ Below w.heap.size w w')) (C4 : Hid (∀ w, Calls Try.prog 19 #[rv u v, .int .u16 y] w fun e w' => e = .returned (.bool I2) ∧ Below w.heap.size w w'))
    (E : Bool) (hE : Hid ((H1 && H2 && prB p q && I1 && I2) = E)) (w : World) : Calls Try.prog 13 #[fv a n b m p l h u v, hv d s q x y] w fun e w' => e = .returned (.bool E) ∧ Below w.heap.size w w' := by
  unfold pv at C1 C2
  unfold rv at C3 C4
  have cq : IntKind.i64.wrap q = q := by rw [IntKind.wrap_i64]; omega
  obtain ⟨W0, hW0⟩ : ∃ W0, (w.alloc (Obj.cells (fc a n b m p l h u v).toArray 41)).alloc (Obj.cells (hc d s q x y).toArray 30) = W0 := ⟨_, rfl⟩
  have F0 := Lib.hid (show Blk W0 w.heap.size (fc a n b m p l h u v) by rw [← hW0]; exact (Blk.new _ _ _).on (cbelow_al (Below.refl _ _) _))
  have G0 := Lib.hid (show Blk W0 (w.heap.size + 1) (hc d s q x y) by rw [← hW0]; have k := Blk.new (w.alloc (Obj.cells (fc a n b m p l h u v).toArray 41)) 30 (hc d s q x y); rw [World.size_alloc] at k; exact k)
  have B0 := Lib.hid (show Below w.heap.size w W0 by rw [← hW0]; exact cbelow_al (cbelow_al (Below.refl _ _) _) _)
  unfold fc hc at *
  unfold fv hv
  go_enter Try.func13, Try.ntmps13
  go_upto_region 1 with fail
  clear hW0
  obtain ⟨z0, z1, z2, z3, z4, z5, z6, z7, z8⟩ : _ ∧ _ ∧ _ ∧ _ ∧ _ ∧ _ ∧ _ ∧ _ ∧ _ := ⟨F0.out.1 0 _ rfl, F0.out.1 1 _ rfl, F0.out.1 2 _ rfl, F0.out.1 3 _ rfl, F0.out.1 4 _ rfl, F0.out.1 5 _ rfl, F0.out.1 6 _ rfl, F0.out.1 7 _ rfl, F0.out.1 8 _ rfl⟩
  obtain ⟨y0, y1, y2, y3, y4⟩ : _ ∧ _ ∧ _ ∧ _ ∧ _ := ⟨G0.out.1 0 _ rfl, G0.out.1 1 _ rfl, G0.out.1 2 _ rfl, G0.out.1 3 _ rfl, G0.out.1 4 _ rfl⟩
  go_wp2_with fail
  refine (C1.out _).mono ?_
  rintro e w1 ⟨rfl, hb⟩
  have F1 := Lib.hid (F0.out.on hb)
  have B1 := Lib.hid (cbelow_on B0.out hb)
  have G1 := Lib.hid (G0.out.on hb)
  clear hb z0 z1 z2 z3 z4 z5 z6 z7 z8 y0 y1 y2 y3 y4 F0 B0 G0 C1
  obtain ⟨z0, z1, z2, z3, z4, z5, z6, z7, z8⟩ : _ ∧ _ ∧ _ ∧ _ ∧ _ ∧ _ ∧ _ ∧ _ ∧ _ := ⟨F1.out.1 0 _ rfl, F1.out.1 1 _ rfl, F1.out.1 2 _ rfl, F1.out.1 3 _ rfl, F1.out.1 4 _ rfl, F1.out.1 5 _ rfl, F1.out.1 6 _ rfl, F1.out.1 7 _ rfl, F1.out.1 8 _ rfl⟩
  obtain ⟨y0, y1, y2, y3, y4⟩ : _ ∧ _ ∧ _ ∧ _ ∧ _ := ⟨G1.out.1 0 _ rfl, G1.out.1 1 _ rfl, G1.out.1 2 _ rfl, G1.out.1 3 _ rfl, G1.out.1 4 _ rfl⟩
  cases H1 with
  | false =>
    go_wp2
    go_ret
    exact ⟨cret_bool (by rw [← hE.out]; simp [prB]), B1.out⟩
  | true =>
    go_wp2_with fail
    refine (C2.out _).mono ?_
    rintro e w2 ⟨rfl, hb⟩
    have F2 := Lib.hid (F1.out.on hb)
    have B2 := Lib.hid (cbelow_on B1.out hb)
    have G2 := Lib.hid (G1.out.on hb)
    clear hb z0 z1 z2 z3 z4 z5 z6 z7 z8 y0 y1 y2 y3 y4 F1 B1 G1 C2
    obtain ⟨z0, z1, z2, z3, z4, z5, z6, z7, z8⟩ : _ ∧ _ ∧ _ ∧ _ ∧ _ ∧ _ ∧ _ ∧ _ ∧ _ := ⟨F2.out.1 0 _ rfl, F2.out.1 1 _ rfl, F2.out.1 2 _ rfl, F2.out.1 3 _ rfl, F2.out.1 4 _ rfl, F2.out.1 5 _ rfl, F2.out.1 6 _ rfl, F2.out.1 7 _ rfl, F2.out.1 8 _ rfl⟩
    obtain ⟨y0, y1, y2, y3, y4⟩ : _ ∧ _ ∧ _ ∧ _ ∧ _ := ⟨G2.out.1 0 _ rfl, G2.out.1 1 _ rfl, G2.out.1 2 _ rfl, G2.out.1 3 _ rfl, G2.out.1 4 _ rfl⟩
    cases H2 with
    | false =>
      go_wp2
      go_ret
      exact ⟨cret_bool (by rw [← hE.out]; simp [prB]), B2.out⟩
    | true =>
      by_cases p1 : p = -1
      · subst p1
        go_wp2_with fail
        refine (C3.out _).mono ?_
        rintro e w3 ⟨rfl, hb⟩
        have F3 := Lib.hid (F2.out.on hb)
        have B3 := Lib.hid (cbelow_on B2.out hb)
        have G3 := Lib.hid (G2.out.on hb)
        clear hb z0 z1 z2 z3 z4 z5 z6 z7 z8 y0 y1 y2 y3 y4 F2 B2 G2 C3
        obtain ⟨z0, z1, z2, z3, z4, z5, z6, z7, z8⟩ : _ ∧ _ ∧ _ ∧ _ ∧ _ ∧ _ ∧ _ ∧ _ ∧ _ := ⟨F3.out.1 0 _ rfl, F3.out.1 1 _ rfl, F3.out.1 2 _ rfl, F3.out.1 3 _ rfl, F3.out.1 4 _ rfl, F3.out.1 5 _ rfl, F3.out.1 6 _ rfl, F3.out.1 7 _ rfl, F3.out.1 8 _ rfl⟩
        obtain ⟨y0, y1, y2, y3, y4⟩ : _ ∧ _ ∧ _ ∧ _ ∧ _ := ⟨G3.out.1 0 _ rfl, G3.out.1 1 _ rfl, G3.out.1 2 _ rfl, G3.out.1 3 _ rfl, G3.out.1 4 _ rfl⟩
        cases I1 with
        | false =>
          go_wp2
          go_ret
          exact ⟨cret_bool (by rw [← hE.out]; simp [prB]), B3.out⟩
        | true =>
          go_wp2_with fail
          refine (C4.out _).mono ?_
          rintro e w4 ⟨rfl, hb⟩
          have F4 := Lib.hid (F3.out.on hb)
          have B4 := Lib.hid (cbelow_on B3.out hb)
          have G4 := Lib.hid (G3.out.on hb)
          clear hb z0 z1 z2 z3 z4 z5 z6 z7 z8 y0 y1 y2 y3 y4 F3 B3 G3 C4
          obtain ⟨z0, z1, z2, z3, z4, z5, z6, z7, z8⟩ : _ ∧ _ ∧ _ ∧ _ ∧ _ ∧ _ ∧ _ ∧ _ ∧ _ := ⟨F4.out.1 0 _ rfl, F4.out.1 1 _ rfl, F4.out.1 2 _ rfl, F4.out.1 3 _ rfl, F4.out.1 4 _ rfl, F4.out.1 5 _ rfl, F4.out.1 6 _ rfl, F4.out.1 7 _ rfl, F4.out.1 8 _ rfl⟩
          obtain ⟨y0, y1, y2, y3, y4⟩ : _ ∧ _ ∧ _ ∧ _ ∧ _ := ⟨G4.out.1 0 _ rfl, G4.out.1 1 _ rfl, G4.out.1 2 _ rfl, G4.out.1 3 _ rfl, G4.out.1 4 _ rfl⟩
          cases I2 with
          | false =>
            go_wp2
            go_ret
            exact ⟨cret_bool (by rw [← hE.out]; simp [prB]), B4.out⟩
          | true =>
            go_wp2
            go_ret
            exact ⟨cret_bool (by rw [← hE.out]; simp [prB]), B4.out⟩
      · have p1' : (p == -1) = false := by simp; exact p1
        by_cases p2 : p = q
        · subst p2
          go_wp2_with fail
          refine (C3.out _).mono ?_
          rintro e w3 ⟨rfl, hb⟩
          have F3 := Lib.hid (F2.out.on hb)
          have B3 := Lib.hid (cbelow_on B2.out hb)
          have G3 := Lib.hid (G2.out.on hb)
          clear hb z0 z1 z2 z3 z4 z5 z6 z7 z8 y0 y1 y2 y3 y4 F2 B2 G2 C3
          obtain ⟨z0, z1, z2, z3, z4, z5, z6, z7, z8⟩ : _ ∧ _ ∧ _ ∧ _ ∧ _ ∧ _ ∧ _ ∧ _ ∧ _ := ⟨F3.out.1 0 _ rfl, F3.out.1 1 _ rfl, F3.out.1 2 _ rfl, F3.out.1 3 _ rfl, F3.out.1 4 _ rfl, F3.out.1 5 _ rfl, F3.out.1 6 _ rfl, F3.out.1 7 _ rfl, F3.out.1 8 _ rfl⟩
          obtain ⟨y0, y1, y2, y3, y4⟩ : _ ∧ _ ∧ _ ∧ _ ∧ _ := ⟨G3.out.1 0 _ rfl, G3.out.1 1 _ rfl, G3.out.1 2 _ rfl, G3.out.1 3 _ rfl, G3.out.1 4 _ rfl⟩
          cases I1 with
          | false =>
            go_wp2
            go_ret
            exact ⟨cret_bool (by rw [← hE.out]; simp [prB]), B3.out⟩
          | true =>
            go_wp2_with fail
            refine (C4.out _).mono ?_
            rintro e w4 ⟨rfl, hb⟩
            have F4 := Lib.hid (F3.out.on hb)
            have B4 := Lib.hid (cbelow_on B3.out hb)
            have G4 := Lib.hid (G3.out.on hb)
            clear hb z0 z1 z2 z3 z4 z5 z6 z7 z8 y0 y1 y2 y3 y4 F3 B3 G3 C4
            obtain ⟨z0, z1, z2, z3, z4, z5, z6, z7, z8⟩ : _ ∧ _ ∧ _ ∧ _ ∧ _ ∧ _ ∧ _ ∧ _ ∧ _ := ⟨F4.out.1 0 _ rfl, F4.out.1 1 _ rfl, F4.out.1 2 _ rfl, F4.out.1 3 _ rfl, F4.out.1 4 _ rfl, F4.out.1 5 _ rfl, F4.out.1 6 _ rfl, F4.out.1 7 _ rfl, F4.out.1 8 _ rfl⟩
            obtain ⟨y0, y1, y2, y3, y4⟩ : _ ∧ _ ∧ _ ∧ _ ∧ _ := ⟨G4.out.1 0 _ rfl, G4.out.1 1 _ rfl, G4.out.1 2 _ rfl, G4.out.1 3 _ rfl, G4.out.1 4 _ rfl⟩
            cases I2 with
            | false =>
              go_wp2
              go_ret
              exact ⟨cret_bool (by rw [← hE.out]; simp [prB]), B4.out⟩
            | true =>
              go_wp2
              go_ret
              exact ⟨cret_bool (by rw [← hE.out]; simp [prB]), B4.out⟩
        · have p2' : (p == q) = false := by simp; exact p2
          go_wp2
          go_ret
          exact ⟨cret_bool (by rw [← hE.out]; simp [prB, p1, p2]), B2.out⟩
def inR_i (l h x : Int) : Bool := decide (l ≤ x) && decide (x ≤ h)
end Go.Proofs.Ytoiopjdbmaffeaa
