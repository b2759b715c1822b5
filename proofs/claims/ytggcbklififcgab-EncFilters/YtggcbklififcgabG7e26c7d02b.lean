/- Texts joined, in their order: FA, FX, FB, P4, P5. -/
import Derived.Test.YtggcbklififcgabG780cc3c718
import Derived.Test.YtggcbklififcgabG9625338efe
import Derived.Laws.OwnMore
import Derived.Test.YtggcbklififcgabGb914f46262
import Derived.Test.YtggcbklififcgabGa3cf92b948
import Derived.Test.YtggcbklififcgabG280be5a7bd
import Derived.Test.YtggcbklififcgabG43ccba0e29
/- Bits put behind bits. -/
namespace Go.Proofs.Ytggcbklififcgab
open Go.RowKit
set_option linter.unusedVariables false

theorem wpList_app_run {P : Program} {ops : Array Oper} {rest : List Oper} {o : Oper} {a : Act} {w w' : World} {Q : Exit → Act → World → Prop} (hgd : o.guard = none) (s x : Operand) (t : TypeId) {v xv v' : Value}
    (ho : o.op = .call { callee := .builtin .append, args := #[s, x], argTypes := #[t, t] }) (hs : a.eval s = v) (hx : a.eval x = xv) (hr : (Builtin.append_ #[t, t] o.type #[v, xv]).run P w = .ok v' w') (h : ∀ w1, Hid (w' = w1) → wpList P ops Q rest (a.put o.dst v') w1) : wpList P ops Q (o :: rest) a w :=
  wpList_plain hgd fun K hK => wp_append_run s x t ho hs hx hr (hK _ _ (h w' (Lib.hid rfl)))
/-- Bits in a row of the call's own; none: nil. -/
def Own (w : World) (base : Nat) (v : Value) (l : List (Nat × Bool)) : Prop := w.ownsRow base 104 2 v l.length (litCells (natL l)) ∧ (l = [] → v = .slice none 0 0)
theorem Own.on {w w' : World} {base : Nat} {v : Value} {l : List (Nat × Bool)} (h : Own w base v l) (hb : Below w.heap.size w w') : Own w' base v l := ⟨erow_on h.1 hb, h.2⟩
theorem Own.at {w : World} {base : Nat} {v : Value} {l : List (Nat × Bool)} (h : Own w base v l) : LitAt w base v l := by
  by_cases h0 : l = []
  · exact Or.inl ⟨h0, h.2 h0⟩
  · have hp : 0 < l.length := List.length_pos_iff.2 h0
    obtain ⟨g, cap, e1, e2, e3, e4⟩ := litC_of h.1 (natL_len l).symm hp
    exact Or.inr ⟨g, cap, e1, e2, e3, e4⟩
theorem Own.base {w : World} {base base' : Nat} {v : Value} {l : List (Nat × Bool)} (h : Own w base v l) (hb : base' ≤ base) : Own w base' v l := by
  refine ⟨⟨h.1.1, ?_⟩, h.2⟩
  rcases h.1.2 with q | ⟨g, cap, cur, e, q1, q2, q3⟩
  · exact Or.inl q
  · exact Or.inr ⟨g, cap, cur, e, by omega, q2, q3⟩
/-- Bits put behind bits. -/
theorem app_own {w : World} {base : Nat} {v u : Value} {l m : List (Nat × Bool)} (h : Own w base v l) (k : Own w base u m) (hlen : l.length + m.length ≤ 1000) (hb : base ≤ w.heap.size) :
    ∃ v' w', (Builtin.append_ #[78, 78] 78 #[v, u]).run Try.prog w = .ok v' w' ∧ Own w' base v' (l ++ m) ∧ Below base w w' := by
  obtain ⟨i0, hi0, hz0, hz1, hz2⟩ := einfo_parts infoLit
  by_cases h0 : m = []
  · subst h0
    have hu := k.2 rfl
    subst hu
    exact ⟨v, w, run_append_owned_none (P := Try.prog) (w := w) base 78 78 104 i0 2 Try.underlying78 hi0 v _ _ h.1, by rw [List.append_nil]; exact h, Below.refl _ _⟩
  · have hp : 0 < m.length := List.length_pos_iff.2 h0
    rcases k.1.2 with ⟨-, q⟩ | ⟨g, cap, cur, e, q1, q2, q3⟩
    · omega
    · subst e
      have hcell := fun j (hj : j < m.length * 2) => World.ownsRow.cellAt k.1 j hj
      obtain ⟨v', w', r1, r2, r3, r4⟩ := run_append_own (P := Try.prog) w base 78 78 104 i0 (.agg #[.int .i64 0, .bool false]) 2 16 Try.underlying78 hi0 hz0 hz1 hz2 rfl (by decide) v _ _ h.1 ⟨g, 0, none⟩ m.length cap (litCells (natL m)) k.1.1
        (fun j x hj => by
          have hjl := lt_of_get hj
          rw [k.1.1] at hjl
          have e : (⟨g, 0, none⟩ : Addr).add j = ⟨g, j, none⟩ := by simp [Addr.add, go_sem]; first | done | omega | (intro e; exact e.symm)
          rw [e, hcell j hjl]
          exact hj)
        (fun x hx => by
          unfold litCells at hx
          obtain ⟨p, -, hp⟩ := List.mem_flatMap.1 hx
          simp at hp
          rcases hp with rfl | rfl <;> rfl)
        (by unfold maxLen; omega) (by omega) hb
      refine ⟨v', w', r1, ⟨?_, fun e => ?_⟩, (Below.refl base w).grown r3 hb (fun g' e => ?_)⟩
      · rw [List.length_append, natL_append, litCells_append]; exact r2
      · exact absurd (List.append_eq_nil_iff.1 e).2 h0
      · have := (World.ownsRow.lt h.1 g' e).1; omega
theorem first_own (d s p x y : Nat) (hh : HB d s p x y) (a n : Nat) (h104 : a + n ≤ 104) (w : World) :
    Calls Try.prog 31 #[hv d s p x y, .int .i64 (a : Nat), .int .i64 (n : Nat)] w fun e w' => ∃ v, e = .returned v ∧ Own w' w.heap.size v (fl d s p x y a n) ∧ Below w.heap.size w w' := by
  by_cases h0 : n = 0
  · subst h0
    refine (first_none d s p x y (a : Nat) w).mono ?_
    rintro e w' ⟨rfl, hb⟩
    exact ⟨_, rfl, ⟨World.ownsRow_nil _ _ _ _, fun _ => rfl⟩, hb⟩
  · refine (first_any d s p x y hh a n h104 w).mono ?_
    rintro e w' ⟨v, rfl, hb, hO⟩
    refine ⟨v, rfl, Own.base (base := w.heap.size + 1) ⟨hO, fun e => ?_⟩ (by omega), hb⟩
    have := congrArg List.length e
    rw [fl_len] at this
    exact absurd this h0
end Go.Proofs.Ytggcbklififcgab
/- Filters: what Check, Some, and the document's Check and Match answer. -/
namespace Go.Proofs.Ytggcbklififcgab
open Go.RowKit
set_option linter.unusedVariables false

def inR (l h p : Nat) : Bool := decide (l ≤ p ∧ p ≤ h)
def fc (a n b m p l h u v : Int) : List Value := [.int .u32 a, .int .i64 n, .int .u32 b, .int .i64 m, .int .i64 p, .int .u16 l, .int .u16 h, .int .u16 u, .int .u16 v]
def fv (a n b m p l h u v : Int) : Value := .agg #[.int .u32 a, .int .i64 n, .int .u32 b, .int .i64 m, .int .i64 p, .int .u16 l, .int .u16 h, .int .u16 u, .int .u16 v]
def hc (d s q x y : Int) : List Value := [.int .u32 d, .int .u32 s, .int .u8 q, .int .u16 x, .int .u16 y]
def rgv (l h : Int) : Value := .agg #[.int .u16 l, .int .u16 h]
/-- What is wrong with a filter. -/
def chk (R1 R2 : Bool) (p : Int) (E1 E2 : Bool) : Int := if R1 = true ∧ R2 = true then (if p = -1 ∨ (0 ≤ p ∧ p ≤ 255) then (if E1 = true ∨ E2 = true then 14 else 0) else 5) else 13
/-- Whether a protocol passes. -/
def prB (p q : Int) : Bool := decide (p = -1) || decide (p = q)
set_option maxHeartbeats 400000 in
theorem fempty_any (l h : Int) (w : World) : Calls Try.prog 61 #[rgv l h] w fun e w' => e = .returned (.bool (decide (h < l))) ∧ Below w.heap.size w w' := by
  unfold rgv
  by_cases c : h < l
  · have c' : decide (h < l) = true := decide_eq_true c
    go_enter Try.func61, Try.ntmps61
    go_wp2
    go_ret
    exact ⟨by simp [c], cbelow_al (Below.refl _ _) _⟩
  · have c' : decide (h < l) = false := decide_eq_false c
    go_enter Try.func61, Try.ntmps61
    go_wp2
    go_ret
    exact ⟨by simp, cbelow_al (Below.refl _ _) _⟩
set_option maxRecDepth 100000 in
set_option maxHeartbeats 4000000 in
theorem fcheck_core (a n b m p l h u v : Int) (R1 R2 E1 E2 : Bool) (C1 : Hid (∀ w, Calls Try.prog 29 #[pv a n] w fun e w' => e = .returned (.bool R1) ∧ Below w.heap.size w w')) (C2 : Hid (∀ w, Calls Try.prog 29 #[pv b m] w fun e w' => e = .returned (.bool R2) ∧ Below w.heap.size w w')) (C3 : Hid (∀ w, Calls Try.prog 61 #[rgv l h] w fun e w' => e = .returned (.bool E1) ∧ Below w.heap.size w w')) (C4 : Hid (∀ w, Calls Try.prog 61 #[rgv u v] w fun e w' => e = .returned (.bool E2) ∧ Below w.heap.size w w'))
    (E : Int) (hE : Hid (chk R1 R2 p E1 E2 = E)) (w : World) : Calls Try.prog 39 #[fv a n b m p l h u v] w fun e w' => e = .returned (.int .i64 E) ∧ Below w.heap.size w w' := by
  unfold pv at C1 C2
  unfold rgv at C3 C4
  obtain ⟨W0, hW0⟩ : ∃ W0, w.alloc (Obj.cells (fc a n b m p l h u v).toArray 47) = W0 := ⟨_, rfl⟩
  have F0 := Lib.hid (show Blk W0 w.heap.size (fc a n b m p l h u v) by rw [← hW0]; exact Blk.new _ _ _)
  have B0 := Lib.hid (show Below w.heap.size w W0 by rw [← hW0]; exact cbelow_al (Below.refl _ _) _)
  unfold fc at *
  unfold fv
  go_enter Try.func39, Try.ntmps39
  go_upto_region 1 with fail
  clear hW0
  obtain ⟨z0, z1, z2, z3, z4, z5, z6, z7, z8⟩ : _ ∧ _ ∧ _ ∧ _ ∧ _ ∧ _ ∧ _ ∧ _ ∧ _ := ⟨F0.out.1 0 _ rfl, F0.out.1 1 _ rfl, F0.out.1 2 _ rfl, F0.out.1 3 _ rfl, F0.out.1 4 _ rfl, F0.out.1 5 _ rfl, F0.out.1 6 _ rfl, F0.out.1 7 _ rfl, F0.out.1 8 _ rfl⟩
  go_wp2_with fail
  refine (C1.out _).mono ?_
  rintro e w1 ⟨rfl, hb⟩
  have F1 := Lib.hid (F0.out.on hb)
  have B1 := Lib.hid (cbelow_on B0.out hb)
  clear hb z0 z1 z2 z3 z4 z5 z6 z7 z8 F0 B0 C1
  obtain ⟨z0, z1, z2, z3, z4, z5, z6, z7, z8⟩ : _ ∧ _ ∧ _ ∧ _ ∧ _ ∧ _ ∧ _ ∧ _ ∧ _ := ⟨F1.out.1 0 _ rfl, F1.out.1 1 _ rfl, F1.out.1 2 _ rfl, F1.out.1 3 _ rfl, F1.out.1 4 _ rfl, F1.out.1 5 _ rfl, F1.out.1 6 _ rfl, F1.out.1 7 _ rfl, F1.out.1 8 _ rfl⟩
  cases R1 with
  | false =>
    go_wp2
    go_ret
    exact ⟨by rw [← hE.out]; simp [chk], B1.out⟩
  | true =>
    go_wp2_with fail
    refine (C2.out _).mono ?_
    rintro e w2 ⟨rfl, hb⟩
    have F2 := Lib.hid (F1.out.on hb)
    have B2 := Lib.hid (cbelow_on B1.out hb)
    clear hb z0 z1 z2 z3 z4 z5 z6 z7 z8 F1 B1 C2
    obtain ⟨z0, z1, z2, z3, z4, z5, z6, z7, z8⟩ : _ ∧ _ ∧ _ ∧ _ ∧ _ ∧ _ ∧ _ ∧ _ ∧ _ := ⟨F2.out.1 0 _ rfl, F2.out.1 1 _ rfl, F2.out.1 2 _ rfl, F2.out.1 3 _ rfl, F2.out.1 4 _ rfl, F2.out.1 5 _ rfl, F2.out.1 6 _ rfl, F2.out.1 7 _ rfl, F2.out.1 8 _ rfl⟩
    cases R2 with
    | false =>
      go_wp2
      go_ret
      exact ⟨by rw [← hE.out]; simp [chk], B2.out⟩
    | true =>
      by_cases p1 : p = -1
      · subst p1
        go_wp2_with fail
        refine (C3.out _).mono ?_
        rintro e w3 ⟨rfl, hb⟩
        have F3 := Lib.hid (F2.out.on hb)
        have B3 := Lib.hid (cbelow_on B2.out hb)
        clear hb z0 z1 z2 z3 z4 z5 z6 z7 z8 F2 B2 C3
        obtain ⟨z0, z1, z2, z3, z4, z5, z6, z7, z8⟩ : _ ∧ _ ∧ _ ∧ _ ∧ _ ∧ _ ∧ _ ∧ _ ∧ _ := ⟨F3.out.1 0 _ rfl, F3.out.1 1 _ rfl, F3.out.1 2 _ rfl, F3.out.1 3 _ rfl, F3.out.1 4 _ rfl, F3.out.1 5 _ rfl, F3.out.1 6 _ rfl, F3.out.1 7 _ rfl, F3.out.1 8 _ rfl⟩
        cases E1 with
        | true =>
          go_wp2
          go_ret
          exact ⟨by rw [← hE.out]; unfold chk; rw [if_pos ⟨rfl, rfl⟩, if_pos (by omega)]; simp, B3.out⟩
        | false =>
          go_wp2_with fail
          refine (C4.out _).mono ?_
          rintro e w4 ⟨rfl, hb⟩
          have F4 := Lib.hid (F3.out.on hb)
          have B4 := Lib.hid (cbelow_on B3.out hb)
          clear hb z0 z1 z2 z3 z4 z5 z6 z7 z8 F3 B3 C4
          obtain ⟨z0, z1, z2, z3, z4, z5, z6, z7, z8⟩ : _ ∧ _ ∧ _ ∧ _ ∧ _ ∧ _ ∧ _ ∧ _ ∧ _ := ⟨F4.out.1 0 _ rfl, F4.out.1 1 _ rfl, F4.out.1 2 _ rfl, F4.out.1 3 _ rfl, F4.out.1 4 _ rfl, F4.out.1 5 _ rfl, F4.out.1 6 _ rfl, F4.out.1 7 _ rfl, F4.out.1 8 _ rfl⟩
          cases E2 with
          | true =>
            go_wp2
            go_ret
            exact ⟨by rw [← hE.out]; unfold chk; rw [if_pos ⟨rfl, rfl⟩, if_pos (by omega)]; simp, B4.out⟩
          | false =>
            go_wp2
            go_ret
            exact ⟨by rw [← hE.out]; unfold chk; rw [if_pos ⟨rfl, rfl⟩, if_pos (by omega)]; simp, B4.out⟩
      · have p1' : (p != -1) = true := by simp; exact p1
        have p1'' : (p == -1) = false := by simp; exact p1
        by_cases p2 : p < 0
        · have p2' : decide (p < 0) = true := decide_eq_true p2
          have p2'' : decide (p < -1) = true := decide_eq_true (by omega)
          have p2n : p < -1 := by omega
          go_wp2
          go_ret
          exact ⟨by rw [← hE.out]; unfold chk; rw [if_pos ⟨rfl, rfl⟩, if_neg (by omega)]; rfl, B2.out⟩
        · have p2' : decide (p < 0) = false := decide_eq_false p2
          have p2'' : decide (p < -1) = false := decide_eq_false (by omega)
          have p2n : ¬ p < -1 := by omega
          by_cases p3 : 255 < p
          · have p3' : decide (255 < p) = true := decide_eq_true p3
            go_wp2
            go_ret
            exact ⟨by rw [← hE.out]; unfold chk; rw [if_pos ⟨rfl, rfl⟩, if_neg (by omega)]; rfl, B2.out⟩
          · have p3' : decide (255 < p) = false := decide_eq_false p3
            have p4 : 0 ≤ p := by omega
            have p5 : p ≤ 255 := by omega
            go_wp2_with fail
            refine (C3.out _).mono ?_
            rintro e w3 ⟨rfl, hb⟩
            have F3 := Lib.hid (F2.out.on hb)
            have B3 := Lib.hid (cbelow_on B2.out hb)
            clear hb z0 z1 z2 z3 z4 z5 z6 z7 z8 F2 B2 C3
            obtain ⟨z0, z1, z2, z3, z4, z5, z6, z7, z8⟩ : _ ∧ _ ∧ _ ∧ _ ∧ _ ∧ _ ∧ _ ∧ _ ∧ _ := ⟨F3.out.1 0 _ rfl, F3.out.1 1 _ rfl, F3.out.1 2 _ rfl, F3.out.1 3 _ rfl, F3.out.1 4 _ rfl, F3.out.1 5 _ rfl, F3.out.1 6 _ rfl, F3.out.1 7 _ rfl, F3.out.1 8 _ rfl⟩
            cases E1 with
            | true =>
              go_wp2
              go_ret
              exact ⟨by rw [← hE.out]; unfold chk; rw [if_pos ⟨rfl, rfl⟩, if_pos (by omega)]; simp, B3.out⟩
            | false =>
              go_wp2_with fail
              refine (C4.out _).mono ?_
              rintro e w4 ⟨rfl, hb⟩
              have F4 := Lib.hid (F3.out.on hb)
              have B4 := Lib.hid (cbelow_on B3.out hb)
              clear hb z0 z1 z2 z3 z4 z5 z6 z7 z8 F3 B3 C4
              obtain ⟨z0, z1, z2, z3, z4, z5, z6, z7, z8⟩ : _ ∧ _ ∧ _ ∧ _ ∧ _ ∧ _ ∧ _ ∧ _ ∧ _ := ⟨F4.out.1 0 _ rfl, F4.out.1 1 _ rfl, F4.out.1 2 _ rfl, F4.out.1 3 _ rfl, F4.out.1 4 _ rfl, F4.out.1 5 _ rfl, F4.out.1 6 _ rfl, F4.out.1 7 _ rfl, F4.out.1 8 _ rfl⟩
              cases E2 with
              | true =>
                go_wp2
                go_ret
                exact ⟨by rw [← hE.out]; unfold chk; rw [if_pos ⟨rfl, rfl⟩, if_pos (by omega)]; simp, B4.out⟩
              | false =>
                go_wp2
                go_ret
                exact ⟨by rw [← hE.out]; unfold chk; rw [if_pos ⟨rfl, rfl⟩, if_pos (by omega)]; simp, B4.out⟩
set_option maxRecDepth 100000 in
set_option maxHeartbeats 4000000 in
theorem rfcheck_core (a n b m p l h u v : Int) (R1 R2 : Bool) (C1 : Hid (∀ w, Calls Try.prog 11 #[pv a n] w fun e w' => e = .returned (.bool R1) ∧ Below w.heap.size w w')) (C2 : Hid (∀ w, Calls Try.prog 11 #[pv b m] w fun e w' => e = .returned (.bool R2) ∧ Below w.heap.size w w'))
    (E : Int) (hE : Hid (chk R1 R2 p (decide (h < l)) (decide (v < u)) = E)) (w : World) : Calls Try.prog 18 #[fv a n b m p l h u v] w fun e w' => e = .returned (.int .i64 E) ∧ Below w.heap.size w w' := by
  unfold pv at C1 C2
  obtain ⟨W0, hW0⟩ : ∃ W0, w.alloc (Obj.cells (fc a n b m p l h u v).toArray 47) = W0 := ⟨_, rfl⟩
  have F0 := Lib.hid (show Blk W0 w.heap.size (fc a n b m p l h u v) by rw [← hW0]; exact Blk.new _ _ _)
  have B0 := Lib.hid (show Below w.heap.size w W0 by rw [← hW0]; exact cbelow_al (Below.refl _ _) _)
  unfold fc at *
  unfold fv
  go_enter Try.func18, Try.ntmps18
  go_upto_region 1 with fail
  clear hW0
  obtain ⟨z0, z1, z2, z3, z4, z5, z6, z7, z8⟩ : _ ∧ _ ∧ _ ∧ _ ∧ _ ∧ _ ∧ _ ∧ _ ∧ _ := ⟨F0.out.1 0 _ rfl, F0.out.1 1 _ rfl, F0.out.1 2 _ rfl, F0.out.1 3 _ rfl, F0.out.1 4 _ rfl, F0.out.1 5 _ rfl, F0.out.1 6 _ rfl, F0.out.1 7 _ rfl, F0.out.1 8 _ rfl⟩
  go_wp2_with fail
  refine (C1.out _).mono ?_
  rintro e w1 ⟨rfl, hb⟩
  have F1 := Lib.hid (F0.out.on hb)
  have B1 := Lib.hid (cbelow_on B0.out hb)
  clear hb z0 z1 z2 z3 z4 z5 z6 z7 z8 F0 B0 C1
  obtain ⟨z0, z1, z2, z3, z4, z5, z6, z7, z8⟩ : _ ∧ _ ∧ _ ∧ _ ∧ _ ∧ _ ∧ _ ∧ _ ∧ _ := ⟨F1.out.1 0 _ rfl, F1.out.1 1 _ rfl, F1.out.1 2 _ rfl, F1.out.1 3 _ rfl, F1.out.1 4 _ rfl, F1.out.1 5 _ rfl, F1.out.1 6 _ rfl, F1.out.1 7 _ rfl, F1.out.1 8 _ rfl⟩
  cases R1 with
  | false =>
    go_wp2
    go_ret
    exact ⟨by rw [← hE.out]; simp [chk], B1.out⟩
  | true =>
    go_wp2_with fail
    refine (C2.out _).mono ?_
    rintro e w2 ⟨rfl, hb⟩
    have F2 := Lib.hid (F1.out.on hb)
    have B2 := Lib.hid (cbelow_on B1.out hb)
    clear hb z0 z1 z2 z3 z4 z5 z6 z7 z8 F1 B1 C2
    obtain ⟨z0, z1, z2, z3, z4, z5, z6, z7, z8⟩ : _ ∧ _ ∧ _ ∧ _ ∧ _ ∧ _ ∧ _ ∧ _ ∧ _ := ⟨F2.out.1 0 _ rfl, F2.out.1 1 _ rfl, F2.out.1 2 _ rfl, F2.out.1 3 _ rfl, F2.out.1 4 _ rfl, F2.out.1 5 _ rfl, F2.out.1 6 _ rfl, F2.out.1 7 _ rfl, F2.out.1 8 _ rfl⟩
    cases R2 with
    | false =>
      go_wp2
      go_ret
      exact ⟨by rw [← hE.out]; simp [chk], B2.out⟩
    | true =>
      by_cases p1 : p = -1
      · subst p1
        by_cases e1 : h < l
        · have e1' : decide (h < l) = true := decide_eq_true e1
          go_wp2
          go_ret
          exact ⟨by rw [← hE.out]; unfold chk; rw [if_pos ⟨rfl, rfl⟩, if_pos (by omega)]; simp [e1], B2.out⟩
        · have e1' : decide (h < l) = false := decide_eq_false e1
          by_cases e2 : v < u
          · have e2' : decide (v < u) = true := decide_eq_true e2
            go_wp2
            go_ret
            exact ⟨by rw [← hE.out]; unfold chk; rw [if_pos ⟨rfl, rfl⟩, if_pos (by omega)]; simp [e2], B2.out⟩
          · have e2' : decide (v < u) = false := decide_eq_false e2
            go_wp2
            go_ret
            exact ⟨by rw [← hE.out]; unfold chk; rw [if_pos ⟨rfl, rfl⟩, if_pos (by omega)]; simp [e1, e2], B2.out⟩
      · have p1' : (p != -1) = true := by simp; exact p1
        have p1'' : (p == -1) = false := by simp; exact p1
        by_cases p2 : p < 0
        · have p2' : decide (p < 0) = true := decide_eq_true p2
          have p2'' : decide (p < -1) = true := decide_eq_true (by omega)
          have p2n : p < -1 := by omega
          go_wp2
          go_ret
          exact ⟨by rw [← hE.out]; unfold chk; rw [if_pos ⟨rfl, rfl⟩, if_neg (by omega)]; rfl, B2.out⟩
        · have p2' : decide (p < 0) = false := decide_eq_false p2
          have p2'' : decide (p < -1) = false := decide_eq_false (by omega)
          have p2n : ¬ p < -1 := by omega
          by_cases p3 : 255 < p
          · have p3' : decide (255 < p) = true := decide_eq_true p3
            go_wp2
            go_ret
            exact ⟨by rw [← hE.out]; unfold chk; rw [if_pos ⟨rfl, rfl⟩, if_neg (by omega)]; rfl, B2.out⟩
          · have p3' : decide (255 < p) = false := decide_eq_false p3
            have p4 : 0 ≤ p := by omega
            have p5 : p ≤ 255 := by omega
            by_cases e1 : h < l
            · have e1' : decide (h < l) = true := decide_eq_true e1
              go_wp2
              go_ret
              exact ⟨by rw [← hE.out]; unfold chk; rw [if_pos ⟨rfl, rfl⟩, if_pos (by omega)]; simp [e1], B2.out⟩
            · have e1' : decide (h < l) = false := decide_eq_false e1
              by_cases e2 : v < u
              · have e2' : decide (v < u) = true := decide_eq_true e2
                go_wp2
                go_ret
                exact ⟨by rw [← hE.out]; unfold chk; rw [if_pos ⟨rfl, rfl⟩, if_pos (by omega)]; simp [e2], B2.out⟩
              · have e2' : decide (v < u) = false := decide_eq_false e2
                go_wp2
                go_ret
                exact ⟨by rw [← hE.out]; unfold chk; rw [if_pos ⟨rfl, rfl⟩, if_pos (by omega)]; simp [e1, e2], B2.out⟩
def inR_i (l h x : Int) : Bool := decide (l ≤ x) && decide (x ≤ h)
set_option maxRecDepth 100000 in
set_option maxHeartbeats 4000000 in
theorem rfmatch_core (a n b m p l h u v d s q x y : Int) (hq : 0 ≤ q ∧ q < 256) (H1 H2 : Bool) (C1 : Hid (∀ w, Calls Try.prog 13 #[pv a n, .int .u32 d] w fun e w' => e = .returned (.bool H1) ∧ Below w.heap.size w w')) (C2 : Hid (∀ w, Calls Try.prog 13 #[pv b m, .int .u32 s] w fun e w' => e = .returned (.bool H2) ∧ Below w.heap.size w w'))
    (E : Bool) (hE : Hid ((H1 && H2 && prB p q && inR_i l h x && inR_i u v y) = E)) (w : World) : Calls Try.prog 19 #[fv a n b m p l h u v, hv d s q x y] w fun e w' => e = .returned (.bool E) ∧ Below w.heap.size w w' := by
  unfold pv at C1 C2
  have cq : IntKind.i64.wrap q = q := by rw [IntKind.wrap_i64]; omega
  obtain ⟨W0, hW0⟩ : ∃ W0, (w.alloc (Obj.cells (fc a n b m p l h u v).toArray 47)).alloc (Obj.cells (hc d s q x y).toArray 29) = W0 := ⟨_, rfl⟩
  have F0 := Lib.hid (show Blk W0 w.heap.size (fc a n b m p l h u v) by rw [← hW0]; exact (Blk.new _ _ _).on (cbelow_al (Below.refl _ _) _))
  have G0 := Lib.hid (show Blk W0 (w.heap.size + 1) (hc d s q x y) by rw [← hW0]; have k := Blk.new (w.alloc (Obj.cells (fc a n b m p l h u v).toArray 47)) 29 (hc d s q x y); rw [World.size_alloc] at k; exact k)
  have B0 := Lib.hid (show Below w.heap.size w W0 by rw [← hW0]; exact cbelow_al (cbelow_al (Below.refl _ _) _) _)
  unfold fc hc at *
  unfold fv hv
  go_enter Try.func19, Try.ntmps19
  go_upto_region 1 with fail
  clear hW0
  obtain ⟨z0, z1, z2, z3, z4, z5, z6, z7, z8⟩ : _ ∧ _ ∧ _ ∧ _ ∧ _ ∧ _ ∧ _ ∧ _ ∧ _ := ⟨F0.out.1 0 _ rfl, F0.out.1 1 _ rfl, F0.out.1 2 _ rfl, F0.out.1 3 _ rfl, F0.out.1 4 _ rfl, F0.out.1 5 _ rfl, F0.out.1 6 _ rfl, F0.out.1 7 _ rfl, F0.out.1 8 _ rfl⟩
  obtain ⟨y0, y1, y2, y3, y4⟩ : _ ∧ _ ∧ _ ∧ _ ∧ _ := ⟨G0.out.1 0 _ rfl, G0.out.1 1 _ rfl, G0.out.1 2 _ rfl, G0.out.1 3 _ rfl, G0.out.1 4 _ rfl⟩
  by_cases p1 : p = -1
  · subst p1
    by_cases l1 : x < l
    · have l1' : decide (x < l) = true := decide_eq_true l1
      have l1n : ¬ l ≤ x := by omega
      go_wp2
      go_ret
      exact ⟨cret_bool (by rw [← hE.out]; simp [prB, inR_i]; intros; omega), B0.out⟩
    · have l1' : decide (x < l) = false := decide_eq_false l1
      have l1n : l ≤ x := by omega
      by_cases k1 : h < x
      · have k1' : decide (h < x) = true := decide_eq_true k1
        have k1n : ¬ x ≤ h := by omega
        go_wp2
        go_ret
        exact ⟨cret_bool (by rw [← hE.out]; simp [prB, inR_i]; intros; omega), B0.out⟩
      · have k1' : decide (h < x) = false := decide_eq_false k1
        have k1n : x ≤ h := by omega
        by_cases l2 : y < u
        · have l2' : decide (y < u) = true := decide_eq_true l2
          have l2n : ¬ u ≤ y := by omega
          go_wp2
          go_ret
          exact ⟨cret_bool (by rw [← hE.out]; simp [prB, inR_i]; intros; omega), B0.out⟩
        · have l2' : decide (y < u) = false := decide_eq_false l2
          have l2n : u ≤ y := by omega
          by_cases k2 : v < y
          · have k2' : decide (v < y) = true := decide_eq_true k2
            have k2n : ¬ y ≤ v := by omega
            go_wp2
            go_ret
            exact ⟨cret_bool (by rw [← hE.out]; simp [prB, inR_i, k2n]), B0.out⟩
          · have k2' : decide (v < y) = false := decide_eq_false k2
            have k2n : y ≤ v := by omega
            go_wp2_with fail
            refine (C1.out _).mono ?_
            rintro e w1 ⟨rfl, hb⟩
            have F1 := Lib.hid (F0.out.on hb)
            have B1 := Lib.hid (cbelow_on B0.out hb)
            have G1 := Lib.hid (G0.out.on hb)
            clear hb z0 z1 z2 z3 z4 z5 z6 z7 z8 y0 y1 y2 y3 y4 F0 B0 G0 C1
            obtain ⟨z0, z1, z2, z3, z4, z5, z6, z7, z8⟩ : _ ∧ _ ∧ _ ∧ _ ∧ _ ∧ _ ∧ _ ∧ _ ∧ _ := ⟨F1.out.1 0 _ rfl, F1.out.1 1 _ rfl, F1.out.1 2 _ rfl, F1.out.1 3 _ rfl, F1.out.1 4 _ rfl, F1.out.1 5 _ rfl, F1.out.1 6 _ rfl, F1.out.1 7 _ rfl, F1.out.1 8 _ rfl⟩
            obtain ⟨y0, y1, y2, y3, y4⟩ : _ ∧ _ ∧ _ ∧ _ ∧ _ := ⟨G1.out.1 0 _ rfl, G1.out.1 1 _ rfl, G1.out.1 2 _ rfl, G1.out.1 3 _ rfl, G1.out.1 4 _ rfl⟩
            cases H1 with
            | false =>
              go_wp2
              go_ret
              exact ⟨cret_bool (by rw [← hE.out]; simp [prB, inR_i]), B1.out⟩
            | true =>
              go_wp2_with fail
              refine (C2.out _).mono ?_
              rintro e w2 ⟨rfl, hb⟩
              have F2 := Lib.hid (F1.out.on hb)
              have B2 := Lib.hid (cbelow_on B1.out hb)
              have G2 := Lib.hid (G1.out.on hb)
              clear hb z0 z1 z2 z3 z4 z5 z6 z7 z8 y0 y1 y2 y3 y4 F1 B1 G1 C2
              obtain ⟨z0, z1, z2, z3, z4, z5, z6, z7, z8⟩ : _ ∧ _ ∧ _ ∧ _ ∧ _ ∧ _ ∧ _ ∧ _ ∧ _ := ⟨F2.out.1 0 _ rfl, F2.out.1 1 _ rfl, F2.out.1 2 _ rfl, F2.out.1 3 _ rfl, F2.out.1 4 _ rfl, F2.out.1 5 _ rfl, F2.out.1 6 _ rfl, F2.out.1 7 _ rfl, F2.out.1 8 _ rfl⟩
              obtain ⟨y0, y1, y2, y3, y4⟩ : _ ∧ _ ∧ _ ∧ _ ∧ _ := ⟨G2.out.1 0 _ rfl, G2.out.1 1 _ rfl, G2.out.1 2 _ rfl, G2.out.1 3 _ rfl, G2.out.1 4 _ rfl⟩
              cases H2 with
              | false =>
                go_wp2
                go_ret
                exact ⟨cret_bool (by rw [← hE.out]; simp [prB, inR_i]), B2.out⟩
              | true =>
                go_wp2
                go_ret
                exact ⟨cret_bool (by rw [← hE.out]; simp [prB, inR_i, l1n, k1n, l2n, k2n]), B2.out⟩
  · have p1' : (p != -1) = true := by simp; exact p1
    by_cases p2 : p = q
    · subst p2
      by_cases l1 : x < l
      · have l1' : decide (x < l) = true := decide_eq_true l1
        have l1n : ¬ l ≤ x := by omega
        go_wp2
        go_ret
        exact ⟨cret_bool (by rw [← hE.out]; simp [prB, inR_i]; intros; omega), B0.out⟩
      · have l1' : decide (x < l) = false := decide_eq_false l1
        have l1n : l ≤ x := by omega
        by_cases k1 : h < x
        · have k1' : decide (h < x) = true := decide_eq_true k1
          have k1n : ¬ x ≤ h := by omega
          go_wp2
          go_ret
          exact ⟨cret_bool (by rw [← hE.out]; simp [prB, inR_i]; intros; omega), B0.out⟩
        · have k1' : decide (h < x) = false := decide_eq_false k1
          have k1n : x ≤ h := by omega
          by_cases l2 : y < u
          · have l2' : decide (y < u) = true := decide_eq_true l2
            have l2n : ¬ u ≤ y := by omega
            go_wp2
            go_ret
            exact ⟨cret_bool (by rw [← hE.out]; simp [prB, inR_i]; intros; omega), B0.out⟩
          · have l2' : decide (y < u) = false := decide_eq_false l2
            have l2n : u ≤ y := by omega
            by_cases k2 : v < y
            · have k2' : decide (v < y) = true := decide_eq_true k2
              have k2n : ¬ y ≤ v := by omega
              go_wp2
              go_ret
              exact ⟨cret_bool (by rw [← hE.out]; simp [prB, inR_i, k2n]), B0.out⟩
            · have k2' : decide (v < y) = false := decide_eq_false k2
              have k2n : y ≤ v := by omega
              go_wp2_with fail
              refine (C1.out _).mono ?_
              rintro e w1 ⟨rfl, hb⟩
              have F1 := Lib.hid (F0.out.on hb)
              have B1 := Lib.hid (cbelow_on B0.out hb)
              have G1 := Lib.hid (G0.out.on hb)
              clear hb z0 z1 z2 z3 z4 z5 z6 z7 z8 y0 y1 y2 y3 y4 F0 B0 G0 C1
              obtain ⟨z0, z1, z2, z3, z4, z5, z6, z7, z8⟩ : _ ∧ _ ∧ _ ∧ _ ∧ _ ∧ _ ∧ _ ∧ _ ∧ _ := ⟨F1.out.1 0 _ rfl, F1.out.1 1 _ rfl, F1.out.1 2 _ rfl, F1.out.1 3 _ rfl, F1.out.1 4 _ rfl, F1.out.1 5 _ rfl, F1.out.1 6 _ rfl, F1.out.1 7 _ rfl, F1.out.1 8 _ rfl⟩
              obtain ⟨y0, y1, y2, y3, y4⟩ : _ ∧ _ ∧ _ ∧ _ ∧ _ := ⟨G1.out.1 0 _ rfl, G1.out.1 1 _ rfl, G1.out.1 2 _ rfl, G1.out.1 3 _ rfl, G1.out.1 4 _ rfl⟩
              cases H1 with
              | false =>
                go_wp2
                go_ret
                exact ⟨cret_bool (by rw [← hE.out]; simp [prB, inR_i]), B1.out⟩
              | true =>
                go_wp2_with fail
                refine (C2.out _).mono ?_
                rintro e w2 ⟨rfl, hb⟩
                have F2 := Lib.hid (F1.out.on hb)
                have B2 := Lib.hid (cbelow_on B1.out hb)
                have G2 := Lib.hid (G1.out.on hb)
                clear hb z0 z1 z2 z3 z4 z5 z6 z7 z8 y0 y1 y2 y3 y4 F1 B1 G1 C2
                obtain ⟨z0, z1, z2, z3, z4, z5, z6, z7, z8⟩ : _ ∧ _ ∧ _ ∧ _ ∧ _ ∧ _ ∧ _ ∧ _ ∧ _ := ⟨F2.out.1 0 _ rfl, F2.out.1 1 _ rfl, F2.out.1 2 _ rfl, F2.out.1 3 _ rfl, F2.out.1 4 _ rfl, F2.out.1 5 _ rfl, F2.out.1 6 _ rfl, F2.out.1 7 _ rfl, F2.out.1 8 _ rfl⟩
                obtain ⟨y0, y1, y2, y3, y4⟩ : _ ∧ _ ∧ _ ∧ _ ∧ _ := ⟨G2.out.1 0 _ rfl, G2.out.1 1 _ rfl, G2.out.1 2 _ rfl, G2.out.1 3 _ rfl, G2.out.1 4 _ rfl⟩
                cases H2 with
                | false =>
                  go_wp2
                  go_ret
                  exact ⟨cret_bool (by rw [← hE.out]; simp [prB, inR_i]), B2.out⟩
                | true =>
                  go_wp2
                  go_ret
                  exact ⟨cret_bool (by rw [← hE.out]; simp [prB, inR_i, l1n, k1n, l2n, k2n]), B2.out⟩
    · have p2' : (p != q) = true := by simp; exact p2
      go_wp2
      go_ret
      exact ⟨cret_bool (by rw [← hE.out]; simp [prB, inR_i, p1, p2]), B0.out⟩
theorem inR_eq (l h x : Nat) : inR l h x = inR_i l h x := by
  unfold inR inR_i
  rw [← Bool.decide_and, decide_eq_decide]; omega
theorem chk_right {R1 R2 : Bool} {p : Int} {E1 E2 : Bool} (h : chk R1 R2 p E1 E2 = 0) : R1 = true ∧ R2 = true ∧ (p = -1 ∨ 0 ≤ p ∧ p ≤ 255) ∧ E1 = false ∧ E2 = false := by
  unfold chk at h
  by_cases c1 : R1 = true ∧ R2 = true
  · rw [if_pos c1] at h
    by_cases c2 : p = -1 ∨ 0 ≤ p ∧ p ≤ 255
    · rw [if_pos c2] at h
      by_cases c3 : E1 = true ∨ E2 = true
      · rw [if_pos c3] at h; exact absurd h (by omega)
      · exact ⟨c1.1, c1.2, c2, by cases E1 <;> simp_all, by cases E2 <;> simp_all⟩
    · rw [if_neg c2] at h; exact absurd h (by omega)
  · rw [if_neg c1] at h; exact absurd h (by omega)
theorem right_nat {a : Nat} {n : Int} (h : rightB a n = true) : ∃ k : Nat, n = k ∧ k ≤ 32 ∧ a % sz k = 0 := by
  obtain ⟨n0, n1, n2⟩ := of_decide_eq_true h
  obtain ⟨k, rfl⟩ := Int.eq_ofNat_of_zero_le n0
  exact ⟨k, rfl, by omega, n2⟩
/-- The document's Has of a prefix that may be. -/
theorem rhas_right (a : Nat) (n : Int) (x : Nat) (h : rightB a n = true) (ha : a < 4294967296) (hx : x < 4294967296) (w : World) :
    Calls Try.prog 13 #[pv a n, .int .u32 x] w fun e w' => e = .returned (.bool (chasB a n x)) ∧ Below w.heap.size w w' := by
  rw [hasB_iff a n x h]
  obtain ⟨k, rfl, hk, -⟩ := right_nat h
  exact rhas_any a k x hk ha hx w
theorem fcheck_any (a : Nat) (n : Int) (b : Nat) (m p : Int) (l h u v : Nat) (ha : a < 4294967296) (hb : b < 4294967296) (w : World) :
    Calls Try.prog 39 #[fv a n b m p l h u v] w fun e w' => e = .returned (.int .i64 (chk (rightB a n) (rightB b m) p (decide (h < l)) (decide (v < u)))) ∧ Below w.heap.size w w' :=
  fcheck_core a n b m p l h u v _ _ _ _ (fun w => cright_any a n ha w) (fun w => cright_any b m hb w) (fun w => by have c := fempty_any l h w; rw [show decide ((h : Int) < l) = decide (h < l) by rw [decide_eq_decide]; omega] at c; exact c) (fun w => by have c := fempty_any u v w; rw [show decide ((v : Int) < u) = decide (v < u) by rw [decide_eq_decide]; omega] at c; exact c) _ rfl w
theorem rfcheck_any (a : Nat) (n : Int) (b : Nat) (m p : Int) (l h u v : Nat) (ha : a < 4294967296) (hb : b < 4294967296) (w : World) :
    Calls Try.prog 18 #[fv a n b m p l h u v] w fun e w' => e = .returned (.int .i64 (chk (rightB a n) (rightB b m) p (decide (h < l)) (decide (v < u)))) ∧ Below w.heap.size w w' := by
  refine rfcheck_core a n b m p l h u v _ _ (fun w => rright_any a n ha w) (fun w => rright_any b m hb w) _ ?_ w
  show _ = _
  rw [show decide ((h : Int) < l) = decide (h < l) by rw [decide_eq_decide]; omega, show decide ((v : Int) < u) = decide (v < u) by rw [decide_eq_decide]; omega]
/-- Whether a header passes. -/
def passB (a : Nat) (n : Int) (b : Nat) (m p : Int) (l h u v d s q x y : Nat) : Bool := chasB a n d && chasB b m s && prB p q && inR l h x && inR u v y
theorem rfmatch_all (a : Nat) (n : Int) (b : Nat) (m p : Int) (l h u v d s q x y : Nat) (h1 : rightB a n = true) (h2 : rightB b m = true) (ha : a < 4294967296) (hb : b < 4294967296) (hd : d < 4294967296) (hs : s < 4294967296) (hq : q < 256) (w : World) :
    Calls Try.prog 19 #[fv a n b m p l h u v, hv d s q x y] w fun e w' => e = .returned (.bool (passB a n b m p l h u v d s q x y)) ∧ Below w.heap.size w w' := by
  refine rfmatch_core a n b m p l h u v d s q x y (by omega) _ _ (fun w => rhas_right a n d h1 ha hd w) (fun w => rhas_right b m s h2 hb hs w) _ ?_ w
  show _ = _
  unfold passB
  rw [inR_eq, inR_eq]
/-- The least protocol that passes. -/
def pq (p : Int) : Int := if p = -1 then 0 else p
set_option maxRecDepth 100000 in
set_option maxHeartbeats 1000000 in
theorem fsome_any (a n b m p l h u v : Int) (hp : p = -1 ∨ 0 ≤ p ∧ p ≤ 255) (w : World) :
    Calls Try.prog 62 #[fv a n b m p l h u v] w fun e w' => e = .returned (hv a b (pq p) l u) ∧ Below w.heap.size w w' := by
  unfold fv hv
  by_cases c : p = -1
  · subst c
    go_enter Try.func62, Try.ntmps62
    go_wp2
    refine bodyPost_ret (v := .agg #[.int .u32 a, .int .u32 b, .int .u8 0, .int .u16 l, .int .u16 u]) (by simp [results, Try.results62, go_sem]) rfl ⟨by simp [pq], ?_⟩
    repeat (first | exact Below.refl _ _ | refine cbelow_al ?_ _ | (refine Below.setCell ?_ (by first | exact Nat.le_refl _ | (simp; done) | (simp; omega)) _))
  · have c' : (p != -1) = true := by simp; exact c
    have cq : IntKind.u8.wrap p = p := by rw [IntKind.wrap_u8]; omega
    go_enter Try.func62, Try.ntmps62
    go_wp2
    refine bodyPost_ret (v := .agg #[.int .u32 a, .int .u32 b, .int .u8 p, .int .u16 l, .int .u16 u]) (by simp [results, Try.results62, go_sem]) rfl ⟨by simp [pq, c], ?_⟩
    repeat (first | exact Below.refl _ _ | refine cbelow_al ?_ _ | (refine Below.setCell ?_ (by first | exact Nat.le_refl _ | (simp; done) | (simp; omega)) _))
end Go.Proofs.Ytggcbklififcgab
/- The bits that all headers that pass a filter have. -/
namespace Go.Proofs.Ytggcbklififcgab
open Go.RowKit
set_option linter.unusedVariables false

theorem cells9 {w : World} {b : Nat} {c0 c1 c2 c3 c4 c5 c6 c7 c8 : Value} (h : Blk w b [c0, c1, c2, c3, c4, c5, c6, c7, c8]) : w.cell? ⟨b, 0, none⟩ = some c0 ∧ w.cell? ⟨b, 1, none⟩ = some c1 ∧ w.cell? ⟨b, 2, none⟩ = some c2 ∧ w.cell? ⟨b, 3, none⟩ = some c3 ∧ w.cell? ⟨b, 4, none⟩ = some c4 ∧ w.cell? ⟨b, 5, none⟩ = some c5 ∧ w.cell? ⟨b, 6, none⟩ = some c6 ∧ w.cell? ⟨b, 7, none⟩ = some c7 ∧ w.cell? ⟨b, 8, none⟩ = some c8 :=
  ⟨h.1 0 _ rfl, h.1 1 _ rfl, h.1 2 _ rfl, h.1 3 _ rfl, h.1 4 _ rfl, h.1 5 _ rfl, h.1 6 _ rfl, h.1 7 _ rfl, h.1 8 _ rfl⟩
theorem cells5 {w : World} {b : Nat} {c0 c1 c2 c3 c4 : Value} (h : Blk w b [c0, c1, c2, c3, c4]) : w.cell? ⟨b, 0, none⟩ = some c0 ∧ w.cell? ⟨b, 1, none⟩ = some c1 ∧ w.cell? ⟨b, 2, none⟩ = some c2 ∧ w.cell? ⟨b, 3, none⟩ = some c3 ∧ w.cell? ⟨b, 4, none⟩ = some c4 :=
  ⟨h.1 0 _ rfl, h.1 1 _ rfl, h.1 2 _ rfl, h.1 3 _ rfl, h.1 4 _ rfl⟩
theorem base_kb {W w : World} (h : Below W.heap.size W w) : Below W.heap.size W w ∧ ∀ b o, (W.cell? ⟨b, o, none⟩).isSome = true → w.cell? ⟨b, o, none⟩ = W.cell? ⟨b, o, none⟩ := below_kb h
set_option maxRecDepth 100000 in
set_option maxHeartbeats 8000000 in
theorem fixed_any (a kd b ks : Nat) (p : Int) (l h u v : Nat) (ha : a < 4294967296) (hb : b < 4294967296) (hkd : kd ≤ 32) (hks : ks ≤ 32) (hp : p = -1 ∨ 0 ≤ p ∧ p ≤ 255) (hany : p = -1) (bl : l < 65536) (bh : h < 65536) (bu : u < 65536) (bv : v < 65536) (qn : Nat) (hqn : pq p = (qn : Int)) (hq8 : qn < 256) (w : World) :
    Calls Try.prog 40 #[fv a (kd : Nat) b (ks : Nat) p l h u v] w fun e w' => ∃ x, e = .returned x ∧ Own w' w.heap.size x ((((fl a b qn l u 0 kd ++ fl a b qn l u 32 ks) ++ []) ++ fl a b qn l u 72 (16 - rn l h)) ++ fl a b qn l u 88 (16 - rn u v)) ∧ Below w.heap.size w w' := by
  have hhb : HB a b qn l u := ⟨ha, hb, hq8, bl, bu⟩
  have CS := Lib.hid (fun w => fsome_any a (kd : Nat) b (ks : Nat) p l h u v hp w)
  rw [hqn] at CS
  have CF := Lib.hid (fun (i n : Nat) (hin : i + n ≤ 104) (w : World) => first_own a b qn l u hhb i n hin w)
  have CM6 := Lib.hid (fun w => common_any l h bl bh w)
  have CM7 := Lib.hid (fun w => common_any u v bu bv w)
  have hpp : (p != -1) = false := by simp [hany]
  clear hqn hhb hp hany
  unfold fv
  go_enter Try.func40, Try.ntmps40
  go_upto_region 1 with fail
  refine at_code (S := fun W => Blk W w.heap.size (fc a (kd : Nat) b (ks : Nat) p l h u v) ∧ Below w.heap.size w W ∧ W.heap.size = w.heap.size + 1) ⟨Blk.new _ _ _, bel_al (Below.refl _ _) _, by simp⟩ (fun W1 hW => ?_)
  obtain ⟨hX, hbb, hz⟩ := hW
  obtain ⟨x_0, x_1, x_2, x_3, x_4, x_5, x_6, x_7, x_8⟩ := cells9 hX
  have X1 := Lib.hid hX
  have B1 := Lib.hid hbb
  clear hX hbb hz
  go_wp2_with fail
  unfold fv hv at CS
  refine (CS.out _).mono ?_
  rintro e wf ⟨rfl, hbf⟩
  have Bf := Lib.hid (bel_on' B1.out hbf)
  have Xf := Lib.hid (X1.out.on hbf)
  clear x_0 x_1 x_2 x_3 x_4 x_5 x_6 x_7 x_8 hbf X1 B1 CS
  go_upto_region 2 with fail
  refine at_code (S := fun W => Blk W wf.heap.size (hc a b qn l u) ∧ Below wf.heap.size wf W) ⟨Blk.new _ _ _, bel_al (Below.refl _ _) _⟩ (fun W2 hW => ?_)
  obtain ⟨hY, hbb⟩ := hW
  have X2 := Lib.hid (Xf.out.on hbb)
  have Y2 := Lib.hid hY
  have B2 := Lib.hid (bel_on' Bf.out hbb)
  obtain ⟨x_0, x_1, x_2, x_3, x_4, x_5, x_6, x_7, x_8⟩ := cells9 X2.out
  obtain ⟨y_0, y_1, y_2, y_3, y_4⟩ := cells5 Y2.out
  clear hY hbb Xf Bf
  unfold hv at CF
  go_wp2_with fail
  refine (CF.out 0 kd (by omega) _).mono ?_
  rintro e w3 ⟨v3, rfl, hO, hbx⟩
  have H3 := Lib.hid hbx
  have O3 := Lib.hid hO
  clear x_0 x_1 x_2 x_3 x_4 x_5 x_6 x_7 x_8 y_0 y_1 y_2 y_3 y_4 hO hbx
  obtain ⟨x_0, x_1, x_2, x_3, x_4, x_5, x_6, x_7, x_8⟩ := cells9 (X2.out.on H3.out)
  obtain ⟨y_0, y_1, y_2, y_3, y_4⟩ := cells5 (Y2.out.on H3.out)
  go_wp2_with fail
  refine (CF.out 32 ks (by omega) _).mono ?_
  rintro e wf4 ⟨vf, rfl, hO, hbx⟩
  have hbf := H3.out.trans (hbx.mono H3.out.size)
  obtain ⟨v4, w4, hr, hOc, hbc⟩ := app_own (O3.out.on hbx) (hO.base (base' := W2.heap.size) H3.out.size) (by simp only [fl_len]; omega) hbf.size
  have H4 := Lib.hid (hbf.trans hbc)
  have O4 := Lib.hid hOc
  clear x_0 x_1 x_2 x_3 x_4 x_5 x_6 x_7 x_8 y_0 y_1 y_2 y_3 y_4 hO hbx hbf hOc hbc
  go_wp2_with (at_builtin; refine wpList_app_run rfl _ _ 78 rfl rfl rfl hr ?_)
  intro w1 hw1
  obtain rfl := hw1.out
  clear hr hw1
  obtain ⟨x_0, x_1, x_2, x_3, x_4, x_5, x_6, x_7, x_8⟩ := cells9 X2.out
  obtain ⟨y_0, y_1, y_2, y_3, y_4⟩ := cells5 Y2.out
  have z_4 : w4.cell? ⟨w.heap.size, 4, none⟩ = some (.int .i64 p) := (X2.out.on H4.out).1 4 _ rfl
  have hn6 := rn_le bl bh
  have hn7 := rn_le bu bv
  go_upto_region 6 with fail
  refine wp_region_noPanic ?_
  refine wp_region_along (S := fun w' => Below W2.heap.size W2 w' ∧ ∀ b o, (W2.cell? ⟨b, o, none⟩).isSome = true → w'.cell? ⟨b, o, none⟩ = W2.cell? ⟨b, o, none⟩) ([(0, true), (1, true), (2, true), (3, true), (4, false), (5, false), (6, false), (7, true)]) (by kernel_rfl) (by as_aux_lemma => kernel_rfl) (by kernel_rfl) (by kernel_rfl) (by as_aux_lemma => kernel_rfl) (by as_aux_lemma => kernel_rfl) (fun _ _ _ _ _ h => h) (base_kb H4.out.drew) (fun hH => ?_)
  simp only [stepsOf, pickOp]
  iterate 4 (first | (refine along_skip (by rfl) ?_; try simp only [Act.put, List.setIfInBounds_toArray, List.set_cons_zero, List.set_cons_succ]) | (refine along_pure ?_ (by rfl) (fun w hSw => ?_) ?_; rotate_left; ((try dsimp only at hSw); go_simp; try with_reducible rfl); try simp only [Act.put, List.setIfInBounds_toArray, List.set_cons_zero, List.set_cons_succ]))
  refine along_bar (fun K hK => ?_)
  go_simp
  refine (CM6.out _).mono ?_
  rintro e wa ⟨rfl, hbx⟩
  try go_wp2_with fail
  refine hK.out _ _ (base_kb (hH.1.trans (hbx.mono hH.1.size))) (fun hH' => ?_)
  have Oa := Lib.hid ((O4.out.on (Below.refl _ _).drew).on hbx)
  clear hK K hH hbx
  have hH := hH'
  clear hH'
  try simp only [Act.put, List.setIfInBounds_toArray, List.set_cons_zero, List.set_cons_succ]
  refine along_bar (fun K hK => ?_)
  go_simp
  refine (CF.out 72 (16 - rn l h) (by omega) _).mono ?_
  rintro e wb ⟨vb, rfl, hO, hbx⟩
  try go_wp2_with fail
  refine hK.out _ _ (base_kb (hH.1.trans (hbx.mono hH.1.size))) (fun hH' => ?_)
  have Ob := Lib.hid (Oa.out.on hbx)
  have Nb := Lib.hid (hO.base (base' := W2.heap.size) hH.1.size)
  clear hK K hH hbx hO Oa
  have hH := hH'
  clear hH'
  try simp only [Act.put, List.setIfInBounds_toArray, List.set_cons_zero, List.set_cons_succ]
  obtain ⟨vc, wc, hr, hOc, hbc⟩ := app_own Ob.out Nb.out (by simp only [fl_len, List.length_append]; omega) hH.1.size
  have hHc := hH.1.trans hbc
  refine along_bar (fun K hK => ?_)
  refine wanted_then (by rfl) ?_
  refine wp_append_run _ _ 78 rfl rfl rfl hr ?_
  refine hK.out _ _ (base_kb hHc) (fun hH' => ?_)
  have O6 := Lib.hid hOc
  clear hK K hH hr hOc hbc hHc Ob Nb
  have hH := hH'
  clear hH'
  try simp only [Act.put, List.setIfInBounds_toArray, List.set_cons_zero, List.set_cons_succ]
  iterate 1 (first | (refine along_skip (by rfl) ?_; try simp only [Act.put, List.setIfInBounds_toArray, List.set_cons_zero, List.set_cons_succ]) | (refine along_pure ?_ (by rfl) (fun w hSw => ?_) ?_; rotate_left; ((try dsimp only at hSw); go_simp; try with_reducible rfl); try simp only [Act.put, List.setIfInBounds_toArray, List.set_cons_zero, List.set_cons_succ]))
  refine along_end (NoPanic.normal ?_)
  have H6 := Lib.hid hH.1
  clear hH
  go_upto_region 7 with fail
  refine wp_region_noPanic ?_
  refine wp_region_along (S := fun w' => Below W2.heap.size W2 w' ∧ ∀ b o, (W2.cell? ⟨b, o, none⟩).isSome = true → w'.cell? ⟨b, o, none⟩ = W2.cell? ⟨b, o, none⟩) ([(0, true), (1, true), (2, true), (3, true), (4, false), (5, false), (6, false), (7, true)]) (by kernel_rfl) (by as_aux_lemma => kernel_rfl) (by kernel_rfl) (by kernel_rfl) (by as_aux_lemma => kernel_rfl) (by as_aux_lemma => kernel_rfl) (fun _ _ _ _ _ h => h) (base_kb H6.out.drew) (fun hH => ?_)
  simp only [stepsOf, pickOp]
  iterate 4 (first | (refine along_skip (by rfl) ?_; try simp only [Act.put, List.setIfInBounds_toArray, List.set_cons_zero, List.set_cons_succ]) | (refine along_pure ?_ (by rfl) (fun w hSw => ?_) ?_; rotate_left; ((try dsimp only at hSw); go_simp; try with_reducible rfl); try simp only [Act.put, List.setIfInBounds_toArray, List.set_cons_zero, List.set_cons_succ]))
  refine along_bar (fun K hK => ?_)
  go_simp
  refine (CM7.out _).mono ?_
  rintro e wa ⟨rfl, hbx⟩
  try go_wp2_with fail
  refine hK.out _ _ (base_kb (hH.1.trans (hbx.mono hH.1.size))) (fun hH' => ?_)
  have Oa := Lib.hid ((O6.out.on (Below.refl _ _).drew).on hbx)
  clear hK K hH hbx
  have hH := hH'
  clear hH'
  try simp only [Act.put, List.setIfInBounds_toArray, List.set_cons_zero, List.set_cons_succ]
  refine along_bar (fun K hK => ?_)
  go_simp
  refine (CF.out 88 (16 - rn u v) (by omega) _).mono ?_
  rintro e wb ⟨vb, rfl, hO, hbx⟩
  try go_wp2_with fail
  refine hK.out _ _ (base_kb (hH.1.trans (hbx.mono hH.1.size))) (fun hH' => ?_)
  have Ob := Lib.hid (Oa.out.on hbx)
  have Nb := Lib.hid (hO.base (base' := W2.heap.size) hH.1.size)
  clear hK K hH hbx hO Oa
  have hH := hH'
  clear hH'
  try simp only [Act.put, List.setIfInBounds_toArray, List.set_cons_zero, List.set_cons_succ]
  obtain ⟨vc, wc, hr, hOc, hbc⟩ := app_own Ob.out Nb.out (by simp only [fl_len, List.length_append]; omega) hH.1.size
  have hHc := hH.1.trans hbc
  refine along_bar (fun K hK => ?_)
  refine wanted_then (by rfl) ?_
  refine wp_append_run _ _ 78 rfl rfl rfl hr ?_
  refine hK.out _ _ (base_kb hHc) (fun hH' => ?_)
  have O7 := Lib.hid hOc
  clear hK K hH hr hOc hbc hHc Ob Nb
  have hH := hH'
  clear hH'
  try simp only [Act.put, List.setIfInBounds_toArray, List.set_cons_zero, List.set_cons_succ]
  iterate 1 (first | (refine along_skip (by rfl) ?_; try simp only [Act.put, List.setIfInBounds_toArray, List.set_cons_zero, List.set_cons_succ]) | (refine along_pure ?_ (by rfl) (fun w hSw => ?_) ?_; rotate_left; ((try dsimp only at hSw); go_simp; try with_reducible rfl); try simp only [Act.put, List.setIfInBounds_toArray, List.set_cons_zero, List.set_cons_succ]))
  refine along_end (NoPanic.normal ?_)
  have FIN := Lib.hid (show Own _ w.heap.size _ _ ∧ Below w.heap.size w _ from ⟨O7.out.base B2.out.size, B2.out.trans (hH.1.mono B2.out.size)⟩)
  clear hH
  go_wp2
  go_ret
  exact ⟨_, rfl, (by rw [List.append_nil]; exact FIN.out.1), FIN.out.2⟩
set_option maxRecDepth 100000 in
set_option maxHeartbeats 8000000 in
theorem fixed_one (a kd b ks : Nat) (p : Int) (l h u v : Nat) (ha : a < 4294967296) (hb : b < 4294967296) (hkd : kd ≤ 32) (hks : ks ≤ 32) (hp : p = -1 ∨ 0 ≤ p ∧ p ≤ 255) (hany : p ≠ -1) (bl : l < 65536) (bh : h < 65536) (bu : u < 65536) (bv : v < 65536) (qn : Nat) (hqn : pq p = (qn : Int)) (hq8 : qn < 256) (w : World) :
    Calls Try.prog 40 #[fv a (kd : Nat) b (ks : Nat) p l h u v] w fun e w' => ∃ x, e = .returned x ∧ Own w' w.heap.size x ((((fl a b qn l u 0 kd ++ fl a b qn l u 32 ks) ++ fl a b qn l u 64 8) ++ fl a b qn l u 72 (16 - rn l h)) ++ fl a b qn l u 88 (16 - rn u v)) ∧ Below w.heap.size w w' := by
  have hhb : HB a b qn l u := ⟨ha, hb, hq8, bl, bu⟩
  have CS := Lib.hid (fun w => fsome_any a (kd : Nat) b (ks : Nat) p l h u v hp w)
  rw [hqn] at CS
  have CF := Lib.hid (fun (i n : Nat) (hin : i + n ≤ 104) (w : World) => first_own a b qn l u hhb i n hin w)
  have CM6 := Lib.hid (fun w => common_any l h bl bh w)
  have CM7 := Lib.hid (fun w => common_any u v bu bv w)
  have hpp : (p != -1) = true := by simp [hany]
  clear hqn hhb hp hany
  unfold fv
  go_enter Try.func40, Try.ntmps40
  go_upto_region 1 with fail
  refine at_code (S := fun W => Blk W w.heap.size (fc a (kd : Nat) b (ks : Nat) p l h u v) ∧ Below w.heap.size w W ∧ W.heap.size = w.heap.size + 1) ⟨Blk.new _ _ _, bel_al (Below.refl _ _) _, by simp⟩ (fun W1 hW => ?_)
  obtain ⟨hX, hbb, hz⟩ := hW
  obtain ⟨x_0, x_1, x_2, x_3, x_4, x_5, x_6, x_7, x_8⟩ := cells9 hX
  have X1 := Lib.hid hX
  have B1 := Lib.hid hbb
  clear hX hbb hz
  go_wp2_with fail
  unfold fv hv at CS
  refine (CS.out _).mono ?_
  rintro e wf ⟨rfl, hbf⟩
  have Bf := Lib.hid (bel_on' B1.out hbf)
  have Xf := Lib.hid (X1.out.on hbf)
  clear x_0 x_1 x_2 x_3 x_4 x_5 x_6 x_7 x_8 hbf X1 B1 CS
  go_upto_region 2 with fail
  refine at_code (S := fun W => Blk W wf.heap.size (hc a b qn l u) ∧ Below wf.heap.size wf W) ⟨Blk.new _ _ _, bel_al (Below.refl _ _) _⟩ (fun W2 hW => ?_)
  obtain ⟨hY, hbb⟩ := hW
  have X2 := Lib.hid (Xf.out.on hbb)
  have Y2 := Lib.hid hY
  have B2 := Lib.hid (bel_on' Bf.out hbb)
  obtain ⟨x_0, x_1, x_2, x_3, x_4, x_5, x_6, x_7, x_8⟩ := cells9 X2.out
  obtain ⟨y_0, y_1, y_2, y_3, y_4⟩ := cells5 Y2.out
  clear hY hbb Xf Bf
  unfold hv at CF
  go_wp2_with fail
  refine (CF.out 0 kd (by omega) _).mono ?_
  rintro e w3 ⟨v3, rfl, hO, hbx⟩
  have H3 := Lib.hid hbx
  have O3 := Lib.hid hO
  clear x_0 x_1 x_2 x_3 x_4 x_5 x_6 x_7 x_8 y_0 y_1 y_2 y_3 y_4 hO hbx
  obtain ⟨x_0, x_1, x_2, x_3, x_4, x_5, x_6, x_7, x_8⟩ := cells9 (X2.out.on H3.out)
  obtain ⟨y_0, y_1, y_2, y_3, y_4⟩ := cells5 (Y2.out.on H3.out)
  go_wp2_with fail
  refine (CF.out 32 ks (by omega) _).mono ?_
  rintro e wf4 ⟨vf, rfl, hO, hbx⟩
  have hbf := H3.out.trans (hbx.mono H3.out.size)
  obtain ⟨v4, w4, hr, hOc, hbc⟩ := app_own (O3.out.on hbx) (hO.base (base' := W2.heap.size) H3.out.size) (by simp only [fl_len]; omega) hbf.size
  have H4 := Lib.hid (hbf.trans hbc)
  have O4 := Lib.hid hOc
  clear x_0 x_1 x_2 x_3 x_4 x_5 x_6 x_7 x_8 y_0 y_1 y_2 y_3 y_4 hO hbx hbf hOc hbc
  go_wp2_with (at_builtin; refine wpList_app_run rfl _ _ 78 rfl rfl rfl hr ?_)
  intro w1 hw1
  obtain rfl := hw1.out
  clear hr hw1
  obtain ⟨x_0, x_1, x_2, x_3, x_4, x_5, x_6, x_7, x_8⟩ := cells9 (X2.out.on H4.out)
  obtain ⟨y_0, y_1, y_2, y_3, y_4⟩ := cells5 (Y2.out.on H4.out)
  go_wp2_with fail
  refine (CF.out 64 8 (by omega) _).mono ?_
  rintro e wf5 ⟨vf, rfl, hO, hbx⟩
  have hbf := H4.out.trans (hbx.mono H4.out.size)
  obtain ⟨v5, w5, hr, hOc, hbc⟩ := app_own (O4.out.on hbx) (hO.base (base' := W2.heap.size) H4.out.size) (by simp only [fl_len, List.length_append]; omega) hbf.size
  have H5 := Lib.hid (hbf.trans hbc)
  have O5 := Lib.hid hOc
  clear x_0 x_1 x_2 x_3 x_4 x_5 x_6 x_7 x_8 y_0 y_1 y_2 y_3 y_4 hO hbx hbf hOc hbc
  go_wp2_with (at_builtin; refine wpList_app_run rfl _ _ 78 rfl rfl rfl hr ?_)
  intro w1 hw1
  obtain rfl := hw1.out
  clear hr hw1
  obtain ⟨x_0, x_1, x_2, x_3, x_4, x_5, x_6, x_7, x_8⟩ := cells9 X2.out
  obtain ⟨y_0, y_1, y_2, y_3, y_4⟩ := cells5 Y2.out
  have hn6 := rn_le bl bh
  have hn7 := rn_le bu bv
  go_upto_region 6 with fail
  refine wp_region_noPanic ?_
  refine wp_region_along (S := fun w' => Below W2.heap.size W2 w' ∧ ∀ b o, (W2.cell? ⟨b, o, none⟩).isSome = true → w'.cell? ⟨b, o, none⟩ = W2.cell? ⟨b, o, none⟩) ([(0, true), (1, true), (2, true), (3, true), (4, false), (5, false), (6, false), (7, true)]) (by kernel_rfl) (by as_aux_lemma => kernel_rfl) (by kernel_rfl) (by kernel_rfl) (by as_aux_lemma => kernel_rfl) (by as_aux_lemma => kernel_rfl) (fun _ _ _ _ _ h => h) (base_kb H5.out.drew) (fun hH => ?_)
  simp only [stepsOf, pickOp]
  iterate 4 (first | (refine along_skip (by rfl) ?_; try simp only [Act.put, List.setIfInBounds_toArray, List.set_cons_zero, List.set_cons_succ]) | (refine along_pure ?_ (by rfl) (fun w hSw => ?_) ?_; rotate_left; ((try dsimp only at hSw); go_simp; try with_reducible rfl); try simp only [Act.put, List.setIfInBounds_toArray, List.set_cons_zero, List.set_cons_succ]))
  refine along_bar (fun K hK => ?_)
  go_simp
  refine (CM6.out _).mono ?_
  rintro e wa ⟨rfl, hbx⟩
  try go_wp2_with fail
  refine hK.out _ _ (base_kb (hH.1.trans (hbx.mono hH.1.size))) (fun hH' => ?_)
  have Oa := Lib.hid ((O5.out.on (Below.refl _ _).drew).on hbx)
  clear hK K hH hbx
  have hH := hH'
  clear hH'
  try simp only [Act.put, List.setIfInBounds_toArray, List.set_cons_zero, List.set_cons_succ]
  refine along_bar (fun K hK => ?_)
  go_simp
  refine (CF.out 72 (16 - rn l h) (by omega) _).mono ?_
  rintro e wb ⟨vb, rfl, hO, hbx⟩
  try go_wp2_with fail
  refine hK.out _ _ (base_kb (hH.1.trans (hbx.mono hH.1.size))) (fun hH' => ?_)
  have Ob := Lib.hid (Oa.out.on hbx)
  have Nb := Lib.hid (hO.base (base' := W2.heap.size) hH.1.size)
  clear hK K hH hbx hO Oa
  have hH := hH'
  clear hH'
  try simp only [Act.put, List.setIfInBounds_toArray, List.set_cons_zero, List.set_cons_succ]
  obtain ⟨vc, wc, hr, hOc, hbc⟩ := app_own Ob.out Nb.out (by simp only [fl_len, List.length_append]; omega) hH.1.size
  have hHc := hH.1.trans hbc
  refine along_bar (fun K hK => ?_)
  refine wanted_then (by rfl) ?_
  refine wp_append_run _ _ 78 rfl rfl rfl hr ?_
  refine hK.out _ _ (base_kb hHc) (fun hH' => ?_)
  have O6 := Lib.hid hOc
  clear hK K hH hr hOc hbc hHc Ob Nb
  have hH := hH'
  clear hH'
  try simp only [Act.put, List.setIfInBounds_toArray, List.set_cons_zero, List.set_cons_succ]
  iterate 1 (first | (refine along_skip (by rfl) ?_; try simp only [Act.put, List.setIfInBounds_toArray, List.set_cons_zero, List.set_cons_succ]) | (refine along_pure ?_ (by rfl) (fun w hSw => ?_) ?_; rotate_left; ((try dsimp only at hSw); go_simp; try with_reducible rfl); try simp only [Act.put, List.setIfInBounds_toArray, List.set_cons_zero, List.set_cons_succ]))
  refine along_end (NoPanic.normal ?_)
  have H6 := Lib.hid hH.1
  clear hH
  go_upto_region 7 with fail
  refine wp_region_noPanic ?_
  refine wp_region_along (S := fun w' => Below W2.heap.size W2 w' ∧ ∀ b o, (W2.cell? ⟨b, o, none⟩).isSome = true → w'.cell? ⟨b, o, none⟩ = W2.cell? ⟨b, o, none⟩) ([(0, true), (1, true), (2, true), (3, true), (4, false), (5, false), (6, false), (7, true)]) (by kernel_rfl) (by as_aux_lemma => kernel_rfl) (by kernel_rfl) (by kernel_rfl) (by as_aux_lemma => kernel_rfl) (by as_aux_lemma => kernel_rfl) (fun _ _ _ _ _ h => h) (base_kb H6.out.drew) (fun hH => ?_)
  simp only [stepsOf, pickOp]
  iterate 4 (first | (refine along_skip (by rfl) ?_; try simp only [Act.put, List.setIfInBounds_toArray, List.set_cons_zero, List.set_cons_succ]) | (refine along_pure ?_ (by rfl) (fun w hSw => ?_) ?_; rotate_left; ((try dsimp only at hSw); go_simp; try with_reducible rfl); try simp only [Act.put, List.setIfInBounds_toArray, List.set_cons_zero, List.set_cons_succ]))
  refine along_bar (fun K hK => ?_)
  go_simp
  refine (CM7.out _).mono ?_
  rintro e wa ⟨rfl, hbx⟩
  try go_wp2_with fail
  refine hK.out _ _ (base_kb (hH.1.trans (hbx.mono hH.1.size))) (fun hH' => ?_)
  have Oa := Lib.hid ((O6.out.on (Below.refl _ _).drew).on hbx)
  clear hK K hH hbx
  have hH := hH'
  clear hH'
  try simp only [Act.put, List.setIfInBounds_toArray, List.set_cons_zero, List.set_cons_succ]
  refine along_bar (fun K hK => ?_)
  go_simp
  refine (CF.out 88 (16 - rn u v) (by omega) _).mono ?_
  rintro e wb ⟨vb, rfl, hO, hbx⟩
  try go_wp2_with fail
  refine hK.out _ _ (base_kb (hH.1.trans (hbx.mono hH.1.size))) (fun hH' => ?_)
  have Ob := Lib.hid (Oa.out.on hbx)
  have Nb := Lib.hid (hO.base (base' := W2.heap.size) hH.1.size)
  clear hK K hH hbx hO Oa
  have hH := hH'
  clear hH'
  try simp only [Act.put, List.setIfInBounds_toArray, List.set_cons_zero, List.set_cons_succ]
  obtain ⟨vc, wc, hr, hOc, hbc⟩ := app_own Ob.out Nb.out (by simp only [fl_len, List.length_append]; omega) hH.1.size
  have hHc := hH.1.trans hbc
  refine along_bar (fun K hK => ?_)
  refine wanted_then (by rfl) ?_
  refine wp_append_run _ _ 78 rfl rfl rfl hr ?_
  refine hK.out _ _ (base_kb hHc) (fun hH' => ?_)
  have O7 := Lib.hid hOc
  clear hK K hH hr hOc hbc hHc Ob Nb
  have hH := hH'
  clear hH'
  try simp only [Act.put, List.setIfInBounds_toArray, List.set_cons_zero, List.set_cons_succ]
  iterate 1 (first | (refine along_skip (by rfl) ?_; try simp only [Act.put, List.setIfInBounds_toArray, List.set_cons_zero, List.set_cons_succ]) | (refine along_pure ?_ (by rfl) (fun w hSw => ?_) ?_; rotate_left; ((try dsimp only at hSw); go_simp; try with_reducible rfl); try simp only [Act.put, List.setIfInBounds_toArray, List.set_cons_zero, List.set_cons_succ]))
  refine along_end (NoPanic.normal ?_)
  have FIN := Lib.hid (show Own _ w.heap.size _ _ ∧ Below w.heap.size w _ from ⟨O7.out.base B2.out.size, B2.out.trans (hH.1.mono B2.out.size)⟩)
  clear hH
  go_wp2
  go_ret
  exact ⟨_, rfl, FIN.out.1, FIN.out.2⟩
end Go.Proofs.Ytggcbklififcgab
/- Prefixes and ranges, by headers' fields. No program in sight. -/
namespace Go.Proofs.Ytggcbklififcgab
set_option linter.unusedVariables false

theorem allB_fl {d s p x y a n : Nat} {e : Env} : allB (fl d s p x y a n) e = true ↔ ∀ i, i < n → e (a + i) = bt d s p x y ((a + i : Nat) : Int) := by
  unfold allB fl
  rw [List.all_eq_true]
  constructor
  · intro h i hi
    have := h (a + i, bt d s p x y ((a + i : Nat) : Int)) (List.mem_map.2 ⟨i, List.mem_range.2 hi, rfl⟩)
    rw [beq_iff_eq] at this
    exact this
  · intro h q hq
    obtain ⟨i, hi, rfl⟩ := List.mem_map.1 hq
    rw [beq_iff_eq]
    exact h i (List.mem_range.1 hi)
theorem fl_dst {A k d s p x y : Nat} (hA : A < 4294967296) (hk : k ≤ 32) (h : HB d s p x y) : allB (fl A A 0 0 0 0 k) (hE d s p x y) = decide (d / sz k = A / sz k) := by
  have hh : HB A A 0 0 0 := ⟨hA, hA, by omega, by omega, by omega⟩
  rw [Bool.eq_iff_iff, allB_fl, decide_eq_true_eq]
  unfold sz
  rw [← bits_div (k := k) (n := 32 - k) (by rw [show k + (32 - k) = 32 by omega]; exact h.d) (by rw [show k + (32 - k) = 32 by omega]; exact hA)]
  refine forall_congr' fun i => forall_congr' fun hik => ?_
  rw [Nat.zero_add, show k + (32 - k) - 1 - i = 31 - i by omega]
  show bt d s p x y (i : Nat) = bt A A 0 0 0 (i : Nat) ↔ _
  rw [bt_dst h (by omega), bt_dst hh (by omega)]
theorem fl_src {A k d s p x y : Nat} (hA : A < 4294967296) (hk : k ≤ 32) (h : HB d s p x y) : allB (fl A A 0 0 0 32 k) (hE d s p x y) = decide (s / sz k = A / sz k) := by
  have hh : HB A A 0 0 0 := ⟨hA, hA, by omega, by omega, by omega⟩
  rw [Bool.eq_iff_iff, allB_fl, decide_eq_true_eq]
  unfold sz
  rw [← bits_div (k := k) (n := 32 - k) (by rw [show k + (32 - k) = 32 by omega]; exact h.s) (by rw [show k + (32 - k) = 32 by omega]; exact hA)]
  refine forall_congr' fun i => forall_congr' fun hik => ?_
  rw [show k + (32 - k) - 1 - i = 31 - i by omega]
  show bt d s p x y ((32 + i : Nat) : Int) = bt A A 0 0 0 ((32 + i : Nat) : Int) ↔ _
  rw [bt_src h (by omega), bt_src hh (by omega)]
theorem rg_sp {lo hi d s p x y : Nat} (hlo : lo < 65536) (hhi : hi < 65536) (h : HB d s p x y) : rgP 72 lo hi (hE d s p x y) = decide (lo ≤ x ∧ x ≤ hi) := by
  have hn := rn_le hlo hhi
  have hh : HB 0 0 0 lo lo := ⟨by omega, by omega, by omega, hlo, hlo⟩
  have hv := pval_val (hE d s p x y) 72 x (fun i hi => bt_sp h hi) (rn lo hi) hn
  rw [Bool.eq_iff_iff, decide_eq_true_eq, ← rs_port hlo hhi h.x hn (rn_div hlo hhi)]
  unfold rgP rsP bdP
  rw [hv, Bool.and_eq_true, Bool.and_eq_true, allB_fl, if_pos rfl, if_neg (by decide), decide_eq_true_eq, decide_eq_true_eq, and_assoc]
  refine and_congr_right fun _ => and_congr_right fun _ => ?_
  rw [← bits_div (k := 16 - rn lo hi) (n := rn lo hi) (by rw [show 16 - rn lo hi + rn lo hi = 16 by omega]; exact h.x) (by rw [show 16 - rn lo hi + rn lo hi = 16 by omega]; exact hlo)]
  refine forall_congr' fun i => forall_congr' fun hik => ?_
  rw [show 16 - rn lo hi + rn lo hi - 1 - i = 15 - i by omega]
  show bt d s p x y ((72 + i : Nat) : Int) = bt 0 0 0 lo lo ((72 + i : Nat) : Int) ↔ _
  rw [bt_sp h (by omega), bt_sp hh (by omega)]
theorem rg_dp {lo hi d s p x y : Nat} (hlo : lo < 65536) (hhi : hi < 65536) (h : HB d s p x y) : rgP 88 lo hi (hE d s p x y) = decide (lo ≤ y ∧ y ≤ hi) := by
  have hn := rn_le hlo hhi
  have hh : HB 0 0 0 lo lo := ⟨by omega, by omega, by omega, hlo, hlo⟩
  have hv := pval_val (hE d s p x y) 88 y (fun i hi => bt_dp h hi) (rn lo hi) hn
  rw [Bool.eq_iff_iff, decide_eq_true_eq, ← rs_port hlo hhi h.y hn (rn_div hlo hhi)]
  unfold rgP rsP bdP
  rw [hv, Bool.and_eq_true, Bool.and_eq_true, allB_fl, if_pos rfl, if_neg (by decide), decide_eq_true_eq, decide_eq_true_eq, and_assoc]
  refine and_congr_right fun _ => and_congr_right fun _ => ?_
  rw [← bits_div (k := 16 - rn lo hi) (n := rn lo hi) (by rw [show 16 - rn lo hi + rn lo hi = 16 by omega]; exact h.y) (by rw [show 16 - rn lo hi + rn lo hi = 16 by omega]; exact hlo)]
  refine forall_congr' fun i => forall_congr' fun hik => ?_
  rw [show 16 - rn lo hi + rn lo hi - 1 - i = 15 - i by omega]
  show bt d s p x y ((88 + i : Nat) : Int) = bt 0 0 0 lo lo ((88 + i : Nat) : Int) ↔ _
  rw [bt_dp h (by omega), bt_dp hh (by omega)]
end Go.Proofs.Ytggcbklififcgab
/- Parts of ranges and prefixes, bit by bit. No program in sight. -/
namespace Go.Proofs.Ytggcbklififcgab
set_option linter.unusedVariables false

theorem pval_bit (e : Env) (a : Nat) : ∀ n j, n ≤ 16 → j < n → (pval e a n).testBit j = e (a + 15 - j)
  | 0, j, _, h => by omega
  | n + 1, j, hn, h => by
    have hlt := pval_lt e a n
    have hs : pval e a (n + 1) = (if e (a + 15 - n) then 1 else 0) * 2 ^ n + pval e a n := by
      rw [pval_succ]; split <;> omega
    rw [hs, tb_two (i := j) hlt]
    split
    · rename_i q; exact pval_bit e a n j (by omega) q
    · have : j = n := by omega
      subst this
      rw [Nat.sub_self]
      cases e (a + 15 - j) <;> rfl
theorem rg_env {lo hi : Nat} (hlo : lo < 65536) (hhi : hi < 65536) (e : Env) : rgP 88 lo hi e = decide (lo ≤ pval e 88 16 ∧ pval e 88 16 ≤ hi) := by
  have hn := rn_le hlo hhi
  have hx : pval e 88 16 < 65536 := pval_lt e 88 16
  have hh : HB 0 0 0 lo lo := ⟨by omega, by omega, by omega, hlo, hlo⟩
  have hb : ∀ i, i < 16 → e (88 + i) = (pval e 88 16).testBit (15 - i) := fun i hi => by
    rw [pval_bit e 88 16 (15 - i) (by omega) (by omega), show 88 + 15 - (15 - i) = 88 + i by omega]
  have hv := pval_val e 88 _ hb (rn lo hi) hn
  generalize pval e 88 16 = v at hx hb hv
  rw [Bool.eq_iff_iff, decide_eq_true_eq, ← rs_port hlo hhi hx hn (rn_div hlo hhi)]
  unfold rgP rsP bdP
  rw [hv, Bool.and_eq_true, Bool.and_eq_true, allB_fl, if_pos rfl, if_neg (by decide), decide_eq_true_eq, decide_eq_true_eq, and_assoc]
  refine and_congr_right fun _ => and_congr_right fun _ => ?_
  rw [← bits_div (k := 16 - rn lo hi) (n := rn lo hi) (by rw [show 16 - rn lo hi + rn lo hi = 16 by omega]; exact hx) (by rw [show 16 - rn lo hi + rn lo hi = 16 by omega]; exact hlo)]
  refine forall_congr' fun i => forall_congr' fun hik => ?_
  rw [show 16 - rn lo hi + rn lo hi - 1 - i = 15 - i by omega, bt_dp hh (by omega), hb i (by omega)]
theorem rg_or {lo at_ hi : Nat} (hlo : lo < 65536) (hat : at_ < 65535) (hhi : hi < 65536) (h1 : lo ≤ at_) (h2 : at_ < hi) (e : Env) : opB 1 (rgP 88 lo at_ e) (rgP 88 (at_ + 1) hi e) = rgP 88 lo hi e := by
  rw [rg_env hlo (by omega), rg_env (by omega) hhi, rg_env hlo hhi]
  show (_ || _) = _
  rw [Bool.eq_iff_iff, Bool.or_eq_true, decide_eq_true_eq, decide_eq_true_eq, decide_eq_true_eq]
  omega
theorem rg_and {lo at_ hi : Nat} (hlo : lo < 65536) (hat : at_ < 65535) (hhi : hi < 65536) (e : Env) : opB 0 (rgP 88 lo at_ e) (rgP 88 (at_ + 1) hi e) = false := by
  rw [rg_env hlo (by omega), rg_env (by omega) hhi]
  show (_ && _) = _
  rw [Bool.and_eq_false_iff, decide_eq_false_iff_not, decide_eq_false_iff_not]
  omega
/-- A prefix's halves. -/
theorem half_bit {A k : Nat} (hk : k < 32) (hr : A % 2 ^ (32 - k) = 0) : A.testBit (31 - k) = false := by
  have := congrArg (fun z => z.testBit (31 - k)) hr
  simp only [Nat.testBit_mod_two_pow, Nat.zero_testBit] at this
  rw [decide_eq_true (by omega), Bool.true_and] at this
  exact this
theorem half_up {A k : Nat} (hk : k < 32) (hr : A % 2 ^ (32 - k) = 0) (j : Nat) : (A + 2 ^ (31 - k)).testBit j = if j = 31 - k then true else A.testBit j := by
  have h1 : A = (A / 2 ^ (32 - k)) * 2 ^ (32 - k) := by
    have := Nat.div_add_mod A (2 ^ (32 - k)); rw [hr] at this; rw [Nat.mul_comm]; omega
  generalize A / 2 ^ (32 - k) = q at h1
  have h2 : A + 2 ^ (31 - k) = q * 2 ^ (32 - k) + 2 ^ (31 - k) := by omega
  have hlt : 2 ^ (31 - k) < 2 ^ (32 - k) := Nat.pow_lt_pow_right (by omega) (by omega)
  have h3 : A = q * 2 ^ (32 - k) + 0 := by omega
  rw [h2, tb_two (i := j) hlt, Nat.testBit_two_pow, h3, tb_two (i := j) (Nat.two_pow_pos _), Nat.zero_testBit]
  by_cases c : j = 31 - k
  · subst c; rw [if_pos (by omega), if_pos rfl]; simp
  · rw [if_neg c]
    by_cases c2 : j < 32 - k
    · rw [if_pos c2, if_pos c2]; simp; omega
    · rw [if_neg c2, if_neg c2]
theorem fl_half {A k : Nat} (hA : A < 4294967296) (hk : k < 32) (hr : A % 2 ^ (32 - k) = 0) : fl (A + 2 ^ (31 - k)) (A + 2 ^ (31 - k)) 0 0 0 0 k = fl A A 0 0 0 0 k ∧ A + 2 ^ (31 - k) < 4294967296 := by
  have hlt : A + 2 ^ (31 - k) < 2 ^ 32 := by
    have h1 : A = (A / 2 ^ (32 - k)) * 2 ^ (32 - k) := by
      have := Nat.div_add_mod A (2 ^ (32 - k)); rw [hr] at this; rw [Nat.mul_comm]; omega
    have h2 : (2 : Nat) ^ 32 = 2 ^ k * 2 ^ (32 - k) := by rw [← Nat.pow_add]; congr 1; omega
    have h3 : A / 2 ^ (32 - k) < 2 ^ k := by
      rw [Nat.div_lt_iff_lt_mul (Nat.two_pow_pos _), ← h2]; exact hA
    have h4 : (A / 2 ^ (32 - k) + 1) * 2 ^ (32 - k) ≤ 2 ^ k * 2 ^ (32 - k) := Nat.mul_le_mul_right _ h3
    have h5 : 2 ^ (31 - k) < 2 ^ (32 - k) := Nat.pow_lt_pow_right (by omega) (by omega)
    rw [Nat.add_mul, Nat.one_mul, ← h1, ← h2] at h4
    omega
  refine ⟨?_, hlt⟩
  unfold fl
  refine List.map_congr_left fun i hi => ?_
  rw [List.mem_range] at hi
  have g1 : HB (A + 2 ^ (31 - k)) (A + 2 ^ (31 - k)) 0 0 0 := ⟨hlt, hlt, by omega, by omega, by omega⟩
  have g2 : HB A A 0 0 0 := ⟨hA, hA, by omega, by omega, by omega⟩
  rw [Nat.zero_add, bt_dst g1 (by omega), bt_dst g2 (by omega), half_up hk hr, if_neg (by omega)]
theorem allB_snoc (l : List (Nat × Bool)) (p : Nat × Bool) (e : Env) : allB (l ++ [p]) e = (allB l e && (e p.1 == p.2)) := by
  unfold allB; rw [List.all_append]; simp
theorem half_xor {A k : Nat} (hA : A < 4294967296) (hk : k < 32) (hr : A % 2 ^ (32 - k) = 0) (e : Env) :
    opB 2 (allB (fl A A 0 0 0 0 (k + 1)) e) (allB (fl (A + 2 ^ (31 - k)) (A + 2 ^ (31 - k)) 0 0 0 0 (k + 1)) e) = allB (fl A A 0 0 0 0 k) e := by
  obtain ⟨h1, h2⟩ := fl_half hA hk hr
  have g1 : HB (A + 2 ^ (31 - k)) (A + 2 ^ (31 - k)) 0 0 0 := ⟨h2, h2, by omega, by omega, by omega⟩
  have g2 : HB A A 0 0 0 := ⟨hA, hA, by omega, by omega, by omega⟩
  rw [fl_succ, fl_succ, h1, allB_snoc, allB_snoc]
  simp only [Nat.zero_add]
  rw [bt_dst g1 hk, bt_dst g2 hk, half_up hk hr, if_pos rfl, half_bit hk hr]
  show (_ != _) = _
  cases allB (fl A A 0 0 0 0 k) e <;> cases e k <;> rfl
end Go.Proofs.Ytggcbklififcgab
