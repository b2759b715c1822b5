/- Rules: which of two is asked first. -/
import Derived.Test.YtgcbngephokegaaK13
namespace Go.Proofs.Ytgcbngephokegaa
open Go.RowKit
set_option linter.unusedVariables false
set_option linter.unusedSimpArgs false

/-- A rule. -/
structure Ru where
  id : Int
  dev : Int
  a : Nat
  n : Int
  prio : Int
  out : Int
def Ru.cells (x : Ru) : List Value := [.int .i64 x.id, .int .i64 x.dev, .int .u32 (x.a : Nat), .int .i64 x.n, .int .i64 x.prio, .int .i64 x.out]
abbrev rv (x : Ru) : Value := .agg #[.int .i64 x.id, .int .i64 x.dev, .int .u32 (x.a : Nat), .int .i64 x.n, .int .i64 x.prio, .int .i64 x.out]
def cmpI (x y : Int) : Int := if x < y then -1 else if y < x then 1 else 0
def or3 (x y z : Int) : Int := if x ≠ 0 then x else if y ≠ 0 then y else z
def compR (x y : Ru) : Int := or3 (cmpI y.prio x.prio) (cmpI y.n x.n) (cmpI x.id y.id)
theorem nan_any (x : Int) (w : World) : Calls Try.prog 76 #[.int .i64 x] w fun e w' => e = .returned (.bool false) ∧ w' = w := by
  go_enter Try.func76, Try.ntmps76
  go_wp2
  go_ret
  exact ⟨rfl, rfl⟩
theorem ccmp_any (x y : Int) (w : World) : Calls Try.prog 63 #[.int .i64 x, .int .i64 y] w fun e w' => e = .returned (.int .i64 (cmpI x y)) ∧ w' = w := by
  have h := Lib.hid nan_any
  have key : x < y ∨ (¬ x < y ∧ y < x) ∨ (¬ x < y ∧ ¬ y < x) := by omega
  rcases key with h1 | ⟨h1, h2⟩ | ⟨h1, h2⟩
  · rw [show cmpI x y = -1 from if_pos h1]
    go_enter Try.func63, Try.ntmps63
    go_wp2_with fail
    refine (h.out x _).mono ?_
    rintro e w' ⟨rfl, rfl⟩
    go_wp2_with fail
    refine (h.out y _).mono ?_
    rintro e w' ⟨rfl, rfl⟩
    clear h
    go_wp2
    go_ret
    exact ⟨rfl, rfl⟩
  · rw [show cmpI x y = 1 by unfold cmpI; rw [if_neg h1, if_pos h2]]
    go_enter Try.func63, Try.ntmps63
    go_wp2_with fail
    refine (h.out x _).mono ?_
    rintro e w' ⟨rfl, rfl⟩
    go_wp2_with fail
    refine (h.out y _).mono ?_
    rintro e w' ⟨rfl, rfl⟩
    clear h
    go_wp2
    go_ret
    exact ⟨rfl, rfl⟩
  · rw [show cmpI x y = 0 by unfold cmpI; rw [if_neg h1, if_neg h2]]
    go_enter Try.func63, Try.ntmps63
    go_wp2_with fail
    refine (h.out x _).mono ?_
    rintro e w' ⟨rfl, rfl⟩
    go_wp2_with fail
    refine (h.out y _).mono ?_
    rintro e w' ⟨rfl, rfl⟩
    clear h
    go_wp2
    go_ret
    exact ⟨rfl, rfl⟩
theorem cor_any (x y z : Int) (b cap : Nat) (w : World) (hb : Blk w b [.int .i64 x, .int .i64 y, .int .i64 z]) : Calls Try.prog 62 #[.slice (some ⟨b, 0, none⟩) 3 cap] w fun e w' => e = .returned (.int .i64 (or3 x y z)) ∧ w' = w := by
  have c0 := hb.1 0 _ rfl
  have c1 := hb.1 1 _ rfl
  have c2 := hb.1 2 _ rfl
  have key : x ≠ 0 ∨ (x = 0 ∧ y ≠ 0) ∨ (x = 0 ∧ y = 0 ∧ z ≠ 0) ∨ (x = 0 ∧ y = 0 ∧ z = 0) := by omega
  clear hb
  rcases key with h1 | ⟨rfl, h2⟩ | ⟨rfl, rfl, h3⟩ | ⟨rfl, rfl, rfl⟩
  · rw [show or3 x y z = x from if_pos h1]
    go_enter Try.func62, Try.ntmps62
    go_wp2_with fail
    refine wp_loop_rounds 4 ?_
    rw [rounds_succ]
    go_wp2
    go_ret
    exact ⟨rfl, rfl⟩
  · rw [show or3 0 y z = y by unfold or3; rw [if_neg (by simp), if_pos h2]]
    go_enter Try.func62, Try.ntmps62
    go_wp2_with fail
    refine wp_loop_rounds 4 ?_
    rw [rounds_succ]
    go_wp2_with fail
    rw [rounds_succ]
    go_wp2
    go_ret
    exact ⟨rfl, rfl⟩
  · rw [show or3 0 0 z = z by unfold or3; simp]
    go_enter Try.func62, Try.ntmps62
    go_wp2_with fail
    refine wp_loop_rounds 4 ?_
    rw [rounds_succ]
    go_wp2_with fail
    rw [rounds_succ]
    go_wp2_with fail
    rw [rounds_succ]
    go_wp2
    go_ret
    exact ⟨rfl, rfl⟩
  · rw [show or3 0 0 0 = 0 by decide]
    go_enter Try.func62, Try.ntmps62
    go_wp2_with fail
    refine wp_loop_rounds 4 ?_
    rw [rounds_succ]
    go_wp2_with fail
    rw [rounds_succ]
    go_wp2_with fail
    rw [rounds_succ]
    go_wp2_with fail
    rw [rounds_succ]
    go_wp2
    go_ret
    exact ⟨rfl, rfl⟩
set_option maxRecDepth 100000 in
set_option maxHeartbeats 1000000 in
theorem compare_any (x y : Ru) (W : World) : Calls Try.prog 40 #[rv x, rv y] W fun e w' => e = .returned (.int .i64 (compR x y)) ∧ Below W.heap.size W w' := by
  have H1 := Lib.hid (fun w => ccmp_any y.prio x.prio w)
  have H2 := Lib.hid (fun w => ccmp_any y.n x.n w)
  have H3 := Lib.hid (fun w => ccmp_any x.id y.id w)
  have H4 := Lib.hid (fun b cap w hb => cor_any (cmpI y.prio x.prio) (cmpI y.n x.n) (cmpI x.id y.id) b cap w hb)
  unfold compR
  generalize cmpI y.prio x.prio = k1 at H1 H4 ⊢
  generalize cmpI y.n x.n = k2 at H2 H4 ⊢
  generalize cmpI x.id y.id = k3 at H3 H4 ⊢
  go_enter Try.func40, Try.ntmps40
  go_upto_region 1 with fail
  refine at_code (S := fun w => Blk w W.heap.size x.cells ∧ Blk w (W.heap.size + 1) y.cells ∧ Below W.heap.size W w) ⟨?_, ?_, ?_⟩ (fun W0 h0 => ?_)
  · exact (Blk.new W _ x.cells).on (bel_al (Below.refl _ _) _)
  · have := Blk.new (W.alloc (.cells x.cells.toArray 57)) 57 y.cells
    rw [World.size_alloc] at this
    exact this
  · exact bel_on' (bel_al (Below.refl _ _) _) (bel_al (Below.refl _ _) _)
  have x_0 := h0.1.1 0 _ rfl
  have x_3 := h0.1.1 3 _ rfl
  have x_4 := h0.1.1 4 _ rfl
  have y_0 := h0.2.1.1 0 _ rfl
  have y_3 := h0.2.1.1 3 _ rfl
  have y_4 := h0.2.1.1 4 _ rfl
  have B0 := Lib.hid h0.2.2
  clear h0
  go_region_held3 (fun w' => Below W0.heap.size W0 w' ∧ ∀ b o, (W0.cell? ⟨b, o, none⟩).isSome = true → w'.cell? ⟨b, o, none⟩ = W0.cell? ⟨b, o, none⟩)
    ((refine ckeep ?_; repeat (first | exact Below.refl _ _ | assumption | refine Below.drew ?_ | refine cbelow_al ?_ _ | (refine Below.setCell ?_ (by simp; omega) _))))
    (first | (go_at_call 63; (with_reducible refine (H1.out _).mono ?_); rintro e w' ⟨rfl, rfl⟩) | (go_at_call 63; (with_reducible refine (H2.out _).mono ?_); rintro e w' ⟨rfl, rfl⟩) | (go_at_call 63; (with_reducible refine (H3.out _).mono ?_); rintro e w' ⟨rfl, rfl⟩) | (go_at_call 62; (with_reducible refine (H4.out _ _ _ (Blk.drew (Blk.new _ _ _))).mono ?_); rintro e w' ⟨rfl, rfl⟩))
  all_goals (rename_i hH; have HB := Lib.hid hH.1; clear hH; go_wp2_with fail; go_ret; exact ⟨rfl, bel_on' B0.out HB.out⟩)
def aheadB (x y : Ru) : Bool := if x.prio ≠ y.prio then decide (y.prio < x.prio) else if x.n ≠ y.n then decide (y.n < x.n) else decide (x.id < y.id)
theorem compR_lt (x y : Ru) : compR x y < 0 ↔ aheadB x y = true := by
  unfold compR or3 cmpI aheadB
  (repeat' split) <;> simp_all <;> omega
theorem compR_neg (x y : Ru) : compR y x = - compR x y := by
  unfold compR or3 cmpI
  (repeat' split) <;> omega
theorem compR_self (x : Ru) : compR x x = 0 := by
  unfold compR or3 cmpI; simp
theorem compR_zero (x y : Ru) : compR x y = 0 ↔ x.prio = y.prio ∧ x.n = y.n ∧ x.id = y.id := by
  unfold compR or3 cmpI
  (repeat' split) <;> omega
theorem compR_lex (x y : Ru) : compR x y < 0 ↔ y.prio < x.prio ∨ (y.prio = x.prio ∧ (y.n < x.n ∨ (y.n = x.n ∧ x.id < y.id))) := by
  unfold compR or3 cmpI
  (repeat' split) <;> omega
theorem compR_trans (x y z : Ru) (h1 : compR x y < 0) (h2 : compR y z < 0) : compR x z < 0 := by
  rw [compR_lex] at *
  omega
set_option maxRecDepth 100000 in
theorem ahead_any (x y : Ru) (W : World) : Calls Try.prog 54 #[rv x, rv y] W fun e w' => e = .returned (.bool (aheadB x y)) ∧ Below W.heap.size W w' := by
  have key : x.prio ≠ y.prio ∨ (x.prio = y.prio ∧ x.n ≠ y.n) ∨ (x.prio = y.prio ∧ x.n = y.n) := by omega
  have hS : ∀ w, w = (W.alloc (.cells x.cells.toArray 57)).alloc (.cells y.cells.toArray 57) → Blk w W.heap.size x.cells ∧ Blk w (W.heap.size + 1) y.cells ∧ Below W.heap.size W w := fun w hw => by
    subst hw
    refine ⟨(Blk.new W _ x.cells).on (bel_al (Below.refl _ _) _), ?_, bel_on' (bel_al (Below.refl _ _) _) (bel_al (Below.refl _ _) _)⟩
    have := Blk.new (W.alloc (.cells x.cells.toArray 57)) 57 y.cells
    rw [World.size_alloc] at this
    exact this
  go_enter Try.func54, Try.ntmps54
  go_upto_region 1 with fail
  refine at_code (S := fun w => Blk w W.heap.size x.cells ∧ Blk w (W.heap.size + 1) y.cells ∧ Below W.heap.size W w) (hS _ rfl) (fun W0 h0 => ?_)
  have x_0 := h0.1.1 0 _ rfl
  have x_3 := h0.1.1 3 _ rfl
  have x_4 := h0.1.1 4 _ rfl
  have y_0 := h0.2.1.1 0 _ rfl
  have y_3 := h0.2.1.1 3 _ rfl
  have y_4 := h0.2.1.1 4 _ rfl
  have B0 := Lib.hid h0.2.2
  clear h0 hS
  rcases key with h | ⟨h1, h⟩ | ⟨h1, h⟩
  · have e1 : (x.prio == y.prio) = false := by simp [h]
    have ea := Lib.hid (show aheadB x y = decide (y.prio < x.prio) from if_pos h)
    go_wp2
    go_ret
    exact ⟨cret_bool ea.out.symm, B0.out⟩
  · have e1 : (x.prio == y.prio) = true := by simp [h1]
    have e2 : (x.n == y.n) = false := by simp [h]
    have ea := Lib.hid (show aheadB x y = decide (y.n < x.n) by unfold aheadB; rw [if_neg (by simp [h1]), if_pos h])
    clear h1
    go_wp2
    go_ret
    exact ⟨cret_bool ea.out.symm, B0.out⟩
  · have e1 : (x.prio == y.prio) = true := by simp [h1]
    have e2 : (x.n == y.n) = true := by simp [h]
    have ea := Lib.hid (show aheadB x y = decide (x.id < y.id) by unfold aheadB; rw [if_neg (by simp [h1]), if_neg (by simp [h])])
    clear h1 h
    go_wp2
    go_ret
    exact ⟨cret_bool ea.out.symm, B0.out⟩
end Go.Proofs.Ytgcbngephokegaa
