/- Headers by their words: With, Compare. -/
import Derived.Test.YtijfohoaeacncaaDoorH1
import Derived.Test.YtijfohoaeacncaaDoorHM
import Derived.Lib.Hide
import Derived.LoopN
import Derived.Deep.RegionHeld3
import Derived.Deep.DeepCutAuto
namespace Go.Proofs.YtijfohoaeacncaaDoor
open Go.RowKit
set_option linter.unusedVariables false

/-- Block b holds two u64 cells. -/
def Two (w : World) (b : Nat) (x y : Int) : Prop :=
  w.cell? ⟨b, 0, none⟩ = some (.int .u64 x) ∧ w.cell? ⟨b, 1, none⟩ = some (.int .u64 y) ∧ w.frozen? ⟨b, 0, none⟩ = false ∧ w.frozen? ⟨b, 1, none⟩ = false
theorem Two.later {B b : Nat} {w w' : World} {x y : Int} (h : Two w b x y) (hb : Below B w w') (hlt : b < B) : Two w' b x y :=
  ⟨(hb.cell (p := ⟨b, 0, none⟩) hlt).trans h.1, (hb.cell (p := ⟨b, 1, none⟩) hlt).trans h.2.1, (hb.frozen (p := ⟨b, 0, none⟩) hlt).trans h.2.2.1, (hb.frozen (p := ⟨b, 1, none⟩) hlt).trans h.2.2.2⟩
theorem Two.set {b : Nat} {w : World} {x y : Int} (h : Two w b x y) (x' y' : Int) : Two ((w.setCell ⟨b, 0, none⟩ (.int .u64 x')).setCell ⟨b, 1, none⟩ (.int .u64 y')) b x' y' := by
  obtain ⟨h0, h1, f0, f1⟩ := h
  refine ⟨?_, ?_, ?_, ?_⟩
  · rw [World.cell?_setCell_other _ _ _ _ (by simp)]; exact World.cell?_setCell_same _ _ _ h0
  · exact World.cell?_setCell_same _ _ _ (by rw [World.cell?_setCell_other _ _ _ _ (by simp)]; exact h1)
  · simp [f0]
  · simp [f1]
theorem Two.set_other {b b' : Nat} {w : World} {x y : Int} (h : Two w b x y) (hne : b ≠ b') (u v : Value) : Two ((w.setCell ⟨b', 0, none⟩ u).setCell ⟨b', 1, none⟩ v) b x y := by
  obtain ⟨h0, h1, f0, f1⟩ := h
  refine ⟨?_, ?_, ?_, ?_⟩
  · rw [World.cell?_setCell_far _ _ _ _ (by simp; omega), World.cell?_setCell_far _ _ _ _ (by simp; omega)]; exact h0
  · rw [World.cell?_setCell_far _ _ _ _ (by simp; omega), World.cell?_setCell_far _ _ _ _ (by simp; omega)]; exact h1
  · simp [f0]
  · simp [f1]
theorem cell_lt {w : World} {b o : Nat} (h : (w.cell? ⟨b, o, none⟩).isSome = true) : b < w.heap.size := by
  rcases Nat.lt_or_ge b w.heap.size with hb | hb
  · exact hb
  · have e : w.heap[b]? = none := Array.getElem?_eq_none hb
    simp [World.cell?, e] at h
/-- What is there stays, behind a call that turns nothing old. -/
theorem bsome {W w1 : World} (hb : Below W.heap.size W w1) : (∀ b o, (W.cell? ⟨b, o, none⟩).isSome = true → w1.cell? ⟨b, o, none⟩ = W.cell? ⟨b, o, none⟩) ∧ (∀ b o, (W.cell? ⟨b, o, none⟩).isSome = true → w1.frozen? ⟨b, o, none⟩ = W.frozen? ⟨b, o, none⟩) :=
  ⟨fun b o h => hb.cell (p := ⟨b, o, none⟩) (cell_lt h), fun b o h => hb.frozen (p := ⟨b, o, none⟩) (cell_lt h)⟩
theorem below_kb {W w : World} (h : Below W.heap.size W w) : Below W.heap.size W w ∧ ∀ b o, (W.cell? ⟨b, o, none⟩).isSome = true → w.cell? ⟨b, o, none⟩ = W.cell? ⟨b, o, none⟩ := ⟨h, (bsome h).1⟩
def cmpI (x y : Int) : Int := if x < y then -1 else if y < x then 1 else 0
set_option maxHeartbeats 400000 in
theorem ccmp_any (x y : Int) (w : World) :
    Calls Tryd.prog 42 #[.int .u64 x, .int .u64 y] w fun e w' => e = .returned (.int .i64 (cmpI x y)) ∧ w = w' := by
  unfold cmpI
  by_cases c1 : x < y
  · rw [if_pos c1]
    go_enter Tryd.func42, Tryd.ntmps42
    go_wp2
    go_ret
    exact ⟨rfl, rfl⟩
  · rw [if_neg c1]
    by_cases c2 : y < x
    · rw [if_pos c2]
      go_enter Tryd.func42, Tryd.ntmps42
      go_wp2
      go_ret
      exact ⟨rfl, rfl⟩
    · rw [if_neg c2]
      go_enter Tryd.func42, Tryd.ntmps42
      go_wp2
      go_ret
      exact ⟨rfl, rfl⟩
set_option maxHeartbeats 400000 in
theorem unpack_core (a b d s p x y : Int) (e1 : IntKind.u32.wrap (a / 4294967296) = d) (e2 : IntKind.u32.wrap a = s) (e3 : IntKind.u8.wrap (b / 4294967296) = p) (e4 : IntKind.u16.wrap (b / 65536) = x) (e5 : IntKind.u16.wrap b = y) (w : World) :
    Calls Tryd.prog 44 #[wv a b] w fun e w' => e = .returned (hv d s p x y) ∧ (w.alloc (.cells #[.int .u64 a, .int .u64 b] 73)).alloc (.cells #[.int .u32 d, .int .u32 s, .int .u8 p, .int .u16 x, .int .u16 y] 25) = w' := by
  go_enter Tryd.func44, Tryd.ntmps44
  go_wp2
  exact bodyPost_ret (v := hv d s p x y) (by simp [results, Tryd.results44, go_sem]) rfl ⟨rfl, rfl⟩
set_option maxHeartbeats 1000000 in
set_option maxRecDepth 4000 in
theorem with_core (d s p x y i a b m n a1 b1 a2 b2 d' s' p' x' y' : Int) (on : Bool)
    (hp : Hid (∀ w, Calls Tryd.prog 40 #[hv d s p x y] w fun e w' => e = .returned (wv a b) ∧ (w.alloc (.cells #[.int .u32 d, .int .u32 s, .int .u8 p, .int .u16 x, .int .u16 y] 25)).alloc (.cells #[.int .u64 a, .int .u64 b] 73) = w'))
    (hm : Hid (∀ w, Calls Tryd.prog 41 #[.int .i64 i] w fun e w' => e = .returned (wv m n) ∧ w.alloc (.cells #[.int .u64 m, .int .u64 n] 73) = w'))
    (hu : Hid (∀ w, Calls Tryd.prog 44 #[wv a2 b2] w fun e w' => e = .returned (hv d' s' p' x' y') ∧ (w.alloc (.cells #[.int .u64 a2, .int .u64 b2] 73)).alloc (.cells #[.int .u32 d', .int .u32 s', .int .u8 p', .int .u16 x', .int .u16 y'] 25) = w'))
    (q1 : bits .andNot .u64 a m = a1) (q2 : bits .andNot .u64 b n = b1) (q3 : (if on then bits .or .u64 a1 m else a1) = a2) (q4 : (if on then bits .or .u64 b1 n else b1) = b2) (w : World) :
    Calls Tryd.prog 15 #[hv d s p x y, .int .i64 i, .bool on] w fun e w' => e = .returned (hv d' s' p' x' y') ∧ Below w.heap.size w w' := by
  go_enter Tryd.func15, Tryd.ntmps15
  go_wp2_with fail
  refine (hp.out _).mono ?_
  rintro e w' ⟨rfl, rfl⟩
  go_wp2_with fail
  refine (hm.out _).mono ?_
  rintro e w' ⟨rfl, rfl⟩
  clear hp hm
  have x0 : ∀ w : World, (Instr.index 73 (wv m n) (.int .i64 0)).run Tryd.prog w = .ok (.int .u64 m) w := fun _ => by kernel_rfl
  have x1 : ∀ w : World, (Instr.index 73 (wv m n) (.int .i64 1)).run Tryd.prog w = .ok (.int .u64 n) w := fun _ => by kernel_rfl
  cases on
  · rw [if_neg (by simp)] at q3 q4
    subst q3 q4
    go_wp2_with fail
    refine wp_loop_rounds 3 ?_
    rw [rounds_succ]
    go_wp2_with fail
    rw [rounds_succ]
    go_wp2_with fail
    rw [rounds_succ]
    go_wp2_with fail
    refine (hu.out _).mono ?_
    rintro e w' ⟨rfl, rfl⟩
    clear hu x0 x1 q1 q2
    go_wp2
    exact bodyPost_ret (v := hv d' s' p' x' y') (by simp [results, Tryd.results15, go_sem]) rfl ⟨rfl, by repeat (first | exact Below.refl _ _ | refine below_al ?_ _ | (refine Below.setCell ?_ (by simp; omega) _))⟩
  · rw [if_pos rfl] at q3 q4
    go_wp2_with fail
    refine wp_loop_rounds 3 ?_
    rw [rounds_succ]
    go_wp2_with fail
    rw [rounds_succ]
    go_wp2_with fail
    rw [rounds_succ]
    go_wp2_with fail
    refine (hu.out _).mono ?_
    rintro e w' ⟨rfl, rfl⟩
    clear hu x0 x1 q1 q2 q3 q4
    go_wp2
    exact bodyPost_ret (v := hv d' s' p' x' y') (by simp [results, Tryd.results15, go_sem]) rfl ⟨rfl, by repeat (first | exact Below.refl _ _ | refine below_al ?_ _ | (refine Below.setCell ?_ (by simp; omega) _))⟩

end Go.Proofs.YtijfohoaeacncaaDoor
