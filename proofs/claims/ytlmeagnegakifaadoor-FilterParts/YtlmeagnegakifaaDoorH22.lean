/- What numbers answers: three numbers of three words, or what is wrong first. -/
import Derived.Test.YtlmeagnegakifaaDoorH19
import Derived.Test.YtlmeagnegakifaaDoorKept
import Derived.LoopN
namespace Go.Proofs.YtlmeagnegakifaaDoor
open Go.RowKit
set_option linter.unusedVariables false

/-- Three numbers, or what is wrong first. -/
def num3 (z0 z1 z2 : Nat × Int) : (Nat × Nat × Nat) × Int := if z0.2 = 0 then (if z1.2 = 0 then (if z2.2 = 0 then ((z0.1, z1.1, z2.1), 0) else ((0, 0, 0), z2.2)) else ((0, 0, 0), z1.2)) else ((0, 0, 0), z0.2)
def N3Ret (T : (Nat × Nat × Nat) × Int) (w : World) (e : Ending) (w' : World) : Prop := e = .returned (.tuple #[.agg #[.int .i64 T.1.1, .int .i64 T.1.2.1, .int .i64 T.1.2.2], .int .i64 T.2]) ∧ Below w.heap.size w w'
theorem keepS {w w' : World} {g j : Nat} {x : ByteArray} (h : w.cell? ⟨g, j, none⟩ = some (.string x)) (hb : Below w.heap.size w w') : w'.cell? ⟨g, j, none⟩ = some (.string x) :=
  (hb.cell (p := ⟨g, j, none⟩) (by
    rcases Nat.lt_or_ge g w.heap.size with h1 | h1
    · exact h1
    · simp [World.cell?, Array.getElem?_eq_none h1] at h)).trans h
/-- Block b holds three ints, free to be written. -/
def Tri (w : World) (b : Nat) (u v x : Int) : Prop := (w.cell? ⟨b, 0, none⟩ = some (.int .i64 u) ∧ w.cell? ⟨b, 1, none⟩ = some (.int .i64 v) ∧ w.cell? ⟨b, 2, none⟩ = some (.int .i64 x)) ∧ w.frozen? ⟨b, 0, none⟩ = false ∧ w.frozen? ⟨b, 1, none⟩ = false ∧ w.frozen? ⟨b, 2, none⟩ = false
theorem Tri.lt {w : World} {b : Nat} {u v x : Int} (h : Tri w b u v x) : b < w.heap.size := by
  rcases Nat.lt_or_ge b w.heap.size with h1 | h1
  · exact h1
  · have := h.1.1; simp [World.cell?, Array.getElem?_eq_none h1] at this
theorem Tri.on {w w' : World} {b : Nat} {u v x : Int} (h : Tri w b u v x) (hb : Below w.heap.size w w') : Tri w' b u v x := by
  have hl := h.lt
  obtain ⟨⟨h0, h1, h2⟩, f0, f1, f2⟩ := h
  exact ⟨⟨(hb.cell (p := ⟨b, 0, none⟩) hl).trans h0, (hb.cell (p := ⟨b, 1, none⟩) hl).trans h1, (hb.cell (p := ⟨b, 2, none⟩) hl).trans h2⟩, (hb.frozen (p := ⟨b, 0, none⟩) hl).trans f0, (hb.frozen (p := ⟨b, 1, none⟩) hl).trans f1, (hb.frozen (p := ⟨b, 2, none⟩) hl).trans f2⟩
theorem Tri.far {w : World} {b : Nat} {u v x : Int} (h : Tri w b u v x) (p : Addr) (y : Value) (hp : p.block ≠ b) : Tri (w.setCell p y) b u v x := by
  obtain ⟨⟨h0, h1, h2⟩, f0, f1, f2⟩ := h
  refine ⟨⟨?_, ?_, ?_⟩, by simp [f0], by simp [f1], by simp [f2]⟩
  all_goals rw [World.cell?_setCell_far _ _ _ _ (by exact hp)]
  all_goals assumption
theorem Tri.s0 {w : World} {b : Nat} {u v x : Int} (h : Tri w b u v x) (y : Int) : Tri (w.setCell ⟨b, 0, none⟩ (.int .i64 y)) b y v x := by
  obtain ⟨⟨h0, h1, h2⟩, f0, f1, f2⟩ := h
  exact ⟨⟨World.cell?_setCell_same _ _ _ h0, by rw [World.cell?_setCell_other _ _ _ _ (by simp)]; exact h1, by rw [World.cell?_setCell_other _ _ _ _ (by simp)]; exact h2⟩, by simp [f0], by simp [f1], by simp [f2]⟩
theorem Tri.s1 {w : World} {b : Nat} {u v x : Int} (h : Tri w b u v x) (y : Int) : Tri (w.setCell ⟨b, 1, none⟩ (.int .i64 y)) b u y x := by
  obtain ⟨⟨h0, h1, h2⟩, f0, f1, f2⟩ := h
  exact ⟨⟨by rw [World.cell?_setCell_other _ _ _ _ (by simp)]; exact h0, World.cell?_setCell_same _ _ _ h1, by rw [World.cell?_setCell_other _ _ _ _ (by simp)]; exact h2⟩, by simp [f0], by simp [f1], by simp [f2]⟩
theorem Tri.s2 {w : World} {b : Nat} {u v x : Int} (h : Tri w b u v x) (y : Int) : Tri (w.setCell ⟨b, 2, none⟩ (.int .i64 y)) b u v y := by
  obtain ⟨⟨h0, h1, h2⟩, f0, f1, f2⟩ := h
  exact ⟨⟨by rw [World.cell?_setCell_other _ _ _ _ (by simp)]; exact h0, by rw [World.cell?_setCell_other _ _ _ _ (by simp)]; exact h1, World.cell?_setCell_same _ _ _ h2⟩, by simp [f0], by simp [f1], by simp [f2]⟩
theorem str_far {w : World} {g j : Nat} {x : ByteArray} (h : w.cell? ⟨g, j, none⟩ = some (.string x)) (p : Addr) (y : Value) (hp : p.block ≠ g) : (w.setCell p y).cell? ⟨g, j, none⟩ = some (.string x) := by
  rw [World.cell?_setCell_far _ _ _ _ (by exact hp)]; exact h
set_option maxRecDepth 4000 in
set_option maxHeartbeats 4000000 in
theorem nums3_core (x0 x1 x2 : ByteArray) (z0 z1 z2 : Nat × Int) (g cap : Nat) (hcap : 3 ≤ cap)
    (N0 : Hid (∀ w, Calls Tryd.prog 20 #[.string x0, .int .i64 255] w fun e w' => e = .returned (.tuple #[.int .i64 z0.1, .int .i64 z0.2]) ∧ Below w.heap.size w w'))
    (N1 : Hid (∀ w, Calls Tryd.prog 20 #[.string x1, .int .i64 65535] w fun e w' => e = .returned (.tuple #[.int .i64 z1.1, .int .i64 z1.2]) ∧ Below w.heap.size w w'))
    (N2 : Hid (∀ w, Calls Tryd.prog 20 #[.string x2, .int .i64 65535] w fun e w' => e = .returned (.tuple #[.int .i64 z2.1, .int .i64 z2.2]) ∧ Below w.heap.size w w'))
    (w : World) (c0 : w.cell? ⟨g, 2, none⟩ = some (.string x0)) (c1 : w.cell? ⟨g, 3, none⟩ = some (.string x1)) (c2 : w.cell? ⟨g, 4, none⟩ = some (.string x2)) :
    Calls Tryd.prog 48 #[.slice (some ⟨g, 2, none⟩) 3 cap] w (N3Ret (num3 z0 z1 z2) w) := by
  obtain ⟨T, hT⟩ : ∃ T, num3 z0 z1 z2 = T := ⟨_, rfl⟩
  rw [hT]
  have HT := Lib.hid hT
  clear hT
  obtain ⟨n0, e0⟩ := z0
  obtain ⟨n1, e1⟩ := z1
  obtain ⟨n2, e2⟩ := z2
  simp only at N0 N1 N2
  have x0' : ∀ w : World, (Instr.index 82 (.agg #[.int .i64 255, .int .i64 65535, .int .i64 65535]) (.int .i64 0)).run Tryd.prog w = .ok (.int .i64 255) w := fun _ => by kernel_rfl
  have x1' : ∀ w : World, (Instr.index 82 (.agg #[.int .i64 255, .int .i64 65535, .int .i64 65535]) (.int .i64 1)).run Tryd.prog w = .ok (.int .i64 65535) w := fun _ => by kernel_rfl
  have x2' : ∀ w : World, (Instr.index 82 (.agg #[.int .i64 255, .int .i64 65535, .int .i64 65535]) (.int .i64 2)).run Tryd.prog w = .ok (.int .i64 65535) w := fun _ => by kernel_rfl
  have hgw : g < w.heap.size := by
    rcases Nat.lt_or_ge g w.heap.size with h1 | h1
    · exact h1
    · simp [World.cell?, Array.getElem?_eq_none h1] at c0
  have g1 : ¬ g = w.heap.size := by omega
  have g2 : ¬ g = w.heap.size + 1 := by omega
  have g3 : ¬ g = w.heap.size + 1 + 1 := by omega
  have g1' : ¬ w.heap.size = g := by omega
  have g2' : ¬ w.heap.size + 1 = g := by omega
  have g3' : ¬ w.heap.size + 1 + 1 = g := by omega
  have g4 : g < w.heap.size + 1 := by omega
  have g5 : g < w.heap.size + 1 + 1 := by omega
  go_enter Tryd.func48, Tryd.ntmps48
  go_wp2_with fail
  refine wp_loop_rounds 4 ?_
  rw [rounds_succ]
  go_wp2_with fail
  refine (N0.out _).mono ?_
  rintro e w1 ⟨rfl, hb1⟩
  obtain ⟨W0, hW0⟩ : ∃ W0, ((w.alloc (Obj.cells #[.int .i64 0, .int .i64 0, .int .i64 0] 82)).alloc (Obj.cells #[.int .i64 255, .int .i64 65535, .int .i64 65535] 82)).alloc (Obj.cells #[.int .i64 0, .int .i64 0, .int .i64 0] 82) = W0 := ⟨_, rfl⟩
  rw [hW0] at hb1
  have hBW : Below w.heap.size w W0 := by rw [← hW0]; exact below_al (below_al (below_al (Below.refl _ _) _) _) _
  have t2 : Tri W0 w.heap.size 0 0 0 := by rw [← hW0]; exact ⟨⟨by simp [go_sem], by simp [go_sem], by simp [go_sem]⟩, by simp [go_sem], by simp [go_sem], by simp [go_sem]⟩
  have t5 : Tri W0 (w.heap.size + 1 + 1) 0 0 0 := by rw [← hW0]; exact ⟨⟨by simp [go_sem], by simp [go_sem], by simp [go_sem]⟩, by simp [go_sem], by simp [go_sem], by simp [go_sem]⟩
  have B1 := Lib.hid (below_on hBW hb1)
  have R1 := Lib.hid (t2.on hb1)
  have O1 := Lib.hid (t5.on hb1)
  have d1 := keepS (keepS c1 hBW) hb1
  have d2 := keepS (keepS c2 hBW) hb1
  clear hb1 hW0 hBW t2 t5 c0 c1 c2
  by_cases q0 : e0 = 0
  · subst q0
    obtain ⟨⟨o0, o1, o2⟩, of0, of1, of2⟩ := O1.out
    have hz1 := O1.out.lt
    go_wp2_with fail
    rw [rounds_succ]
    go_wp2_with fail
    refine (N1.out _).mono ?_
    rintro e w2 ⟨rfl, hb2⟩
    have BW := B1.out.setCell (p := ⟨w.heap.size + 1 + 1, 0, none⟩) (by show w.heap.size ≤ w.heap.size + 1 + 1; omega) (.int .i64 (n0 : Int))
    have B2 := Lib.hid (below_on BW hb2)
    have R2 := Lib.hid ((R1.out.far ⟨w.heap.size + 1 + 1, 0, none⟩ (.int .i64 (n0 : Int)) (by show w.heap.size + 1 + 1 ≠ w.heap.size; omega)).on hb2)
    have O2 := Lib.hid ((O1.out.s0 (n0 : Int)).on hb2)
    have d2' := keepS (str_far d2 ⟨w.heap.size + 1 + 1, 0, none⟩ (.int .i64 (n0 : Int)) (by show w.heap.size + 1 + 1 ≠ g; omega)) hb2
    clear hb2 BW o0 o1 o2 of0 of1 of2 R1 O1 B1 d1 d2
    by_cases q1 : e1 = 0
    · subst q1
      obtain ⟨⟨o0, o1, o2⟩, of0, of1, of2⟩ := O2.out
      go_wp2_with fail
      rw [rounds_succ]
      go_wp2_with fail
      refine (N2.out _).mono ?_
      rintro e w3 ⟨rfl, hb3⟩
      have BW := B2.out.setCell (p := ⟨w.heap.size + 1 + 1, 1, none⟩) (by show w.heap.size ≤ w.heap.size + 1 + 1; omega) (.int .i64 (n1 : Int))
      have B3 := Lib.hid (below_on BW hb3)
      have R3 := Lib.hid ((R2.out.far ⟨w.heap.size + 1 + 1, 1, none⟩ (.int .i64 (n1 : Int)) (by show w.heap.size + 1 + 1 ≠ w.heap.size; omega)).on hb3)
      have O3 := Lib.hid ((O2.out.s1 (n1 : Int)).on hb3)
      clear hb3 BW o0 o1 o2 of0 of1 of2 R2 O2 B2 d2'
      by_cases q2 : e2 = 0
      · subst q2
        have HT0 : Hid (T = ((n0, n1, n2), 0)) := by show _ = _; rw [← HT.out]; rfl
        obtain ⟨⟨o0, o1, o2⟩, of0, of1, of2⟩ := O3.out
        obtain ⟨⟨r0, r1, r2⟩, rf0, rf1, rf2⟩ := R3.out
        have BX := B3.out
        go_wp2_with fail
        rw [rounds_succ]
        go_wp2_with fail
        refine bodyPost_ret (v := .tuple #[.agg #[.int .i64 n0, .int .i64 n1, .int .i64 n2], .int .i64 0]) (by simp [results, Tryd.results48, go_sem, r0, r1, r2]) rfl ⟨?_, ?_⟩
        · rw [HT0.out]
        · repeat (first | exact BX | (refine Below.setCell ?_ (by first | exact Nat.le_refl _ | (simp; done) | (simp; omega)) _))
      · have q2' : (e2 != 0) = true := by simp; exact q2
        have HT0 : Hid (T = ((0, 0, 0), e2)) := by show _ = _; rw [← HT.out]; unfold num3; rw [if_pos rfl, if_pos rfl, if_neg q2]
        obtain ⟨⟨o0, o1, o2⟩, of0, of1, of2⟩ := R3.out
        have BX := B3.out
        go_wp2
        refine bodyPost_ret (v := .tuple #[.agg #[.int .i64 0, .int .i64 0, .int .i64 0], .int .i64 e2]) (by simp [results, Tryd.results48, go_sem, o0, o1, o2]) rfl ⟨?_, ?_⟩
        · rw [HT0.out]; rfl
        · repeat (first | exact BX | (refine Below.setCell ?_ (by first | exact Nat.le_refl _ | (simp; done) | (simp; omega)) _))
    · have q1' : (e1 != 0) = true := by simp; exact q1
      have HT0 : Hid (T = ((0, 0, 0), e1)) := by show _ = _; rw [← HT.out]; unfold num3; rw [if_pos rfl, if_neg q1]
      obtain ⟨⟨o0, o1, o2⟩, of0, of1, of2⟩ := R2.out
      have BX := B2.out
      go_wp2
      refine bodyPost_ret (v := .tuple #[.agg #[.int .i64 0, .int .i64 0, .int .i64 0], .int .i64 e1]) (by simp [results, Tryd.results48, go_sem, o0, o1, o2]) rfl ⟨?_, ?_⟩
      · rw [HT0.out]; rfl
      · repeat (first | exact BX | (refine Below.setCell ?_ (by first | exact Nat.le_refl _ | (simp; done) | (simp; omega)) _))
  · have q0' : (e0 != 0) = true := by simp; exact q0
    have HT0 : Hid (T = ((0, 0, 0), e0)) := by show _ = _; rw [← HT.out]; unfold num3; rw [if_neg q0]
    obtain ⟨⟨o0, o1, o2⟩, of0, of1, of2⟩ := R1.out
    have BX := B1.out
    go_wp2
    refine bodyPost_ret (v := .tuple #[.agg #[.int .i64 0, .int .i64 0, .int .i64 0], .int .i64 e0]) (by simp [results, Tryd.results48, go_sem, o0, o1, o2]) rfl ⟨?_, ?_⟩
    · rw [HT0.out]; rfl
    · repeat (first | exact BX | (refine Below.setCell ?_ (by first | exact Nat.le_refl _ | (simp; done) | (simp; omega)) _))
end Go.Proofs.YtlmeagnegakifaaDoor
