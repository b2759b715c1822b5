/- TopoFirst's call answers true. -/
import Derived.Test.YtoiopjdbmaffeaaT16
namespace Go.Proofs.Ytoiopjdbmaffeaa
open Go.RowKit
set_option linter.unusedVariables false

theorem opn_ok (d p : Int) (io z : Bool) : (opn d p io z).Ok := ⟨(by decide : (0 : Nat) < 4294967296), (by decide : (0 : Nat) < 4294967296)⟩
set_option maxHeartbeats 400000 in
theorem first_any (v : Value) (ps : List Int) (ls : List Lk) (es : List Ac) (pa : Option Addr) (pc : Nat) (la : Option Addr) (lc : Nat) (aa : Option Addr) (ac : Nat) (d p : Int) (io z : Bool) (g : Hr) (hg : g.Ok) (hx : g.x < 65536) (hy : g.y < 65536) (w : World) (h : Tp w v ps ls es pa pc la lc aa ac) (h0 : aa = none → ac = 0) :
    Calls Try.prog 3 #[v, .int .i64 d, .int .i64 p, .bool io, .bool z, g.val] w fun e w' => e = .returned (.bool true) ∧ Below w.heap.size w w' := by
  obtain ⟨rfl, hp, hl, he, ol, oe⟩ := h
  have LI := fun w => light_any pa ps.length pc la ls.length lc aa es.length ac w
  by_cases q : ps.length ≤ 40 ∧ ls.length ≤ 100 ∧ es.length ≤ 60
  · have e : (decide (ps.length ≤ 40) && decide (ls.length ≤ 100) && decide (es.length ≤ 60)) = true := by simp [q.1, q.2.1, q.2.2]
    rw [e] at LI
    obtain ⟨q1, q2, q3⟩ := q
    refine first_core es pa ps.length pc la ls.length lc aa es.length ac d p (TP.chk ⟨ps, ls, es⟩) (portE ps d p) io z g true (permF d p io g es) (fun w => Rw w pa (ints ps) ∧ Rw w la (ls.flatMap Lk.cells) ∧ Rw w aa (es.flatMap Ac.cells)) (fun _ _ h hb => ⟨h.1.on hb, h.2.1.on hb, h.2.2.on hb⟩) rfl h0 (fun _ h => h.2.2) LI (fun w => tawake_any w)
      (fun _ w h => rcheck_any ps ls es pa pc la lc aa ac w oe h.1 h.2.1 h.2.2 (by omega) (by omega) (by omega)) (fun _ w h => rport_any ps pa pc la ls.length lc aa es.length ac d p w h.1) (fun _ _ _ w h => permit_any es pa ps.length pc la ls.length lc aa ac d p io g hg w h.2.2 (by omega)) ?_ ?_ ?_ ?_ w ⟨hp, hl, he⟩
    · intro r1 r2 r3 a cap w hr
      have c := permit_any (opn d p io z :: es) pa ps.length pc la ls.length lc a cap d p io g hg w hr (by simp; omega)
      rw [perm_ahead g hg hx hy, List.length_cons, show es.length + 1 = 1 + es.length from Nat.add_comm _ _] at c
      exact c
    · intro r1 r2 r3 a cap w hr
      have c := permit_any (opn d p (!io) z :: es) pa ps.length pc la ls.length lc a cap d p io g hg w hr (by simp; omega)
      rw [perm_other, List.length_cons, show es.length + 1 = 1 + es.length from Nat.add_comm _ _] at c
      exact c
    · intro r1 r2 r3 a cap w hr
      have c := permit_any (es ++ [opn d p io true]) pa ps.length pc la ls.length lc a cap d p io g hg w (by rw [List.flatMap_append]; exact hr) (by simp; omega)
      rw [perm_behind g hg hx hy, List.length_append] at c
      exact c
    · intro r1 r2 r3 a cap w h hr
      have c := tcheck_any ps ls (opn d p io z :: es) pa pc la lc a cap w ol (fun c hc => by
        rcases List.mem_cons.1 hc with rfl | hc
        · exact opn_ok d p io z
        · exact oe c hc) h.1 h.2.1 hr (by omega) (by omega) (by simp; omega)
      rw [chk_ahead r1 r2 r3, List.length_cons, show es.length + 1 = 1 + es.length from Nat.add_comm _ _] at c
      exact c
  · have e : (decide (ps.length ≤ 40) && decide (ls.length ≤ 100) && decide (es.length ≤ 60)) = false := by
      rw [Bool.eq_false_iff]; intro t; simp at t; exact q ⟨t.1.1, t.1.2, t.2⟩
    rw [e] at LI
    exact first_core es pa ps.length pc la ls.length lc aa es.length ac d p 1 1 io z g false (permF d p io g es) (fun w => Rw w pa (ints ps) ∧ Rw w la (ls.flatMap Lk.cells) ∧ Rw w aa (es.flatMap Ac.cells)) (fun _ _ h hb => ⟨h.1.on hb, h.2.1.on hb, h.2.2.on hb⟩) rfl h0 (fun _ h => h.2.2) LI (fun w => tawake_any w)
      (fun t => absurd t (by decide)) (fun t => absurd t (by decide)) (fun t => absurd t (by decide)) (fun t => absurd t (by decide)) (fun t => absurd t (by decide)) (fun t => absurd t (by decide)) (fun t => absurd t (by decide)) w ⟨hp, hl, he⟩
end Go.Proofs.Ytoiopjdbmaffeaa
