/- same: the program's entries and the document's. -/
import Derived.Test.YtgcbngephokegaaP2
import Derived.Test.YtgcbngephokegaaKB1
namespace Go.Proofs.Ytgcbngephokegaa
open Go.RowKit
set_option linter.unusedVariables false
set_option linter.unusedSimpArgs false

theorem entz_at {w : World} {base : Nat} {v : Value} {P : List Ent} (h : Ents w base v P) (hn : 0 < P.length) : ∃ g cap, v = .slice (some ⟨g, 0, none⟩) P.length cap ∧
    ∀ i x, P[i]? = some x → w.cell? ⟨g, i * 3, none⟩ = some (.int .u32 (ad x.1 : Nat)) ∧ w.cell? ⟨g, i * 3 + 1, none⟩ = some (.int .i64 (x.1.length : Nat)) ∧ w.cell? ⟨g, i * 3 + 2, none⟩ = some (.int .i64 x.2) := by
  obtain ⟨g, cap, e, h1, h2, h3⟩ := Row.at h hn
  refine ⟨g, cap, e, fun i x hx => ?_⟩
  have hg := fun j (hj : j < 3) => flat_get ecell 3 P (fun _ _ => rfl) i j x hx hj
  refine ⟨h3 (i * 3) _ ?_, h3 (i * 3 + 1) _ ?_, h3 (i * 3 + 2) _ ?_⟩
  · have := hg 0 (by omega); rw [Nat.mul_comm] at this; exact this
  · have := hg 1 (by omega); rw [Nat.mul_comm] at this; exact this
  · have := hg 2 (by omega); rw [Nat.mul_comm] at this; exact this
set_option maxRecDepth 100000 in
set_option maxHeartbeats 1000000 in
theorem same_any (W : World) (b1 b2 : Nat) (u v : Value) (r : List Ent) (hu : Ents W b1 u r) (hv : REnts W b2 v r) (hl : r.length ≤ 100000) :
    Calls Try.prog 16 #[u, v] W fun e w' => e = .returned (.bool true) ∧ Below W.heap.size W w' := by
  have HU := Lib.hid hu
  have HV := Lib.hid hv
  obtain ⟨ad1, cap1, e1⟩ := Row.slice hu
  obtain ⟨ad2, cap2, e2⟩ := Row.slice hv
  subst e1 e2
  clear hu hv
  go_enter Try.func16, Try.ntmps16
  go_wp2_with fail
  go_loopw [13] (fun iv wr => ∃ (i : Nat), iv = .int .i64 (i : Nat) ∧ i ≤ r.length ∧ Hid (Below W.heap.size W wr)) (fun iv _ => r.length - (intOf iv).toNat)
  case atStart => exact ⟨0, rfl, Nat.zero_le _, Lib.hid (Below.refl _ _)⟩
  case round =>
    obtain ⟨i, rfl, hi, Bw⟩ := hrel
    by_cases hik : i < r.length
    · have hw1 : IntKind.i64.wrap ((i : Int) + 1) = ((i + 1 : Nat) : Int) := by rw [IntKind.wrap_i64]; omega
      obtain ⟨x, hx, -, -⟩ := drop_at hik
      have U1 := Lib.hid (show Ents wr b1 (.slice ad1 r.length cap1) r from Row.on HU.out Bw.out)
      have V1 := Lib.hid (show REnts wr b2 (.slice ad2 r.length cap2) r from Row.on HV.out Bw.out)
      obtain ⟨g, cap, q1, hc⟩ := entz_at U1.out (by omega)
      obtain ⟨g2, cap', q2, hc2⟩ := rent_at V1.out (by omega)
      simp at q1 q2
      obtain ⟨rfl, rfl⟩ := q1
      obtain ⟨rfl, rfl⟩ := q2
      obtain ⟨c0, c1, c2⟩ := hc i x hx
      obtain ⟨d0, d1, d2⟩ := hc2 i x hx
      clear hc hc2 U1 V1 hx
      go_wp2_with fail
      go_region
      all_goals
        have B6 : Hid (Below W.heap.size W wr.drew) := Lib.hid (Below.drew Bw.out)
        clear c0 c1 c2 d0 d1 d2 Bw
        go_wp2_with fail
        refine ⟨⟨i + 1, by first | rfl | rw [hw1], by omega, B6⟩, by simp [intOf] <;> omega⟩
    · obtain rfl : i = r.length := by omega
      go_wp2
      go_ret
      exact ⟨rfl, Bw.out⟩
end Go.Proofs.Ytgcbngephokegaa
