/- Compare, of any two headers whose words are known. -/
import Derived.Test.YtlmeagnegakifaaDoorH5
namespace Go.Proofs.YtlmeagnegakifaaDoor
open Go.RowKit
set_option linter.unusedVariables false
set_option maxRecDepth 100000 in
set_option maxHeartbeats 20000000 in
theorem comp_core (d s p x y d' s' p' x' y' a b a' b' : Int)
    (hp : Hid (∀ w, Calls Tryd.prog 62 #[hv d s p x y] w fun e w' => e = .returned (wv a b) ∧ (w.alloc (.cells #[.int .u32 d, .int .u32 s, .int .u8 p, .int .u16 x, .int .u16 y] 25)).alloc (.cells #[.int .u64 a, .int .u64 b] 103) = w'))
    (hp' : Hid (∀ w, Calls Tryd.prog 62 #[hv d' s' p' x' y'] w fun e w' => e = .returned (wv a' b') ∧ (w.alloc (.cells #[.int .u32 d', .int .u32 s', .int .u8 p', .int .u16 x', .int .u16 y'] 25)).alloc (.cells #[.int .u64 a', .int .u64 b'] 103) = w'))
    (w : World) :
    Calls Tryd.prog 39 #[hv d s p x y, hv d' s' p' x' y'] w fun e w' => e = .returned (.int .i64 (if a = a' then cmpI b b' else cmpI a a')) ∧ Below w.heap.size w w' := by
  obtain ⟨q, hq⟩ : ∃ q, (if a = a' then cmpI b b' else cmpI a a') = q := ⟨_, rfl⟩
  rw [hq]
  have HQ := Lib.hid hq
  clear hq
  obtain ⟨W0, hW0⟩ : ∃ W0, ((w.alloc (Obj.cells #[.int .u32 d, .int .u32 s, .int .u8 p, .int .u16 x, .int .u16 y] 25)).alloc (Obj.cells #[.int .u32 d', .int .u32 s', .int .u8 p', .int .u16 x', .int .u16 y'] 25)) = W0 := ⟨_, rfl⟩
  have z0 : W0.heap.size = w.heap.size + 1 + 1 := by rw [← hW0]; simp
  have z1 : W0.cell? ⟨w.heap.size, 0, none⟩ = some (.int .u32 d) := by rw [← hW0]; simp [go_sem]
  have z2 : W0.cell? ⟨w.heap.size, 1, none⟩ = some (.int .u32 s) := by rw [← hW0]; simp [go_sem]
  have z3 : W0.cell? ⟨w.heap.size, 2, none⟩ = some (.int .u8 p) := by rw [← hW0]; simp [go_sem]
  have z4 : W0.cell? ⟨w.heap.size, 3, none⟩ = some (.int .u16 x) := by rw [← hW0]; simp [go_sem]
  have z5 : W0.cell? ⟨w.heap.size, 4, none⟩ = some (.int .u16 y) := by rw [← hW0]; simp [go_sem]
  have y1 : W0.cell? ⟨w.heap.size + 1, 0, none⟩ = some (.int .u32 d') := by rw [← hW0]; simp [go_sem]
  have y2 : W0.cell? ⟨w.heap.size + 1, 1, none⟩ = some (.int .u32 s') := by rw [← hW0]; simp [go_sem]
  have y3 : W0.cell? ⟨w.heap.size + 1, 2, none⟩ = some (.int .u8 p') := by rw [← hW0]; simp [go_sem]
  have y4 : W0.cell? ⟨w.heap.size + 1, 3, none⟩ = some (.int .u16 x') := by rw [← hW0]; simp [go_sem]
  have y5 : W0.cell? ⟨w.heap.size + 1, 4, none⟩ = some (.int .u16 y') := by rw [← hW0]; simp [go_sem]
  have hB0 : Below w.heap.size w W0 := by rw [← hW0]; exact below_al (below_al (Below.refl _ _) _) _
  go_enter Tryd.func39, Tryd.ntmps39
  go_upto_region 1 with fail
  have Z0 := Lib.hid z0
  clear z0 hW0
  go_cut [5, 6] (fun x y wx => ∃ g7 g8 : Nat, x = .pointer (some ⟨g7, 0, none⟩) ∧ y = .pointer (some ⟨g8, 0, none⟩) ∧ Below W0.heap.size W0 wx ∧ Two wx g7 a b ∧ Two wx g8 a' b')
  case first =>
   as_aux_lemma =>
    go_region_held3 (fun w' => Below W0.heap.size W0 w' ∧ ∀ b o, (W0.cell? ⟨b, o, none⟩).isSome = true → w'.cell? ⟨b, o, none⟩ = W0.cell? ⟨b, o, none⟩)
      ((refine below_kb ?_; repeat (first | exact Below.refl _ _ | assumption | refine Below.drew ?_ | refine below_al ?_ _ | (refine Below.setCell ?_ (by simp; omega) _))))
      (first | (go_at_call 62; (first | (with_reducible refine (hp.out _).mono ?_) | (with_reducible refine (hp'.out _).mono ?_)); rintro e w' ⟨rfl, rfl⟩))
    all_goals (rename_i hH; have HB := Lib.hid hH.1; clear hH; go_wp2_with fail; go_meet; exact ⟨_, _, rfl, rfl, HB.out, ⟨by simp [go_sem], by simp [go_sem], by simp [go_sem], by simp [go_sem]⟩, ⟨by simp [go_sem], by simp [go_sem], by simp [go_sem], by simp [go_sem]⟩⟩)
  case rest =>
    obtain ⟨g7, g8, rfl, rfl, hbx, ⟨t1, t2, t3, t4⟩, ⟨u1, u2, u3, u4⟩⟩ := hcut
    have HBx := Lib.hid (below_on hB0 hbx)
    clear hbx hB0 z1 z2 z3 z4 z5 y1 y2 y3 y4 y5 hp hp'
    by_cases c : a = a'
    · have HQ' := HQ.out
      rw [if_pos c] at HQ'
      subst HQ'
      subst c
      go_wp2_with fail
      refine (ccmp_any _ _ _).mono ?_
      rintro e w' ⟨rfl, rfl⟩
      go_wp2
      go_ret
      exact ⟨rfl, HBx.out⟩
    · have HQ' := HQ.out
      rw [if_neg c] at HQ'
      subst HQ'
      have c1 : (a != a') = true := by simp; exact c
      go_wp2_with fail
      refine (ccmp_any _ _ _).mono ?_
      rintro e w' ⟨rfl, rfl⟩
      go_wp2
      go_ret
      exact ⟨rfl, HBx.out⟩
end Go.Proofs.YtlmeagnegakifaaDoor
