/- The document's example. -/
import Derived.Test.YtgcbngephokegaaK12
namespace Go.Proofs.Ytgcbngephokegaa
open Go.RowKit Go.Maps Go.MapKept Go.ChangeMaps Go.WideElems Go.Joins
set_option linter.unusedVariables false
set_option linter.unusedSimpArgs false

abbrev pA : Pth := pth 167772160 8
abbrev pB : Pth := pth 167837696 16
theorem add_a : addF [] 167772160 8 1 = [(pA, 1)] := by decide +kernel
theorem add_b : addF [(pA, 1)] 167837696 16 2 = [(pB, 2), (pA, 1)] := by decide +kernel
theorem addc_a : addC [] 167772160 8 1 = 0 := by decide +kernel
theorem addc_b : addC [(pA, 1)] 167837696 16 2 = 0 := by decide +kernel
theorem nodup_ab : ([(pB, 2), (pA, 1)] : List Ent).Nodup := by decide +kernel
theorem of_ab : srt [(pB, 2), (pA, 1)] (metQ (pth 167838211 32)) = [(pA, 1), (pB, 2)] := by
  refine (srt_lst nodup_ab _).uniq (E' := [(pB, 2), (pA, 1)]) (S' := fun _ => True) ⟨?_, fun x => ?_⟩ (fun x => ?_)
  · refine List.pairwise_cons.2 ⟨fun y hy => ?_, List.pairwise_singleton _ _⟩
    rw [List.mem_singleton.1 hy]
    exact Or.inl (by decide +kernel)
  · simp only [List.mem_cons, List.not_mem_nil, or_false, and_true]; exact or_comm
  · simp only [List.mem_cons, List.not_mem_nil, or_false, and_true]
    constructor
    · exact fun h => h.1
    · intro h
      refine ⟨h, ?_⟩
      rcases h with rfl | rfl <;> decide +kernel
theorem of_a : srt [(pB, 2), (pA, 1)] (metQ (pth 167903232 32)) = [(pA, 1)] := by
  refine (srt_lst nodup_ab _).uniq (E' := [(pA, 1)]) (S' := fun _ => True) ⟨List.pairwise_singleton _ _, fun x => by simp⟩ (fun x => ?_)
  simp only [List.mem_cons, List.not_mem_nil, or_false, and_true]
  constructor
  · rintro ⟨rfl | rfl, h⟩
    · exact absurd h (by decide +kernel)
    · rfl
  · rintro rfl
    exact ⟨Or.inr rfl, by decide +kernel⟩
set_option maxRecDepth 100000 in
set_option maxHeartbeats 2000000 in
theorem awake_core (W : World) (Q0 Q1 Q2 : World → Prop) (p : Value) (H0 : Hid (Q0 (W.alloc (.cells #[.pointer none, .pointer none, .map none, .int .i64 0, .int .i64 0] 33)))) (hp : p = .pointer (some ⟨W.heap.size, 0, none⟩))
    (C1 : Hid (∀ w, Q0 w → Calls Try.prog 11 #[p, pv 167772160 8, .int .i64 1] w fun e w' => e = .returned (.int .i64 0) ∧ Q1 w'))
    (C2 : Hid (∀ w, Q1 w → Calls Try.prog 11 #[p, pv 167837696 16, .int .i64 2] w fun e w' => e = .returned (.int .i64 0) ∧ Q2 w'))
    (C3 : Hid (∀ w, Q2 w → Calls Try.prog 18 #[p, .int .u32 167838211] w fun e w' => ∃ v, e = .returned v ∧ Ents w' w.heap.size v [(pA, 1), (pB, 2)] ∧ Q2 w' ∧ Below w.heap.size w w'))
    (C4 : Hid (∀ w, Q2 w → Calls Try.prog 18 #[p, .int .u32 167903232] w fun e w' => ∃ v, e = .returned v ∧ Ents w' w.heap.size v [(pA, 1)] ∧ Q2 w' ∧ Below w.heap.size w w')) 
    (CF : Hid (∀ w, Q2 w → Below W.heap.size W w)) :
    Calls Try.prog 8 #[] W fun e w' => e = .returned (.bool true) ∧ Below W.heap.size W w' := by
  go_enter Try.func8, Try.ntmps8
  go_upto_region 2 with fail
  refine at_code (S := Q0) H0.out (fun W1 h1 => ?_)
  have I1 := Lib.hid h1
  clear h1 H0
  rw [← hp]
  clear hp
  go_wp2_with fail
  refine (C1.out W1 I1.out).mono ?_
  rintro e w2 ⟨rfl, h2⟩
  have I2 := Lib.hid h2
  clear h2 I1 C1
  go_wp2_with fail
  refine (C2.out w2 I2.out).mono ?_
  rintro e w3 ⟨rfl, h3⟩
  have I3 := Lib.hid h3
  clear h3 I2 C2
  go_wp2_with fail
  refine (C3.out w3 I3.out).mono ?_
  rintro e w4 ⟨v, rfl, hv, h4, hb⟩
  have I4 := Lib.hid h4
  have V4 := Lib.hid hv
  clear h4 hb hv I3 C3
  go_wp2_with fail
  refine (C4.out w4 I4.out).mono ?_
  rintro e w5 ⟨u, rfl, hu, h5, hb⟩
  have V5 := Lib.hid (Row.on V4.out hb)
  have U5 := Lib.hid hu
  have I5 := Lib.hid (CF.out _ h5)
  clear h5 hb hu I4 C4 V4 CF
  obtain ⟨g, cap, e1, -, -, hc⟩ := Row.at V5.out (by decide)
  obtain ⟨g2, cap2, e2, -, -, hc2⟩ := Row.at U5.out (by decide)
  subst e1 e2
  have c_2 := hc 2 _ rfl
  have c_5 := hc 5 _ rfl
  have d_2 := hc2 2 _ rfl
  clear hc hc2 V5 U5
  go_wp2
  go_ret
  exact ⟨rfl, I5.out⟩
theorem awake_any (W : World) : Calls Try.prog 8 #[] W fun e w' => e = .returned (.bool true) ∧ Below W.heap.size W w' := by
  let Z : Nat → Prop := fun k => k < W.heap.size
  have hQ : ∀ (E : List Ent) (w : World), (Tri Z W.heap.size [] w E ∧ Hold Z W w) → Below W.heap.size W w := fun E w h => Hold.below h.2 (Nat.le_refl _) (fun k hk => hk)
  refine awake_core W (fun w => Tri Z W.heap.size [] w [] ∧ Hold Z W w) (fun w => Tri Z W.heap.size [] w [(pA, 1)] ∧ Hold Z W w) (fun w => Tri Z W.heap.size [] w [(pB, 2), (pA, 1)] ∧ Hold Z W w) _ (Lib.hid ?_) rfl (Lib.hid (fun w h => ?_)) (Lib.hid (fun w h => ?_)) (Lib.hid (fun w h => ?_)) (Lib.hid (fun w h => ?_)) (Lib.hid (fun w h => hQ _ w h))
  · exact ⟨tri_new Z W.heap.size _ (Blk.new _ _ _) (Nat.lt_irrefl _) (fun k hk => by rw [World.size_alloc]; exact Nat.lt_succ_of_lt hk), Hold.of (bel_al (Below.refl _ _) _)⟩
  · have := tAdd h.1 167772160 8 1 (by omega) (by unfold I64; omega) (by simp)
    rw [add_a, addc_a] at this
    exact this.mono (fun e w' q => ⟨q.1, q.2.1, h.2.trans q.2.2⟩)
  · have := tAdd h.1 167837696 16 2 (by omega) (by unfold I64; omega) (by simp)
    rw [add_b, addc_b] at this
    exact this.mono (fun e w' q => ⟨q.1, q.2.1, h.2.trans q.2.2⟩)
  · have := tOf h.1 167838211 (by omega) (by simp)
    rw [of_ab] at this
    refine this.mono ?_
    rintro e w' ⟨v, rfl, h1, h2⟩
    exact ⟨v, rfl, h1, ⟨h.1.on h2, h.2.trans (Hold.of h2)⟩, h2⟩
  · have := tOf h.1 167903232 (by omega) (by simp)
    rw [of_a] at this
    refine this.mono ?_
    rintro e w' ⟨v, rfl, h1, h2⟩
    exact ⟨v, rfl, h1, ⟨h.1.on h2, h.2.trans (Hold.of h2)⟩, h2⟩
end Go.Proofs.Ytgcbngephokegaa
