/- HdrTurns' call answers true for any headers. -/
import Derived.Test.YteinkjlnofmalaaDoorH8
namespace Go.Proofs.YteinkjlnofmalaaDoor
open Go.RowKit
set_option linter.unusedVariables false

theorem fd_inj {a a' : Nat} (h1 : ((fd a : Nat) : Int) = (fd a' : Nat)) (h2 : ((fs a : Nat) : Int) = (fs a' : Nat)) : a = a' := by
  unfold fd at h1; unfold fs at h2; omega
theorem fb_inj {b b' : Nat} (h1 : ((fd b : Nat) : Int) = (fd b' : Nat)) (h2 : ((fx b : Nat) : Int) = (fx b' : Nat)) (h3 : ((fy b : Nat) : Int) = (fy b' : Nat)) : b = b' := by
  unfold fd at h1; unfold fx at h2; unfold fy at h3; omega
theorem turns_any (a a' b b' c c' : Nat) (i : Nat) (ha : WB a a') (hb : WB b b') (hc : WB c c') (hi : i < 256) (w : World) :
    Calls Tryd.prog 6 #[hw a a', hw b b', hw c c', .int .u8 i] w fun e w' => e = .returned (.bool true) ∧ Below w.heap.size w w' := by
  have hk : i % 104 < 104 := Nat.mod_lt _ (by decide)
  generalize hk' : i % 104 = k at hk
  have hT := ha.wo (k : Int) (!tb a a' k)
  refine turns_core _ _ _ _ _ _ _ _ _ _ _ _ _ _ _ _ _ _ _ _ i k (cmpW a a' b b') (cmpW b b' c c') (cmpW a a' c c') (cmpW b b' a a') (cmpW (wo a (ma k) (!tb a a' k)) (wo a' (mb k) (!tb a a' k)) a a') (tb a a' k) (!tb a a' k)
    (fun w => comp_w a a' b b' ha hb w) (fun w => comp_w b b' c c' hb hc w) (fun w => comp_w a a' c c' ha hc w) (fun w => comp_w b b' a a' hb ha w) (fun w => comp_w _ _ a a' hT ha w)
    (fun w => bits_w a a' k ha w) (fun w => ?_) (fun w => with_w a a' k _ ha w) (fun w => ?_) (by omega) (by omega) (by omega) rfl ?_ ?_ w
  · have h := bits_w _ _ (k : Int) hT w
    rw [show (decide ((wo a (ma k) (!tb a a' k) &&& ma k) ≠ 0) || decide ((wo a' (mb k) (!tb a a' k) &&& mb k) ≠ 0)) = !tb a a' k from tb_flip a a' k hk _] at h
    exact h
  · have h := with_w _ _ (k : Int) (tb a a' k) hT w
    obtain ⟨e1, e2⟩ := wo_flip a a' k hk (!tb a a' k)
    rw [e1, e2] at h
    exact h
  · show _ ∧ _
    rw [cmp_flip a a' k hk]
    exact ⟨fun h => by rw [h]; rfl, fun h => by rw [h]; rfl⟩
  · refine ⟨cmpW_swap a a' b b', (cmpW_bd _ _ _ _).1, (cmpW_bd _ _ _ _).2, fun h => ?_, fun h => ?_, cmpW_trans _ _ _ _ _ _⟩
    · obtain ⟨rfl, rfl⟩ := (cmpW_zero _ _ _ _).1 h
      exact ⟨rfl, rfl, rfl, rfl, rfl⟩
    · obtain ⟨h1, h2, h3, h4, h5⟩ := h
      exact (cmpW_zero _ _ _ _).2 ⟨fd_inj h1 h2, fb_inj h3 h4 h5⟩
end Go.Proofs.YteinkjlnofmalaaDoor
