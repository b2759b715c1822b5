/- HdrBits' call answers true for any two headers and any number. -/
import Derived.Test.YtijfohoaeacncaaDoorH13
import Derived.Test.YtijfohoaeacncaaDoorH15
namespace Go.Proofs.YtijfohoaeacncaaDoor
open Go.RowKit
set_option linter.unusedVariables false

theorem back_row (a b : Nat) (h : WB a b) (T : Nat → Bool) (hT : ∀ j, j < 104 → T j = tb a b j) (w : World) (g cap : Nat) (hr : Row w g T) :
    Calls Tryd.prog 13 #[.slice (some ⟨g, 0, none⟩) 104 cap] w fun e w' => e = .returned (hw a b) ∧ Below w.heap.size w w' := by
  obtain ⟨n1, n2, n3, n4, n5⟩ := back_nums T a b h hT
  obtain ⟨h1, h2, h3, h4, h5⟩ := h.hb
  have num : ∀ (p k : Nat), p + k ≤ 104 → k ≤ 32 → ∀ v, Below w.heap.size w v → Calls Tryd.prog 43 #[.slice (some ⟨g, 0, none⟩) 104 cap, .int .i64 p, .int .i64 k] v fun e w' => e = .returned (.int .u32 (numB T p k)) ∧ w' = v :=
    fun p k h1 h2 v hb => number_bits T g cap p k h1 h2 v (fun j hj => ((hr.on hb) j hj).1)
  have q := back_core (.slice (some ⟨g, 0, none⟩) 104 cap) (numB T 0 32) (numB T 32 32) (numB T 64 8) (numB T 72 16) (numB T 88 16) (by omega) (by rw [n3]; omega) (by omega) (by rw [n4]; omega) (by omega) (by rw [n5]; omega) w
    (num 0 32 (by omega) (by omega)) (num 32 32 (by omega) (by omega)) (num 64 8 (by omega) (by omega)) (num 72 16 (by omega) (by omega)) (num 88 16 (by omega) (by omega))
  rw [n1, n2, n3, n4, n5] at q
  exact q
theorem wo_none (a b : Nat) (i : Int) (on : Bool) (h : i < 0 ∨ 104 ≤ i) : wo a (ma i) on = a ∧ wo b (mb i) on = b := by
  have e1 : ma i = 0 := by unfold ma; rw [if_neg (by omega)]
  have e2 : mb i = 0 := by unfold mb; rw [if_neg (by omega)]
  rw [e1, e2, wo_zero, wo_zero]; exact ⟨rfl, rfl⟩
theorem wo_self (a b n : Nat) (hn : n < 104) : wo a (ma n) (tb a b n) = a ∧ wo b (mb n) (tb a b n) = b := by
  by_cases c : n < 64
  · rw [tb_lo a b n c, ma_in n c, mb_out n c, wo_zero]; exact ⟨wo_same a _, rfl⟩
  · rw [tb_hi a b n (by omega) hn, ma_out n (by omega), mb_in n (by omega) hn, wo_zero]; exact ⟨rfl, wo_same b _⟩
theorem hbits_any (a b a' b' : Nat) (i : Int) (h : WB a b) (h' : WB a' b') (w : World) :
    Calls Tryd.prog 3 #[hw a b, hw a' b', .int .i64 i] w fun e w' => e = .returned (.bool true) ∧ Below w.heap.size w w' := by
  refine hbits_core _ _ _ _ _ _ _ _ _ _ i (fun j => tb a b j) (fun j => tb a' b' j) (bitsW a b) (bitsW a' b') (firstc a b a' b')
    (fun j hj => bitsW_get a b j h.b hj) (fun j hj => bitsW_get a' b' j h'.b hj) (fun w => bits_any a b h w) (fun w => bits_any a' b' h' w)
    (fun k _ w => bits_w a b k h w) (fun w => ?_) (fun w g cap hr => back_row a b h _ (fun _ _ => rfl) w g cap hr) ⟨rfl, fun k => rfl⟩ (fun hi => ?_) (fun n hin hn => ?_) w
  · have q := comp_w a b a' b' h h' w
    rw [← firstc_all a b a' b' h h'] at q
    exact q
  · refine ⟨fun w => ?_, fun w => ?_, fun w => ?_⟩
    · have q := bits_w a b i h w
      have e1 : ma i = 0 := by unfold ma; rw [if_neg (by omega)]
      have e2 : mb i = 0 := by unfold mb; rw [if_neg (by omega)]
      rw [e1, e2, Nat.and_zero, Nat.and_zero] at q
      exact q
    · have q := with_w a b i true h w
      obtain ⟨e1, e2⟩ := wo_none a b i true hi
      rw [e1, e2] at q; exact q
    · have q := with_w a b i false h w
      obtain ⟨e1, e2⟩ := wo_none a b i false hi
      rw [e1, e2] at q; exact q
  · refine ⟨_, _, _, _, _, _, _, _, _, _, fun w => with_w a b n true h w, fun w => with_w a b n false h w, fun w => ?_, fun w g cap hr => back_row _ _ (h.wo n true) _ (fun j hj => ?_) w g cap hr, fun w g cap hr => back_row _ _ (h.wo n false) _ (fun j hj => ?_) w g cap hr⟩
    · have q := with_w a b n (tb a b n) h w
      obtain ⟨e1, e2⟩ := wo_self a b n hn
      rw [e1, e2] at q; exact q
    · rw [tb_wo a b n j true hn hj]; rfl
    · rw [tb_wo a b n j false hn hj]; unfold upd
      by_cases e : j = n
      · rw [if_pos e, if_pos e]
      · rw [if_neg e, if_neg e, if_neg e]
end Go.Proofs.YtijfohoaeacncaaDoor
