/- The document's example: the blocks of 1 to 6. -/
import Derived.Test.YtlmeagnegakifaaDoorC5
namespace Go.Proofs.YtlmeagnegakifaaDoor
open Go.RowKit
set_option linter.unusedVariables false

theorem blks_six : blks (6 + 1 - 1) 1 (6 + 1) = [(1, 0), (2, 1), (4, 1), (6, 0)] := by decide +kernel
set_option maxHeartbeats 1000000 in
theorem cawake_any (w : World) (ht : DbTab w) : Calls Tryd.prog 26 #[] w fun e w' => e = .returned (.bool true) ∧ Below w.heap.size w w' := by
  have hBk := blocks_any 1 6 (by omega) (by omega) w ht
  rw [blks_six] at hBk
  have HK := Lib.hid hBk
  clear hBk ht
  go_enter Tryd.func26, Tryd.ntmps26
  go_wp2_with fail
  refine HK.out.mono ?_
  rintro e w' ⟨v, rfl, hb, hv⟩
  obtain ⟨g, cap, rfl, -, -, c0, c1⟩ := hv.cellAt 0 _ rfl
  obtain ⟨g', cap', e', -, -, d0, d1⟩ := hv.cellAt 1 _ rfl
  simp at e'
  obtain ⟨rfl, rfl⟩ := e'
  obtain ⟨g', cap', e', -, -, f0, f1⟩ := hv.cellAt 3 _ rfl
  simp at e'
  obtain ⟨rfl, rfl⟩ := e'
  have HB := Lib.hid hb
  clear hb hv HK
  simp at c0 c1 d0 d1 f0 f1
  go_wp2
  go_ret
  exact ⟨rfl, HB.out⟩
end Go.Proofs.YtlmeagnegakifaaDoor
