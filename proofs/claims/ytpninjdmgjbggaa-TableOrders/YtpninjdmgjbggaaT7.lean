/- TableOrders. -/
import Derived.Test.YtpninjdmgjbggaaT6
import Derived.Test.YtpninjdmgjbggaaKO
import Derived.Deep.RegionHeld3
namespace Go.Proofs.Ytpninjdmgjbggaa
open Go.RowKit
set_option linter.unusedVariables false
set_option linter.unusedSimpArgs false

theorem compR_vals (x y : Ru) : compR x y = -1 ∨ compR x y = 0 ∨ compR x y = 1 := by
  unfold compR or3 cmpI
  (repeat' split) <;> omega
/-- Three boxes of rules. -/
structure B3 (W : World) (x y z : Ru) (w : World) : Prop where
  b : Below W.heap.size W w
  x : Blk w W.heap.size x.cells
  y : Blk w (W.heap.size + 1) y.cells
  z : Blk w (W.heap.size + 2) z.cells
theorem B3.on {W w w' : World} {x y z : Ru} (h : B3 W x y z w) (hb : Below w.heap.size w w') : B3 W x y z w' := ⟨bel_on' h.b hb, h.x.on hb, h.y.on hb, h.z.on hb⟩
theorem B3.new (W : World) (x y z : Ru) : B3 W x y z (((W.alloc (.cells x.cells.toArray 64)).alloc (.cells y.cells.toArray 64)).alloc (.cells z.cells.toArray 64)) := by
  have b1 := bel_al (Below.refl W.heap.size W) (.cells x.cells.toArray 64)
  have b2 := bel_al (Below.refl (W.alloc (.cells x.cells.toArray 64)).heap.size _) (.cells y.cells.toArray 64)
  have b3 := bel_al (Below.refl ((W.alloc (.cells x.cells.toArray 64)).alloc (.cells y.cells.toArray 64)).heap.size _) (.cells z.cells.toArray 64)
  refine ⟨bel_on' (bel_on' b1 b2) b3, ((Blk.new W 64 x.cells).on b2).on b3, ?_, ?_⟩
  · have := (Blk.new (W.alloc (.cells x.cells.toArray 64)) 64 y.cells).on b3
    rw [World.size_alloc] at this
    exact this
  · have := Blk.new ((W.alloc (.cells x.cells.toArray 64)).alloc (.cells y.cells.toArray 64)) 64 z.cells
    rw [World.size_alloc, World.size_alloc] at this
    exact this
end Go.Proofs.Ytpninjdmgjbggaa
