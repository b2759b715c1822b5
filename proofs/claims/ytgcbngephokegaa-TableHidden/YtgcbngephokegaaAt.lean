/- A goal of a walk at a world of which no more is wanted than what is said of it. No program in sight. -/
import Derived.Test.YtgcbngephokegaaBlk
import Derived.Calls
import Derived.Control
namespace Go.Proofs.Ytgcbngephokegaa
open Go.RowKit

theorem at_body {P : Program} {fn : Func} {R : Ending → World → Prop} {e : Exit} {a : Act} {W w : World} {n b : Nat} {cs : List Value} (h : Blk W b cs) (hb : Below n w W)
    (k : ∀ W, Blk W b cs → Below n w W → bodyPost P fn R e a W) : bodyPost P fn R e a W := k W h hb
theorem at_bodyR {P : Program} {fn : Func} {R : Ending → World → Prop} {e : Exit} {a : Act} {W : World} {S : World → Prop} (h : S W) (k : ∀ W, S W → bodyPost P fn R e a W) : bodyPost P fn R e a W := k W h
theorem at_code {P : Program} {c : Code} {Q : Exit → Act → World → Prop} {a : Act} {W : World} {S : World → Prop} (h : S W) (k : ∀ W, S W → Code.wp P c Q a W) : Code.wp P c Q a W := k W h
end Go.Proofs.Ytgcbngephokegaa
