/- A set with a bit held: the walk. -/
import Derived.Test.YtioanjpeddipmacAW0
namespace Go.Proofs.Ytioanjpeddipmac
open Go.RowKit Go.Maps Go.MapKept Go.ChangeMaps Go.WideElems Go.Joins
set_option linter.unusedVariables false

theorem TrWeak {X : Nat → Prop} {w w' : World} {a a' : AL} (t : Tr (fun _ => False) w a w' a') : Tr X w a w' a' := ⟨t.k.mono (fun i _ q => q.imp id (fun r => r.elim)), t.m⟩
end Go.Proofs.Ytioanjpeddipmac
