/- One digit as a text; two texts behind each other. -/
import Derived.Test.YtlmeagnegakifaaDoorH2
import Derived.Test.YtlmeagnegakifaaDoorH3
namespace Go.Proofs.YtlmeagnegakifaaDoor
open Go.RowKit
set_option linter.unusedVariables false

theorem conv_one (d : Nat) (hd : d ≤ 9) (w : World) :
    (convert 112 9 (.slice (some ⟨w.heap.size, 0, none⟩) 1 1)).run Tryd.prog (w.alloc (.cells #[.int .u8 (48 + (d : Int))] 5)) = .ok (.string ⟨#[UInt8.ofNat (48 + d)]⟩) (w.alloc (.cells #[.int .u8 (48 + (d : Int))] 5)) := by
  have h := run_convert_bytes_back (P := Tryd.prog) (w.alloc (.cells #[.int .u8 (48 + (d : Int))] 5)) 112 9 5 ⟨w.heap.size, 0, none⟩ 1 [UInt8.ofNat (48 + d)] Tryd.underlying112 Tryd.underlying5 Tryd.underlying9 (fun j hj => by
    simp at hj
    subst hj
    simp [Addr.add, go_sem]
    omega)
  exact h
theorem app_data (a b : List UInt8) : ((⟨a.toArray⟩ : ByteArray) ++ (⟨b.toArray⟩ : ByteArray)) = ⟨(a ++ b).toArray⟩ := by
  apply ByteArray.ext
  simp
end Go.Proofs.YtlmeagnegakifaaDoor
