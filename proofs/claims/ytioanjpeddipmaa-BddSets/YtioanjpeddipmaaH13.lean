/- The document's Back: the header of bits. -/
import Derived.Test.YtioanjpeddipmaaH12
namespace Go.Proofs.Ytioanjpeddipmaa
open Go.RowKit
set_option linter.unusedVariables false

set_option maxHeartbeats 1000000 in
theorem back_core (l : Value) (n1 n2 n3 n4 n5 : Int) (h3 : 0 ≤ n3) (h3' : n3 < 256) (h4 : 0 ≤ n4) (h4' : n4 < 65536) (h5 : 0 ≤ n5) (h5' : n5 < 65536) (w : World)
    (c1 : ∀ v, Below w.heap.size w v → Calls Try.prog 47 #[l, .int .i64 0, .int .i64 32] v fun e w' => e = .returned (.int .u32 n1) ∧ w' = v)
    (c2 : ∀ v, Below w.heap.size w v → Calls Try.prog 47 #[l, .int .i64 32, .int .i64 32] v fun e w' => e = .returned (.int .u32 n2) ∧ w' = v)
    (c3 : ∀ v, Below w.heap.size w v → Calls Try.prog 47 #[l, .int .i64 64, .int .i64 8] v fun e w' => e = .returned (.int .u32 n3) ∧ w' = v)
    (c4 : ∀ v, Below w.heap.size w v → Calls Try.prog 47 #[l, .int .i64 72, .int .i64 16] v fun e w' => e = .returned (.int .u32 n4) ∧ w' = v)
    (c5 : ∀ v, Below w.heap.size w v → Calls Try.prog 47 #[l, .int .i64 88, .int .i64 16] v fun e w' => e = .returned (.int .u32 n5) ∧ w' = v) :
    Calls Try.prog 42 #[l] w fun e w' => e = .returned (hv n1 n2 n3 n4 n5) ∧ Below w.heap.size w w' := by
  have C1 := Lib.hid c1
  have C2 := Lib.hid c2
  have C3 := Lib.hid c3
  have C4 := Lib.hid c4
  have C5 := Lib.hid c5
  clear c1 c2 c3 c4 c5
  go_enter Try.func42, Try.ntmps42
  go_wp2_with fail
  refine (C1.out _ (below_al (Below.refl _ _) _)).mono ?_
  rintro e w' ⟨rfl, rfl⟩
  go_wp2_with fail
  refine (C2.out _ (below_al (Below.refl _ _) _)).mono ?_
  rintro e w' ⟨rfl, rfl⟩
  go_wp2_with fail
  refine (C3.out _ (below_al (Below.refl _ _) _)).mono ?_
  rintro e w' ⟨rfl, rfl⟩
  go_wp2_with fail
  refine (C4.out _ (below_al (Below.refl _ _) _)).mono ?_
  rintro e w' ⟨rfl, rfl⟩
  go_wp2_with fail
  refine (C5.out _ (below_al (Below.refl _ _) _)).mono ?_
  rintro e w' ⟨rfl, rfl⟩
  go_wp2
  exact bodyPost_ret (v := hv n1 n2 n3 n4 n5) (by simp [results, Try.results42, go_sem]) rfl ⟨rfl, below_al (Below.refl _ _) _⟩
end Go.Proofs.Ytioanjpeddipmaa
