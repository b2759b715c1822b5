/- The document's example. -/
import Derived.Test.YtioanjpeddipmaaAX
namespace Go.Proofs.Ytioanjpeddipmaa
open Go.RowKit
set_option linter.unusedVariables false

def n3 : List Nd := [bot, top, ⟨0, 0, 1⟩]
def n4 : List Nd := [bot, top, ⟨0, 0, 1⟩, ⟨0, 1, 0⟩]
theorem aw1 : cF 10 [bot, top] [(0, true)] = (some 2, n3) := by decide
theorem aw2 : jF 3 10 n3 1 2 = (some 3, n4) := by decide +kernel
theorem aw3 : jF 0 10 n4 2 3 = (some 0, n4) := by decide +kernel
set_option maxRecDepth 100000 in
set_option maxHeartbeats 2000000 in
theorem awake_any (w : World) : Calls Try.prog 10 #[] w fun e w' => e = .returned (.bool true) ∧ Below w.heap.size w w' := by
  have C1 := Lib.hid (sNew 10 (by omega) (by omega) w)
  have C2 : Hid (∀ p W, Sta (fun k => k < w.heap.size) p W 10 [bot, top] → Calls Try.prog 20 #[.pointer (some ⟨p, 0, none⟩), .int .i64 0] W fun e w' => e = .returned (.tuple #[.int .i64 2, .int .i64 0]) ∧ Sta (fun k => k < w.heap.size) p w' 10 n3 ∧ Hold (fun k => k < w.heap.size) W w') := fun p W h => by have k := sVar h 0 (by omega); rw [aw1] at k; exact k
  have C3 : Hid (∀ p W, Sta (fun k => k < w.heap.size) p W 10 n3 → Calls Try.prog 25 #[.pointer (some ⟨p, 0, none⟩), .int .i64 2] W fun e w' => e = .returned (.tuple #[.int .i64 3, .int .i64 0]) ∧ Sta (fun k => k < w.heap.size) p w' 10 n4 ∧ Hold (fun k => k < w.heap.size) W w') := fun p W h => by have k := sNot h 2 (by decide); rw [aw2] at k; exact k
  have C4 : Hid (∀ p W, Sta (fun k => k < w.heap.size) p W 10 n4 → Calls Try.prog 16 #[.pointer (some ⟨p, 0, none⟩), .int .i64 0, .int .i64 2, .int .i64 3] W fun e w' => e = .returned (.tuple #[.int .i64 0, .int .i64 0]) ∧ Sta (fun k => k < w.heap.size) p w' 10 n4 ∧ Hold (fun k => k < w.heap.size) W w') := fun p W h => by have k := sJoin h 0 2 3 (by omega) (by decide) (by decide); rw [aw3] at k; exact k
  have C5 : Hid (∀ p W, Sta (fun k => k < w.heap.size) p W 10 n4 → Calls Try.prog _ #[.pointer (some ⟨p, 0, none⟩)] W fun e w' => e = .returned (.int .i64 4) ∧ W = w') := fun p W h => sLen h
  go_enter Try.func10, Try.ntmps10
  go_wp2_with fail
  refine C1.out.mono ?_
  rintro e w1 ⟨p, rfl, hS, hb⟩
  have S1 := Lib.hid hS
  have B1 := Lib.hid hb
  clear hS hb C1
  go_wp2_with fail
  refine (C2.out p w1 S1.out).mono ?_
  rintro e w2 ⟨rfl, hS, hH⟩
  have S2 := Lib.hid hS
  have H2 := Lib.hid hH
  clear hS hH C2 S1
  go_wp2_with fail
  refine (C3.out p w2 S2.out).mono ?_
  rintro e w3 ⟨rfl, hS, hH⟩
  have S3 := Lib.hid hS
  have H3 := Lib.hid (H2.out.trans hH)
  clear hS hH C3 S2 H2
  go_wp2_with fail
  refine (C4.out p w3 S3.out).mono ?_
  rintro e w4 ⟨rfl, hS, hH⟩
  have S4 := Lib.hid hS
  have H4 := Lib.hid (H3.out.trans hH)
  clear hS hH C4 S3 H3
  go_wp2_with fail
  refine (C5.out p w4 S4.out).mono ?_
  rintro e w' ⟨rfl, rfl⟩
  go_wp2
  go_ret
  exact ⟨rfl, B1.out.trans (H4.out.below B1.out.size (fun k hk => hk))⟩
end Go.Proofs.Ytioanjpeddipmaa
