/- The document's example. -/
import Derived.Test.YtioanjpeddipmacE3
import Derived.Test.YtioanjpeddipmacEC
namespace Go.Proofs.Ytioanjpeddipmac
open Go.RowKit
set_option linter.unusedVariables false

set_option maxRecDepth 100000 in
set_option maxHeartbeats 2000000 in
theorem first_none (d s p x y : Nat) (a : Int) (w : World) :
    Calls Try.prog 32 #[hv d s p x y, .int .i64 a, .int .i64 0] w fun e w' => e = .returned (.slice none 0 0) ∧ Below w.heap.size w w' := by
  go_enter Try.func32, Try.ntmps32
  go_upto_region 1 with fail
  refine at_code (S := fun W => Below w.heap.size w W) (bel_al (Below.refl _ _) _) (fun W1 hW => ?_)
  have B1 := Lib.hid hW
  clear hW
  go_wp2_with fail
  go_loopw [7, 10] (fun sv iv wr => sv = .slice none 0 0 ∧ iv = .int .i64 0 ∧ W1 = wr) (fun _ _ _ => 0)
  case atStart => exact ⟨rfl, rfl, rfl⟩
  case round =>
    obtain ⟨rfl, rfl, rfl⟩ := hrel
    go_wp2
    go_ret
    exact ⟨rfl, B1.out⟩
set_option maxRecDepth 100000 in
set_option maxHeartbeats 2000000 in
theorem prefix_none {Z : Nat → Prop} {p most : Nat} {W : World} {ns : List Nd} (h : Sta Z p W most ns) :
    Calls Try.prog 11 #[.pointer (some ⟨p, 0, none⟩), .int .i64 0, .agg #[.int .u32 0, .int .i64 0]] W (Got2 Z p most (some 1, ns) W) := by
  have CR : Hid (∀ w, Calls Try.prog 30 #[.agg #[.int .u32 0, .int .i64 0]] w fun e w' => e = .returned (.bool true) ∧ Below w.heap.size w w') := fun w => cright_any 0 0 (by omega) w
  have CF : Hid (∀ w, Calls Try.prog 32 #[.agg #[.int .u32 0, .int .u32 0, .int .u8 0, .int .u16 0, .int .u16 0], .int .i64 0, .int .i64 0] w fun e w' => e = .returned (.slice none 0 0) ∧ Below w.heap.size w w') := fun w => first_none 0 0 0 0 0 0 w
  have S0 := Lib.hid h
  have CC : Hid (∀ w, Sta Z p w most ns → Calls Try.prog 31 #[.pointer (some ⟨p, 0, none⟩), .slice none 0 0] w fun e w' => e = .returned (.tuple #[.int .i64 1, .int .i64 0]) ∧ Sta Z p w' most ns ∧ Hold Z w w') := fun w h => sCubeNone h
  show Calls Try.prog 11 _ W fun e w' => e = .returned (.tuple #[.int .i64 1, .int .i64 0]) ∧ Sta Z p w' most ns ∧ Hold Z W w'
  clear h
  go_enter Try.func11, Try.ntmps11
  go_upto_region 5 with fail
  refine at_code (S := fun w => Blk w W.heap.size [.int .u32 0, .int .i64 0] ∧ Below W.heap.size W w) ⟨Blk.new _ _ _, bel_al (Below.refl _ _) _⟩ (fun W1 hW => ?_)
  obtain ⟨hX, hb⟩ := hW
  obtain ⟨x_0, x_1⟩ : _ ∧ _ := ⟨hX.1 0 _ rfl, hX.1 1 _ rfl⟩
  have X1 := Lib.hid hX
  have B1 := Lib.hid hb
  clear hX hb
  go_wp2_with fail
  refine (CR.out _).mono ?_
  rintro e w2 ⟨rfl, hb⟩
  have X2 := X1.out.on hb
  have B2 := Lib.hid (bel_on' B1.out hb)
  clear x_0 x_1 X1 B1 hb CR
  obtain ⟨x_0, x_1⟩ : _ ∧ _ := ⟨X2.1 0 _ rfl, X2.1 1 _ rfl⟩
  clear X2
  go_wp2_with fail
  refine (CF.out _).mono ?_
  rintro e w3 ⟨rfl, hb⟩
  have B3 := Lib.hid (bel_on' B2.out hb)
  clear hb x_0 x_1 B2 CF
  have C2 := Lib.hid (CC.out w3 (S0.out.on B3.out))
  clear CC S0
  go_wp2_with fail
  refine C2.out.mono ?_
  rintro e w4 ⟨rfl, hS, hH⟩
  have S3 := Lib.hid hS
  have H3 := Lib.hid ((Hold.of B3.out).trans hH : Hold Z W w4)
  clear hS hH
  go_wp2
  go_ret2
  exact ⟨rfl, S3.out, H3.out⟩
set_option maxRecDepth 100000 in
set_option maxHeartbeats 2000000 in
theorem awake_any (w : World) : Calls Try.prog 17 #[] w fun e w' => e = .returned (.bool true) ∧ Below w.heap.size w w' := by
  have C1 := Lib.hid (sNew 10 (by omega) (by omega) w)
  have C2 : Hid (∀ p W, Sta (fun k => k < w.heap.size) p W 10 [bot, top] → Calls Try.prog 11 #[.pointer (some ⟨p, 0, none⟩), .int .i64 0, .agg #[.int .u32 0, .int .i64 0]] W fun e w' => e = .returned (.tuple #[.int .i64 1, .int .i64 0]) ∧ Sta (fun k => k < w.heap.size) p w' 10 [bot, top] ∧ Hold (fun k => k < w.heap.size) W w') := fun p W h => prefix_none h
  go_enter Try.func17, Try.ntmps17
  go_wp2_with fail
  refine C1.out.mono ?_
  rintro e w1 ⟨p, rfl, hS, hb⟩
  have S1 := Lib.hid hS
  have B1 := Lib.hid hb
  clear hS hb C1
  go_wp2_with fail
  refine (C2.out p w1 S1.out).mono ?_
  rintro e w2 ⟨rfl, hS, hH⟩
  have H2 := Lib.hid hH
  clear hS hH C2 S1
  go_wp2
  go_ret
  exact ⟨rfl, B1.out.trans (H2.out.below B1.out.size (fun k hk => hk))⟩
end Go.Proofs.Ytioanjpeddipmac
