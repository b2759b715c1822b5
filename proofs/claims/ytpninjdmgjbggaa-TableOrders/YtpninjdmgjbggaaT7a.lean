/- TableOrders, a case. -/
import Derived.Test.YtpninjdmgjbggaaT7
namespace Go.Proofs.Ytpninjdmgjbggaa
open Go.RowKit
set_option linter.unusedVariables false
set_option linter.unusedSimpArgs false

set_option maxRecDepth 100000 in
set_option maxHeartbeats 2000000 in
theorem orders_m1 (x y z : Ru) (W : World)
    (H1 : Hid (∀ w, Calls Try.prog 44 #[rv x, rv y] w fun e w' => e = .returned (.int .i64 (-1)) ∧ Below w.heap.size w w'))
    (H2 : Hid (∀ w, Calls Try.prog 44 #[rv y, rv z] w fun e w' => e = .returned (.int .i64 (-1)) ∧ Below w.heap.size w w'))
    (H3 : Hid (∀ w, Calls Try.prog 44 #[rv x, rv z] w fun e w' => e = .returned (.int .i64 (-1)) ∧ Below w.heap.size w w'))
    (H4 : Hid (∀ w, Calls Try.prog 44 #[rv y, rv x] w fun e w' => e = .returned (.int .i64 1) ∧ Below w.heap.size w w'))
    (H5 : Hid (∀ w, Calls Try.prog 44 #[rv x, rv x] w fun e w' => e = .returned (.int .i64 0) ∧ Below w.heap.size w w'))
    (hab : aheadB x y = true) :
    Calls Try.prog 10 #[rv x, rv y, rv z] W fun e w' => e = .returned (.bool true) ∧ Below W.heap.size W w' := by
  have HW := Lib.hid tawake_any
  go_enter Try.func10, Try.ntmps10
  go_upto_region 1 with fail
  refine at_code (S := B3 W x y z) (B3.new W x y z) (fun W0 h0 => ?_)
  have X0 := Lib.hid h0
  obtain ⟨⟨x_0, x_1, x_2, x_3, x_4, x_5⟩, -⟩ := blk_ru h0.x
  obtain ⟨⟨y_0, y_1, y_2, y_3, y_4, y_5⟩, -⟩ := blk_ru h0.y
  obtain ⟨⟨z_0, z_1, z_2, z_3, z_4, z_5⟩, -⟩ := blk_ru h0.z
  clear h0
  go_region_held3 (fun w' => Below W0.heap.size W0 w' ∧ ∀ b o, (W0.cell? ⟨b, o, none⟩).isSome = true → w'.cell? ⟨b, o, none⟩ = W0.cell? ⟨b, o, none⟩)
    ((refine ckeep ?_; repeat (first | exact Below.refl _ _ | assumption | exact And.left (by assumption) | refine Below.drew ?_ | refine cbelow_al ?_ _ | refine bel_on' ?_ (by assumption))))
    (first | (go_at_call 44; (with_reducible refine (H1.out _).mono ?_); rintro e w' ⟨rfl, hb⟩) | (go_at_call 44; (with_reducible refine (H2.out _).mono ?_); rintro e w' ⟨rfl, hb⟩) | (go_at_call 44; (with_reducible refine (H3.out _).mono ?_); rintro e w' ⟨rfl, hb⟩))
  all_goals
    rename_i hH
    have X1 := Lib.hid (X0.out.on hH.1)
    clear hH x_0 x_1 x_2 x_3 x_4 x_5 y_0 y_1 y_2 y_3 y_4 y_5 z_0 z_1 z_2 z_3 z_4 z_5 X0 H1 H2 H3
    obtain ⟨⟨x_0, x_1, x_2, x_3, x_4, x_5⟩, -⟩ := blk_ru X1.out.x
    obtain ⟨⟨y_0, y_1, y_2, y_3, y_4, y_5⟩, -⟩ := blk_ru X1.out.y
    have HA := Lib.hid (fun w => ahead_any x y w)
    rw [hab] at HA
    clear hab
    go_wp2_with fail
    refine (H4.out _).mono ?_
    rintro e w2 ⟨rfl, hb⟩
    have X2 := Lib.hid (X1.out.on hb)
    clear hb x_0 x_1 x_2 x_3 x_4 x_5 y_0 y_1 y_2 y_3 y_4 y_5 X1 H4
    obtain ⟨⟨x_0, x_1, x_2, x_3, x_4, x_5⟩, -⟩ := blk_ru X2.out.x
    go_wp2_with fail
    refine (H5.out _).mono ?_
    rintro e w3 ⟨rfl, hb⟩
    have X3 := Lib.hid (X2.out.on hb)
    clear hb x_0 x_1 x_2 x_3 x_4 x_5 X2 H5
    obtain ⟨⟨x_0, x_1, x_2, x_3, x_4, x_5⟩, -⟩ := blk_ru X3.out.x
    obtain ⟨⟨y_0, y_1, y_2, y_3, y_4, y_5⟩, -⟩ := blk_ru X3.out.y
    go_wp2_with fail
    refine (HA.out _).mono ?_
    rintro e w4 ⟨rfl, hb⟩
    have X4 := Lib.hid (X3.out.on hb).b
    clear hb x_0 x_1 x_2 x_3 x_4 x_5 y_0 y_1 y_2 y_3 y_4 y_5 X3 HA
    go_wp2_with fail
    refine (HW.out _).mono ?_
    rintro e w5 ⟨rfl, hb⟩
    have X5 := Lib.hid (bel_on' X4.out hb)
    clear hb X4 HW
    go_wp2
    go_ret
    exact ⟨rfl, X5.out⟩
end Go.Proofs.Ytpninjdmgjbggaa
