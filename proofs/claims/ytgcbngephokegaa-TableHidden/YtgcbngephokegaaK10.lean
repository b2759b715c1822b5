/- A node and all below it, handed out by prefixes. -/
import Derived.Test.YtgcbngephokegaaK9
namespace Go.Proofs.Ytgcbngephokegaa
open Go.RowKit Go.Maps Go.MapKept Go.ChangeMaps Go.WideElems Go.Joins
set_option linter.unusedVariables false
set_option linter.unusedSimpArgs false

/-- The closure over the box ob. -/
abbrev takeF (ob : Nat) : Value := .func (.func 49) #[] #[.pointer (some ⟨ob, 0, none⟩)]
theorem kt_blk {ob : Nat} {w w' : World} (h : Kt ob w w') {b : Nat} {c : Value} {cs : List Value} {t : TypeId} (hb : Blk w b (c :: cs)) (ht : Typ w b t) (hne : t ≠ 83) (ho : b ≠ ob) : Blk w' b (c :: cs) ∧ Typ w' b t := by
  have hs : ¬ (b = ob ∨ Typ w b 83) := fun q => by
    rcases q with q | ⟨cur, z, q⟩
    · exact ho q
    · obtain ⟨cur', z', k⟩ := ht
      rw [k] at q
      simp at q
      exact hne q.2.1
  exact ⟨Keep.blk h hb hs, ht.keep h hs⟩
set_option maxRecDepth 100000 in
set_option maxHeartbeats 2000000 in
theorem each_00 (W : World) (q : Pth) (hql : q.length ≤ 32) (b o : Nat) (Wo : World) (ob : Nat) (r r1 : List Ent)
    (hW : Hid (Out Wo ob W r))
    (hc : Hid (∀ w, Below ob Wo w → w.cell? ⟨b, o, none⟩ = some (.pointer none) ∧ w.cell? ⟨b, o + 1, none⟩ = some (.pointer none)))
    (HT : Hid (∀ w, Out Wo ob w r → Calls Try.prog 49 #[pv (ad q : Nat) (q.length : Nat), .pointer (some ⟨b, o, none⟩), .pointer (some ⟨ob, 0, none⟩)] w fun e w' => e = .returned (.tuple #[]) ∧ Out Wo ob w' r1 ∧ Kt ob w w'))
    : Calls Try.prog 52 #[.pointer (some ⟨b, o, none⟩), pv (ad q : Nat) (q.length : Nat), takeF ob] W fun e w' => e = .returned (.tuple #[]) ∧ Out Wo ob w' r1 ∧ Kt ob W w' := by
  have i0 : ∀ w : World, (Instr.index 28 (.agg #[.pointer none, .pointer none]) (.int .i64 0)).run Try.prog w = .ok (.pointer none) w := fun _ => by kernel_rfl
  have i1 : ∀ w : World, (Instr.index 28 (.agg #[.pointer none, .pointer none]) (.int .i64 1)).run Try.prog w = .ok (.pointer none) w := fun _ => by kernel_rfl
  go_enter Try.func52, Try.ntmps52
  go_upto_region 1 with fail
  refine at_code (S := fun w1 => Blk w1 W.heap.size [.int .u32 (ad q : Nat), .int .i64 (q.length : Nat)] ∧ Typ w1 W.heap.size 25 ∧ Out Wo ob w1 r ∧ Kt ob W w1 ∧ ob < W.heap.size) ⟨Blk.new _ _ _, Typ.new _ _ _, hW.out.on (bel_al (Below.refl _ _) _), Kt.of (bel_al (Below.refl _ _) _), by obtain ⟨-, v, h, -⟩ := hW.out; exact h.lt⟩ (fun W1 h1 => ?_)
  have X1 := Lib.hid h1.1
  have Y1 := Lib.hid h1.2.1
  have O1 := Lib.hid h1.2.2.1
  have Z1 := Lib.hid h1.2.2.2.1
  have hob := Lib.hid h1.2.2.2.2
  have x_0 := X1.out.1 0 _ rfl
  have x_1 := X1.out.1 1 _ rfl
  clear h1 hW
  go_wp2_with fail
  refine (HT.out W1 O1.out).mono ?_
  rintro e w2 ⟨rfl, hO, hZ⟩
  have O2 := Lib.hid hO
  have Z2 := Lib.hid (Z1.out.trans hZ)
  obtain ⟨hX, hY⟩ := kt_blk hZ X1.out Y1.out (by decide) (Nat.ne_of_gt hob.out)
  have X2 := Lib.hid hX
  have Y2 := Lib.hid hY
  obtain ⟨c0, c1⟩ := hc.out w2 hO.b
  clear x_0 x_1
  have x_0 := hX.1 0 _ rfl
  have x_1 := hX.1 1 _ rfl
  clear hX hY hO hZ O1 Z1 X1 Y1 HT hc
  go_wp2_with fail
  clear c0 c1
  refine wp_loop_rounds 3 ?_
  rw [rounds_succ]
  go_wp2_with fail
  rw [rounds_succ]
  go_wp2_with fail
  rw [rounds_succ]
  go_wp2
  refine bodyPost_end (v := .tuple #[]) (by simp [results, Try.results52]) rfl ?_
  exact ⟨rfl, O2.out, Z2.out⟩
set_option maxRecDepth 100000 in
set_option maxHeartbeats 2000000 in
theorem each_10 (W : World) (q : Pth) (hql : q.length ≤ 32) (b o : Nat) (y0 : Addr) (Wo : World) (ob : Nat) (r r1 r2 : List Ent)
    (hW : Hid (Out Wo ob W r))
    (hc : Hid (∀ w, Below ob Wo w → w.cell? ⟨b, o, none⟩ = some (.pointer (some y0)) ∧ w.cell? ⟨b, o + 1, none⟩ = some (.pointer none)))
    (HT : Hid (∀ w, Out Wo ob w r → Calls Try.prog 49 #[pv (ad q : Nat) (q.length : Nat), .pointer (some ⟨b, o, none⟩), .pointer (some ⟨ob, 0, none⟩)] w fun e w' => e = .returned (.tuple #[]) ∧ Out Wo ob w' r1 ∧ Kt ob w w'))
    (HW0 : Hid (∀ w, Calls Try.prog 70 #[pv (ad q : Nat) (q.length : Nat), .int .i64 0] w fun e w' => e = .returned (pv (ad (q ++ [false]) : Nat) ((q ++ [false]).length : Nat)) ∧ Below w.heap.size w w'))
    (D0 : Hid (∀ w, Out Wo ob w r1 → Calls Try.prog 52 #[.pointer (some y0), pv (ad (q ++ [false]) : Nat) ((q ++ [false]).length : Nat), takeF ob] w fun e w' => e = .returned (.tuple #[]) ∧ Out Wo ob w' r2 ∧ Kt ob w w'))
    : Calls Try.prog 52 #[.pointer (some ⟨b, o, none⟩), pv (ad q : Nat) (q.length : Nat), takeF ob] W fun e w' => e = .returned (.tuple #[]) ∧ Out Wo ob w' r2 ∧ Kt ob W w' := by
  have i0 : ∀ w : World, (Instr.index 28 (.agg #[.pointer (some y0), .pointer none]) (.int .i64 0)).run Try.prog w = .ok (.pointer (some y0)) w := fun _ => by kernel_rfl
  have i1 : ∀ w : World, (Instr.index 28 (.agg #[.pointer (some y0), .pointer none]) (.int .i64 1)).run Try.prog w = .ok (.pointer none) w := fun _ => by kernel_rfl
  generalize hk0 : (q ++ [false]).length = n0 at HW0 D0
  generalize hd0 : ad (q ++ [false]) = d0 at HW0 D0
  clear hk0 hd0
  go_enter Try.func52, Try.ntmps52
  go_upto_region 1 with fail
  refine at_code (S := fun w1 => Blk w1 W.heap.size [.int .u32 (ad q : Nat), .int .i64 (q.length : Nat)] ∧ Typ w1 W.heap.size 25 ∧ Out Wo ob w1 r ∧ Kt ob W w1 ∧ ob < W.heap.size) ⟨Blk.new _ _ _, Typ.new _ _ _, hW.out.on (bel_al (Below.refl _ _) _), Kt.of (bel_al (Below.refl _ _) _), by obtain ⟨-, v, h, -⟩ := hW.out; exact h.lt⟩ (fun W1 h1 => ?_)
  have X1 := Lib.hid h1.1
  have Y1 := Lib.hid h1.2.1
  have O1 := Lib.hid h1.2.2.1
  have Z1 := Lib.hid h1.2.2.2.1
  have hob := Lib.hid h1.2.2.2.2
  have x_0 := X1.out.1 0 _ rfl
  have x_1 := X1.out.1 1 _ rfl
  clear h1 hW
  go_wp2_with fail
  refine (HT.out W1 O1.out).mono ?_
  rintro e w2 ⟨rfl, hO, hZ⟩
  have O2 := Lib.hid hO
  have Z2 := Lib.hid (Z1.out.trans hZ)
  obtain ⟨hX, hY⟩ := kt_blk hZ X1.out Y1.out (by decide) (Nat.ne_of_gt hob.out)
  have X2 := Lib.hid hX
  have Y2 := Lib.hid hY
  obtain ⟨c0, c1⟩ := hc.out w2 hO.b
  clear x_0 x_1
  have x_0 := hX.1 0 _ rfl
  have x_1 := hX.1 1 _ rfl
  clear hX hY hO hZ O1 Z1 X1 Y1 HT hc
  go_wp2_with fail
  clear c0 c1
  refine wp_loop_rounds 3 ?_
  rw [rounds_succ]
  go_wp2_with fail
  refine (HW0.out w2).mono ?_
  rintro e w3 ⟨rfl, hb⟩
  have O3 := Lib.hid (O2.out.on hb)
  have Z3 := Lib.hid (Z2.out.on hb)
  have X3 := Lib.hid (X2.out.on hb)
  have Y3 := Lib.hid (Y2.out.on hb)
  clear hb O2 Z2 X2 Y2 HW0 x_0 x_1
  go_wp2_with fail
  refine (D0.out w3 O3.out).mono ?_
  rintro e w4 ⟨rfl, hO, hZ⟩
  have O4 := Lib.hid hO
  have Z4 := Lib.hid (Z3.out.trans hZ)
  obtain ⟨hX, hY⟩ := kt_blk hZ X3.out Y3.out (by decide) (Nat.ne_of_gt hob.out)
  have X4 := Lib.hid hX
  have Y4 := Lib.hid hY
  have x_0 := hX.1 0 _ rfl
  have x_1 := hX.1 1 _ rfl
  clear hX hY hO hZ O3 Z3 X3 Y3 D0
  go_wp2_with fail
  rw [rounds_succ]
  go_wp2_with fail
  rw [rounds_succ]
  go_wp2
  refine bodyPost_end (v := .tuple #[]) (by simp [results, Try.results52]) rfl ?_
  exact ⟨rfl, O4.out, Z4.out⟩
set_option maxRecDepth 100000 in
set_option maxHeartbeats 2000000 in
theorem each_01 (W : World) (q : Pth) (hql : q.length ≤ 32) (b o : Nat) (y1 : Addr) (Wo : World) (ob : Nat) (r r1 r3 : List Ent)
    (hW : Hid (Out Wo ob W r))
    (hc : Hid (∀ w, Below ob Wo w → w.cell? ⟨b, o, none⟩ = some (.pointer none) ∧ w.cell? ⟨b, o + 1, none⟩ = some (.pointer (some y1))))
    (HT : Hid (∀ w, Out Wo ob w r → Calls Try.prog 49 #[pv (ad q : Nat) (q.length : Nat), .pointer (some ⟨b, o, none⟩), .pointer (some ⟨ob, 0, none⟩)] w fun e w' => e = .returned (.tuple #[]) ∧ Out Wo ob w' r1 ∧ Kt ob w w'))
    (HW1 : Hid (∀ w, Calls Try.prog 70 #[pv (ad q : Nat) (q.length : Nat), .int .i64 1] w fun e w' => e = .returned (pv (ad (q ++ [true]) : Nat) ((q ++ [true]).length : Nat)) ∧ Below w.heap.size w w'))
    (D1 : Hid (∀ w, Out Wo ob w r1 → Calls Try.prog 52 #[.pointer (some y1), pv (ad (q ++ [true]) : Nat) ((q ++ [true]).length : Nat), takeF ob] w fun e w' => e = .returned (.tuple #[]) ∧ Out Wo ob w' r3 ∧ Kt ob w w'))
    : Calls Try.prog 52 #[.pointer (some ⟨b, o, none⟩), pv (ad q : Nat) (q.length : Nat), takeF ob] W fun e w' => e = .returned (.tuple #[]) ∧ Out Wo ob w' r3 ∧ Kt ob W w' := by
  have i0 : ∀ w : World, (Instr.index 28 (.agg #[.pointer none, .pointer (some y1)]) (.int .i64 0)).run Try.prog w = .ok (.pointer none) w := fun _ => by kernel_rfl
  have i1 : ∀ w : World, (Instr.index 28 (.agg #[.pointer none, .pointer (some y1)]) (.int .i64 1)).run Try.prog w = .ok (.pointer (some y1)) w := fun _ => by kernel_rfl
  generalize hk1 : (q ++ [true]).length = n1 at HW1 D1
  generalize hd1 : ad (q ++ [true]) = d1 at HW1 D1
  clear hk1 hd1
  go_enter Try.func52, Try.ntmps52
  go_upto_region 1 with fail
  refine at_code (S := fun w1 => Blk w1 W.heap.size [.int .u32 (ad q : Nat), .int .i64 (q.length : Nat)] ∧ Typ w1 W.heap.size 25 ∧ Out Wo ob w1 r ∧ Kt ob W w1 ∧ ob < W.heap.size) ⟨Blk.new _ _ _, Typ.new _ _ _, hW.out.on (bel_al (Below.refl _ _) _), Kt.of (bel_al (Below.refl _ _) _), by obtain ⟨-, v, h, -⟩ := hW.out; exact h.lt⟩ (fun W1 h1 => ?_)
  have X1 := Lib.hid h1.1
  have Y1 := Lib.hid h1.2.1
  have O1 := Lib.hid h1.2.2.1
  have Z1 := Lib.hid h1.2.2.2.1
  have hob := Lib.hid h1.2.2.2.2
  have x_0 := X1.out.1 0 _ rfl
  have x_1 := X1.out.1 1 _ rfl
  clear h1 hW
  go_wp2_with fail
  refine (HT.out W1 O1.out).mono ?_
  rintro e w2 ⟨rfl, hO, hZ⟩
  have O2 := Lib.hid hO
  have Z2 := Lib.hid (Z1.out.trans hZ)
  obtain ⟨hX, hY⟩ := kt_blk hZ X1.out Y1.out (by decide) (Nat.ne_of_gt hob.out)
  have X2 := Lib.hid hX
  have Y2 := Lib.hid hY
  obtain ⟨c0, c1⟩ := hc.out w2 hO.b
  clear x_0 x_1
  have x_0 := hX.1 0 _ rfl
  have x_1 := hX.1 1 _ rfl
  clear hX hY hO hZ O1 Z1 X1 Y1 HT hc
  go_wp2_with fail
  clear c0 c1
  refine wp_loop_rounds 3 ?_
  rw [rounds_succ]
  go_wp2_with fail
  rw [rounds_succ]
  go_wp2_with fail
  refine (HW1.out w2).mono ?_
  rintro e w3 ⟨rfl, hb⟩
  have O3 := Lib.hid (O2.out.on hb)
  have Z3 := Lib.hid (Z2.out.on hb)
  have X3 := Lib.hid (X2.out.on hb)
  have Y3 := Lib.hid (Y2.out.on hb)
  clear hb O2 Z2 X2 Y2 HW1 x_0 x_1
  go_wp2_with fail
  refine (D1.out w3 O3.out).mono ?_
  rintro e w4 ⟨rfl, hO, hZ⟩
  have O4 := Lib.hid hO
  have Z4 := Lib.hid (Z3.out.trans hZ)
  obtain ⟨hX, hY⟩ := kt_blk hZ X3.out Y3.out (by decide) (Nat.ne_of_gt hob.out)
  have X4 := Lib.hid hX
  have Y4 := Lib.hid hY
  have x_0 := hX.1 0 _ rfl
  have x_1 := hX.1 1 _ rfl
  clear hX hY hO hZ O3 Z3 X3 Y3 D1
  go_wp2_with fail
  rw [rounds_succ]
  go_wp2
  refine bodyPost_end (v := .tuple #[]) (by simp [results, Try.results52]) rfl ?_
  exact ⟨rfl, O4.out, Z4.out⟩
set_option maxRecDepth 100000 in
set_option maxHeartbeats 2000000 in
theorem each_11 (W : World) (q : Pth) (hql : q.length ≤ 32) (b o : Nat) (y0 y1 : Addr) (Wo : World) (ob : Nat) (r r1 r2 r3 : List Ent)
    (hW : Hid (Out Wo ob W r))
    (hc : Hid (∀ w, Below ob Wo w → w.cell? ⟨b, o, none⟩ = some (.pointer (some y0)) ∧ w.cell? ⟨b, o + 1, none⟩ = some (.pointer (some y1))))
    (HT : Hid (∀ w, Out Wo ob w r → Calls Try.prog 49 #[pv (ad q : Nat) (q.length : Nat), .pointer (some ⟨b, o, none⟩), .pointer (some ⟨ob, 0, none⟩)] w fun e w' => e = .returned (.tuple #[]) ∧ Out Wo ob w' r1 ∧ Kt ob w w'))
    (HW0 : Hid (∀ w, Calls Try.prog 70 #[pv (ad q : Nat) (q.length : Nat), .int .i64 0] w fun e w' => e = .returned (pv (ad (q ++ [false]) : Nat) ((q ++ [false]).length : Nat)) ∧ Below w.heap.size w w'))
    (D0 : Hid (∀ w, Out Wo ob w r1 → Calls Try.prog 52 #[.pointer (some y0), pv (ad (q ++ [false]) : Nat) ((q ++ [false]).length : Nat), takeF ob] w fun e w' => e = .returned (.tuple #[]) ∧ Out Wo ob w' r2 ∧ Kt ob w w'))
    (HW1 : Hid (∀ w, Calls Try.prog 70 #[pv (ad q : Nat) (q.length : Nat), .int .i64 1] w fun e w' => e = .returned (pv (ad (q ++ [true]) : Nat) ((q ++ [true]).length : Nat)) ∧ Below w.heap.size w w'))
    (D1 : Hid (∀ w, Out Wo ob w r2 → Calls Try.prog 52 #[.pointer (some y1), pv (ad (q ++ [true]) : Nat) ((q ++ [true]).length : Nat), takeF ob] w fun e w' => e = .returned (.tuple #[]) ∧ Out Wo ob w' r3 ∧ Kt ob w w'))
    : Calls Try.prog 52 #[.pointer (some ⟨b, o, none⟩), pv (ad q : Nat) (q.length : Nat), takeF ob] W fun e w' => e = .returned (.tuple #[]) ∧ Out Wo ob w' r3 ∧ Kt ob W w' := by
  have i0 : ∀ w : World, (Instr.index 28 (.agg #[.pointer (some y0), .pointer (some y1)]) (.int .i64 0)).run Try.prog w = .ok (.pointer (some y0)) w := fun _ => by kernel_rfl
  have i1 : ∀ w : World, (Instr.index 28 (.agg #[.pointer (some y0), .pointer (some y1)]) (.int .i64 1)).run Try.prog w = .ok (.pointer (some y1)) w := fun _ => by kernel_rfl
  generalize hk0 : (q ++ [false]).length = n0 at HW0 D0
  generalize hd0 : ad (q ++ [false]) = d0 at HW0 D0
  clear hk0 hd0
  generalize hk1 : (q ++ [true]).length = n1 at HW1 D1
  generalize hd1 : ad (q ++ [true]) = d1 at HW1 D1
  clear hk1 hd1
  go_enter Try.func52, Try.ntmps52
  go_upto_region 1 with fail
  refine at_code (S := fun w1 => Blk w1 W.heap.size [.int .u32 (ad q : Nat), .int .i64 (q.length : Nat)] ∧ Typ w1 W.heap.size 25 ∧ Out Wo ob w1 r ∧ Kt ob W w1 ∧ ob < W.heap.size) ⟨Blk.new _ _ _, Typ.new _ _ _, hW.out.on (bel_al (Below.refl _ _) _), Kt.of (bel_al (Below.refl _ _) _), by obtain ⟨-, v, h, -⟩ := hW.out; exact h.lt⟩ (fun W1 h1 => ?_)
  have X1 := Lib.hid h1.1
  have Y1 := Lib.hid h1.2.1
  have O1 := Lib.hid h1.2.2.1
  have Z1 := Lib.hid h1.2.2.2.1
  have hob := Lib.hid h1.2.2.2.2
  have x_0 := X1.out.1 0 _ rfl
  have x_1 := X1.out.1 1 _ rfl
  clear h1 hW
  go_wp2_with fail
  refine (HT.out W1 O1.out).mono ?_
  rintro e w2 ⟨rfl, hO, hZ⟩
  have O2 := Lib.hid hO
  have Z2 := Lib.hid (Z1.out.trans hZ)
  obtain ⟨hX, hY⟩ := kt_blk hZ X1.out Y1.out (by decide) (Nat.ne_of_gt hob.out)
  have X2 := Lib.hid hX
  have Y2 := Lib.hid hY
  obtain ⟨c0, c1⟩ := hc.out w2 hO.b
  clear x_0 x_1
  have x_0 := hX.1 0 _ rfl
  have x_1 := hX.1 1 _ rfl
  clear hX hY hO hZ O1 Z1 X1 Y1 HT hc
  go_wp2_with fail
  clear c0 c1
  refine wp_loop_rounds 3 ?_
  rw [rounds_succ]
  go_wp2_with fail
  refine (HW0.out w2).mono ?_
  rintro e w3 ⟨rfl, hb⟩
  have O3 := Lib.hid (O2.out.on hb)
  have Z3 := Lib.hid (Z2.out.on hb)
  have X3 := Lib.hid (X2.out.on hb)
  have Y3 := Lib.hid (Y2.out.on hb)
  clear hb O2 Z2 X2 Y2 HW0 x_0 x_1
  go_wp2_with fail
  refine (D0.out w3 O3.out).mono ?_
  rintro e w4 ⟨rfl, hO, hZ⟩
  have O4 := Lib.hid hO
  have Z4 := Lib.hid (Z3.out.trans hZ)
  obtain ⟨hX, hY⟩ := kt_blk hZ X3.out Y3.out (by decide) (Nat.ne_of_gt hob.out)
  have X4 := Lib.hid hX
  have Y4 := Lib.hid hY
  have x_0 := hX.1 0 _ rfl
  have x_1 := hX.1 1 _ rfl
  clear hX hY hO hZ O3 Z3 X3 Y3 D0
  go_wp2_with fail
  rw [rounds_succ]
  go_wp2_with fail
  refine (HW1.out w4).mono ?_
  rintro e w5 ⟨rfl, hb⟩
  have O5 := Lib.hid (O4.out.on hb)
  have Z5 := Lib.hid (Z4.out.on hb)
  have X5 := Lib.hid (X4.out.on hb)
  have Y5 := Lib.hid (Y4.out.on hb)
  clear hb O4 Z4 X4 Y4 HW1 x_0 x_1
  go_wp2_with fail
  refine (D1.out w5 O5.out).mono ?_
  rintro e w6 ⟨rfl, hO, hZ⟩
  have O6 := Lib.hid hO
  have Z6 := Lib.hid (Z5.out.trans hZ)
  obtain ⟨hX, hY⟩ := kt_blk hZ X5.out Y5.out (by decide) (Nat.ne_of_gt hob.out)
  have X6 := Lib.hid hX
  have Y6 := Lib.hid hY
  have x_0 := hX.1 0 _ rfl
  have x_1 := hX.1 1 _ rfl
  clear hX hY hO hZ O5 Z5 X5 Y5 D1
  go_wp2_with fail
  rw [rounds_succ]
  go_wp2
  refine bodyPost_end (v := .tuple #[]) (by simp [results, Try.results52]) rfl ?_
  exact ⟨rfl, O6.out, Z6.out⟩
end Go.Proofs.Ytgcbngephokegaa
