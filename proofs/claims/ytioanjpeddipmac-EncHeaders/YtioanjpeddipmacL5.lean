/- EncHeaders: the walk. -/
import Derived.Test.YtioanjpeddipmacE4
import Derived.Test.YtioanjpeddipmacE5
namespace Go.Proofs.Ytioanjpeddipmac
open Go.RowKit
set_option linter.unusedVariables false

set_option maxRecDepth 100000 in
set_option maxHeartbeats 8000000 in
theorem encH5 (d s q x y a : Nat) (ns1 ns2 : List Nd) (W : World)
    (C1 : Hid (∀ Z p w, Sta Z p w 1024 [bot, top] → Calls Try.prog 21 #[.pointer (some ⟨p, 0, none⟩), hv d s q x y] w fun e w' => e = .returned (.tuple #[.int .i64 (a : Nat), .int .i64 0]) ∧ Sta Z p w' 1024 ns1 ∧ Hold Z w w'))
    (C2 : Hid (∀ Z p w, Sta Z p w 1024 ns1 → Calls Try.prog 21 #[.pointer (some ⟨p, 0, none⟩), hv d s q x y] w fun e w' => e = .returned (.tuple #[.int .i64 (a : Nat), .int .i64 0]) ∧ Sta Z p w' 1024 ns2 ∧ Hold Z w w'))
    (C3 : Hid (∀ Z p w, Sta Z p w 1024 ns2 → Calls Try.prog 13 #[.pointer (some ⟨p, 0, none⟩), .int .i64 (a : Nat), hv d s q x y] w fun e w' => e = .returned (.bool true) ∧ Below w.heap.size w w'))
    (C4 : Hid (∀ Z p w, Sta Z p w 1024 ns2 → Calls Try.prog 13 #[.pointer (some ⟨p, 0, none⟩), .int .i64 (a : Nat), hv d s q x y] w fun e w' => e = .returned (.bool true) ∧ Below w.heap.size w w')) :
    Calls Try.prog 5 #[hv d s q x y, hv d s q x y] W fun e w' => e = .returned (.bool true) ∧ Below W.heap.size W w' := by
  have CA := Lib.hid (fun w => awake_any w)
  have CN := Lib.hid (fun w => sNew 1024 (by omega) (by omega) w)
  go_enter Try.func5, Try.ntmps5
  go_upto_region 1 with fail
  refine at_code (S := fun w => Blk w W.heap.size [.int .u32 (d : Nat), .int .u32 (s : Nat), .int .u8 (q : Nat), .int .u16 (x : Nat), .int .u16 (y : Nat)] ∧ Blk w (W.heap.size + 1) [.int .u32 (d : Nat), .int .u32 (s : Nat), .int .u8 (q : Nat), .int .u16 (x : Nat), .int .u16 (y : Nat)] ∧ Below W.heap.size W w ∧ w.heap.size = W.heap.size + 2) ⟨?_, ?_, bel_al (bel_al (Below.refl _ _) _) _, by simp⟩ (fun W0 hW => ?_)
  · exact (Blk.new W _ [.int .u32 (d : Nat), .int .u32 (s : Nat), .int .u8 (q : Nat), .int .u16 (x : Nat), .int .u16 (y : Nat)]).on (bel_al (Below.refl _ _) _)
  · have k := Blk.new (W.alloc (.cells #[.int .u32 (d : Nat), .int .u32 (s : Nat), .int .u8 (q : Nat), .int .u16 (x : Nat), .int .u16 (y : Nat)] 29)) 29 [.int .u32 (d : Nat), .int .u32 (s : Nat), .int .u8 (q : Nat), .int .u16 (x : Nat), .int .u16 (y : Nat)]
    rw [World.size_alloc] at k
    exact k
  obtain ⟨hX, hY, hb, hsz⟩ := hW
  have X0 := Lib.hid hX
  have Y0 := Lib.hid hY
  have B0 := Lib.hid hb
  clear hX hY hb
  go_wp2_with fail
  refine (CN.out _).mono ?_
  rintro e w1 ⟨p, rfl, hS, hb⟩
  have S1 := Lib.hid hS
  have X1 := X0.out.on hb
  have Y1 := Lib.hid (Y0.out.on hb)
  have B1 := Lib.hid hb
  clear hS hb CN X0 Y0
  obtain ⟨x_0, x_1, x_2, x_3, x_4⟩ : _ ∧ _ ∧ _ ∧ _ ∧ _ := ⟨X1.1 0 _ rfl, X1.1 1 _ rfl, X1.1 2 _ rfl, X1.1 3 _ rfl, X1.1 4 _ rfl⟩
  have X1h := Lib.hid X1
  clear X1
  have D1 := Lib.hid (C1.out _ p w1 S1.out)
  clear C1 S1
  go_wp2_with fail
  refine D1.out.mono ?_
  rintro e w2 ⟨rfl, hS, hH⟩
  have S2 := Lib.hid hS
  have H2 := Lib.hid hH
  have X2 := Lib.hid (hH.blk (by show W.heap.size < W0.heap.size; omega) X1h.out)
  have Y2 := hH.blk (by show W.heap.size + 1 < W0.heap.size; omega) Y1.out
  clear hS hH D1 x_0 x_1 x_2 x_3 x_4 X1h Y1
  obtain ⟨y_0, y_1, y_2, y_3, y_4⟩ : _ ∧ _ ∧ _ ∧ _ ∧ _ := ⟨Y2.1 0 _ rfl, Y2.1 1 _ rfl, Y2.1 2 _ rfl, Y2.1 3 _ rfl, Y2.1 4 _ rfl⟩
  have Y2h := Lib.hid Y2
  clear Y2
  have D2 := Lib.hid (C2.out _ p w2 S2.out)
  clear C2 S2
  go_wp2_with fail
  refine D2.out.mono ?_
  rintro e w3 ⟨rfl, hS, hH⟩
  have S3 := Lib.hid hS
  have B3 := Lib.hid (show Below W.heap.size W w3 from (B0.out.trans (B1.out.mono (by omega))).trans ((H2.out.trans hH).below (by have := B1.out.size; omega) (fun k hk => by show k < W0.heap.size; omega)))
  have X3 := Lib.hid (hH.blk (by show W.heap.size < W0.heap.size; omega) X2.out)
  have Y3 := Lib.hid (hH.blk (by show W.heap.size + 1 < W0.heap.size; omega) Y2h.out)
  clear hS hH D2 y_0 y_1 y_2 y_3 y_4 X2 Y2h H2 B0 B1 hsz
  have C3' := Lib.hid (C3.out (fun k => k < W0.heap.size) p)
  clear C3
  have C4' := Lib.hid (C4.out (fun k => k < W0.heap.size) p)
  clear C4
  go_upto_region 6 with fail
  refine wp_region_noPanic ?_
  refine wp_region_along (S := fun w' => w'.cell? ⟨W.heap.size, 0, none⟩ = some (.int .u32 (d : Nat)) ∧ w'.cell? ⟨W.heap.size, 1, none⟩ = some (.int .u32 (s : Nat)) ∧ w'.cell? ⟨W.heap.size, 2, none⟩ = some (.int .u8 (q : Nat)) ∧ w'.cell? ⟨W.heap.size, 3, none⟩ = some (.int .u16 (x : Nat)) ∧ w'.cell? ⟨W.heap.size, 4, none⟩ = some (.int .u16 (y : Nat)) ∧ w'.cell? ⟨W.heap.size + 1, 0, none⟩ = some (.int .u32 (d : Nat)) ∧ w'.cell? ⟨W.heap.size + 1, 1, none⟩ = some (.int .u32 (s : Nat)) ∧ w'.cell? ⟨W.heap.size + 1, 2, none⟩ = some (.int .u8 (q : Nat)) ∧ w'.cell? ⟨W.heap.size + 1, 3, none⟩ = some (.int .u16 (x : Nat)) ∧ w'.cell? ⟨W.heap.size + 1, 4, none⟩ = some (.int .u16 (y : Nat))) ([(0, false), (1, true), (2, true), (3, true), (4, true), (5, true), (6, true), (7, true), (8, true), (9, true), (10, true), (11, true), (12, true), (13, false), (14, true), (15, true)] ++ ([(16, true), (17, true), (18, true), (20, true), (21, true), (22, true), (19, false), (23, true), (24, true), (25, true), (26, true), (27, true), (28, true), (29, true), (30, true), (31, true), (32, true), (33, true), (34, true)])) (by kernel_rfl) (by as_aux_lemma => kernel_rfl) (by kernel_rfl) (by kernel_rfl) (alongPre_append _ _ _ (by as_aux_lemma => kernel_rfl) (by as_aux_lemma => kernel_rfl)) (by as_aux_lemma => kernel_rfl) (fun _ _ _ _ _ h => h) ⟨X3.out.1 0 _ rfl, X3.out.1 1 _ rfl, X3.out.1 2 _ rfl, X3.out.1 3 _ rfl, X3.out.1 4 _ rfl, Y3.out.1 0 _ rfl, Y3.out.1 1 _ rfl, Y3.out.1 2 _ rfl, Y3.out.1 3 _ rfl, Y3.out.1 4 _ rfl⟩ (fun hH => ?_)
  simp only [List.cons_append, List.nil_append, stepsOf, pickOp]
  clear hH
  refine along_bar (fun K hK => ?_)
  go_simp
  refine (CA.out w3.drew).mono ?_
  rintro e w4 ⟨rfl, hb⟩
  try go_wp2_with fail
  have b4 : Below w3.heap.size w3 w4 := bel_on' (Below.refl _ _).drew hb
  have B4 := Lib.hid b4
  have X4 := Lib.hid (X3.out.on b4)
  have Y4 := Lib.hid (Y3.out.on b4)
  have C5 := Lib.hid (C3'.out w4 (S3.out.on b4))
  clear b4 hb
  refine hK.out _ _ ⟨X4.out.1 0 _ rfl, X4.out.1 1 _ rfl, X4.out.1 2 _ rfl, X4.out.1 3 _ rfl, X4.out.1 4 _ rfl, Y4.out.1 0 _ rfl, Y4.out.1 1 _ rfl, Y4.out.1 2 _ rfl, Y4.out.1 3 _ rfl, Y4.out.1 4 _ rfl⟩ (fun hH => ?_)
  clear hK K
  try simp only [Act.put, List.setIfInBounds_toArray, List.set_cons_zero, List.set_cons_succ]
  iterate 12 (first | (refine along_skip (by rfl) ?_; try simp only [Act.put, List.setIfInBounds_toArray, List.set_cons_zero, List.set_cons_succ]) | (refine along_pure ?_ (by rfl) (fun w hSw => ?_) ?_; rotate_left; (obtain ⟨s_0, s_1, s_2, s_3, s_4, s_5, s_6, s_7, s_8, s_9⟩ := hSw; go_simp; try with_reducible rfl); try simp only [Act.put, List.setIfInBounds_toArray, List.set_cons_zero, List.set_cons_succ]))
  clear hH
  refine along_bar (fun K hK => ?_)
  go_simp
  refine C5.out.mono ?_
  rintro e w5 ⟨rfl, hb⟩
  try go_wp2_with fail
  have b5 : Below w3.heap.size w3 w5 := bel_on' B4.out hb
  have B5 := Lib.hid b5
  have X5 := Lib.hid (X3.out.on b5)
  have Y5 := Lib.hid (Y3.out.on b5)
  have C6 := Lib.hid (C4'.out w5 (S3.out.on b5))
  clear b5 hb
  refine hK.out _ _ ⟨X5.out.1 0 _ rfl, X5.out.1 1 _ rfl, X5.out.1 2 _ rfl, X5.out.1 3 _ rfl, X5.out.1 4 _ rfl, Y5.out.1 0 _ rfl, Y5.out.1 1 _ rfl, Y5.out.1 2 _ rfl, Y5.out.1 3 _ rfl, Y5.out.1 4 _ rfl⟩ (fun hH => ?_)
  clear hK K
  try simp only [Act.put, List.setIfInBounds_toArray, List.set_cons_zero, List.set_cons_succ]
  iterate 8 (first | (refine along_skip (by rfl) ?_; try simp only [Act.put, List.setIfInBounds_toArray, List.set_cons_zero, List.set_cons_succ]) | (refine along_pure ?_ (by rfl) (fun w hSw => ?_) ?_; rotate_left; (obtain ⟨s_0, s_1, s_2, s_3, s_4, s_5, s_6, s_7, s_8, s_9⟩ := hSw; go_simp; try with_reducible rfl); try simp only [Act.put, List.setIfInBounds_toArray, List.set_cons_zero, List.set_cons_succ]))
  clear hH
  refine along_bar (fun K hK => ?_)
  go_simp
  refine C6.out.mono ?_
  rintro e w6 ⟨rfl, hb⟩
  try go_wp2_with fail
  have b6 : Below w3.heap.size w3 w6 := bel_on' B5.out hb
  have B6 := Lib.hid b6
  have X6 := Lib.hid (X3.out.on b6)
  have Y6 := Lib.hid (Y3.out.on b6)
  clear b6 hb
  refine hK.out _ _ ⟨X6.out.1 0 _ rfl, X6.out.1 1 _ rfl, X6.out.1 2 _ rfl, X6.out.1 3 _ rfl, X6.out.1 4 _ rfl, Y6.out.1 0 _ rfl, Y6.out.1 1 _ rfl, Y6.out.1 2 _ rfl, Y6.out.1 3 _ rfl, Y6.out.1 4 _ rfl⟩ (fun hH => ?_)
  clear hK K
  try simp only [Act.put, List.setIfInBounds_toArray, List.set_cons_zero, List.set_cons_succ]
  iterate 12 (first | (refine along_skip (by rfl) ?_; try simp only [Act.put, List.setIfInBounds_toArray, List.set_cons_zero, List.set_cons_succ]) | (refine along_pure ?_ (by rfl) (fun w hSw => ?_) ?_; rotate_left; (obtain ⟨s_0, s_1, s_2, s_3, s_4, s_5, s_6, s_7, s_8, s_9⟩ := hSw; go_simp; try with_reducible rfl); try simp only [Act.put, List.setIfInBounds_toArray, List.set_cons_zero, List.set_cons_succ]))
  refine along_end (NoPanic.normal ?_)
  clear hH
  go_wp2
  go_ret
  exact ⟨rfl, bel_on' B3.out B6.out⟩
end Go.Proofs.Ytioanjpeddipmac
