/- Texts joined, in their order: V5, V6, V9, RO. -/
import Derived.Test.YtggcbklififcgabG64d036c05c
import Derived.Test.YtggcbklififcgabGa3cf92b948
import Derived.Test.YtggcbklififcgabG03d4953935
import Derived.Test.YtggcbklififcgabGb914f46262
import Derived.ProofKit
import Derived.OpenShut
import Derived.Lib.SmallJoins
import Derived.LaidMore
import Derived.Stop.Joined
/- EncFields's walk, way by way. -/
namespace Go.Proofs.Ytggcbklififcgab
open Go.RowKit
set_option linter.unusedVariables false

set_option maxRecDepth 100000 in
set_option maxHeartbeats 8000000 in
theorem ef_low {PP PR : Nat → List Nd → Prop} (f : Int) (A : Nat) (n : Int) (lo hi d s q x y xa yb : Nat) (hle : ¬ (hi : Int) < (lo : Int)) (h1 : decide (lo ≤ yb) = false) (W : World)
    (CA : Hid (∀ w, Calls Try.prog 9 #[hv d s q x y, .int .i64 f] w fun e w' => e = .returned (.tuple #[.int .u32 (xa : Nat), .bool false]) ∧ Below w.heap.size w w'))
    (CB : Hid (∀ w, Calls Try.prog 14 #[hv d s q x y, .int .i64 f] w fun e w' => e = .returned (.tuple #[.int .u16 (yb : Nat), .bool true]) ∧ Below w.heap.size w w'))
    (CPx : Hid (∀ Z p w, Sta Z p w 262144 [bot, top] → Calls Try.prog 10 #[.pointer (some ⟨p, 0, none⟩), .int .i64 f, pv A n] w fun e w' => ∃ (g : Nat) (ns1 : List Nd), e = .returned (.tuple #[.int .i64 (g : Nat), .int .i64 1]) ∧ Sta Z p w' 262144 ns1 ∧ Hold Z w w' ∧ PP g ns1))
    (CRg : Hid (∀ Z p w g ns1, PP g ns1 → Sta Z p w 262144 ns1 → Calls Try.prog 15 #[.pointer (some ⟨p, 0, none⟩), .int .i64 f, .agg #[.int .u16 (lo : Nat), .int .u16 (hi : Nat)]] w fun e w' => ∃ (g : Nat) (ns2 : List Nd), e = .returned (.tuple #[.int .i64 (g : Nat), .int .i64 0]) ∧ Sta Z p w' 262144 ns2 ∧ Hold Z w w' ∧ PR g ns2))
    (CIn : Hid (∀ Z p w g ns2, PR g ns2 → Sta Z p w 262144 ns2 → Calls Try.prog 12 #[.pointer (some ⟨p, 0, none⟩), .int .i64 (g : Nat), hv d s q x y] w fun e w' => e = .returned (.bool false) ∧ Below w.heap.size w w')) :
    Calls Try.prog 3 #[.int .i64 f, pv A n, .agg #[.int .u16 (lo : Nat), .int .u16 (hi : Nat)], hv d s q x y] W fun e w' => e = .returned (.bool true) ∧ Below W.heap.size W w' := by
  have CN := Lib.hid (fun w => sNew 262144 (by omega) (by omega) w)
  have CW := Lib.hid (fun w => awake_any w)
  go_enter Try.func3, Try.ntmps3
  go_upto_region 1 with fail
  refine at_code (S := Fx W [.int .u32 (A : Nat), .int .i64 n] [.int .u16 (lo : Nat), .int .u16 (hi : Nat)] [.int .u32 (d : Nat), .int .u32 (s : Nat), .int .u8 (q : Nat), .int .u16 (x : Nat), .int .u16 (y : Nat)]) ⟨?_, ?_, ?_, bel_al (bel_al (bel_al (Below.refl _ _) _) _) _, by simp⟩ (fun W1 hW => ?_)
  · exact (Blk.new W _ [.int .u32 (A : Nat), .int .i64 n]).on (bel_al (bel_al (Below.refl _ _) _) _)
  · have k := Blk.new (W.alloc (.cells #[.int .u32 (A : Nat), .int .i64 n] 24)) 27 [.int .u16 (lo : Nat), .int .u16 (hi : Nat)]
    rw [World.size_alloc] at k
    exact k.on (bel_al (Below.refl _ _) _)
  · have k := Blk.new ((W.alloc (.cells #[.int .u32 (A : Nat), .int .i64 n] 24)).alloc (.cells #[.int .u16 (lo : Nat), .int .u16 (hi : Nat)] 27)) 29 [.int .u32 (d : Nat), .int .u32 (s : Nat), .int .u8 (q : Nat), .int .u16 (x : Nat), .int .u16 (y : Nat)]
    rw [World.size_alloc, World.size_alloc] at k
    exact k
  have X1 := Lib.hid hW
  clear hW
  go_wp2_with fail
  refine (CN.out _).mono ?_
  rintro e w2 ⟨p, rfl, hS, hb⟩
  obtain ⟨Z, hZ⟩ : ∃ Z : Nat → Prop, (fun k => k < W1.heap.size) = Z := ⟨_, rfl⟩
  rw [hZ] at hS
  have HZ : Hid (∀ k, k < W.heap.size + 3 → Z k) := Lib.hid (by rw [← hZ]; intro k hk; have := X1.out.2.2.2.2; show k < W1.heap.size; omega)
  have S2 := Lib.hid hS
  have X2 := Lib.hid (X1.out.on hb)
  clear hS hb CN hZ X1
  obtain ⟨h_0, h_1, h_2, h_3, h_4⟩ : _ ∧ _ ∧ _ ∧ _ ∧ _ := ⟨X2.out.2.2.1.1 0 _ rfl, X2.out.2.2.1.1 1 _ rfl, X2.out.2.2.1.1 2 _ rfl, X2.out.2.2.1.1 3 _ rfl, X2.out.2.2.1.1 4 _ rfl⟩
  go_wp2_with fail
  refine (CA.out _).mono ?_
  rintro e w3 ⟨rfl, hb⟩
  have S3 := Lib.hid (S2.out.on hb)
  have X3 := Lib.hid (X2.out.on hb)
  clear hb CA S2 X2
  clear h_0 h_1 h_2 h_3 h_4
  obtain ⟨p_0, p_1⟩ : _ ∧ _ := ⟨X3.out.1.1 0 _ rfl, X3.out.1.1 1 _ rfl⟩
  go_wp2_with fail
  refine (CPx.out Z p w3 S3.out).mono ?_
  rintro e w4 ⟨g, ns1, rfl, hS, hH, hP⟩
  have S4 := Lib.hid hS
  have X4 := Lib.hid (X3.out.hold hH HZ.out)
  have P4 := Lib.hid hP
  clear hS hH hP CPx S3 X3
  clear p_0 p_1
  obtain ⟨h_0, h_1, h_2, h_3, h_4⟩ : _ ∧ _ ∧ _ ∧ _ ∧ _ := ⟨X4.out.2.2.1.1 0 _ rfl, X4.out.2.2.1.1 1 _ rfl, X4.out.2.2.1.1 2 _ rfl, X4.out.2.2.1.1 3 _ rfl, X4.out.2.2.1.1 4 _ rfl⟩
  go_wp2_with fail
  refine (CB.out _).mono ?_
  rintro e w8 ⟨rfl, hb⟩
  have S8 := Lib.hid (S4.out.on hb)
  have X8 := Lib.hid (X4.out.on hb)
  clear hb CB S4 X4
  clear h_0 h_1 h_2 h_3 h_4
  obtain ⟨r_0, r_1⟩ : _ ∧ _ := ⟨X8.out.2.1.1 0 _ rfl, X8.out.2.1.1 1 _ rfl⟩
  go_wp2_with fail
  refine (CRg.out Z p w8 g ns1 P4.out S8.out).mono ?_
  rintro e w9 ⟨g2, ns2, rfl, hS, hH, hR⟩
  have S9 := Lib.hid hS
  have X9 := Lib.hid (X8.out.hold hH HZ.out)
  have R9 := Lib.hid hR
  clear hS hH hR CRg S8 X8 P4
  clear r_0 r_1
  obtain ⟨r_0, r_1⟩ : _ ∧ _ := ⟨X9.out.2.1.1 0 _ rfl, X9.out.2.1.1 1 _ rfl⟩
  obtain ⟨h_0, h_1, h_2, h_3, h_4⟩ : _ ∧ _ ∧ _ ∧ _ ∧ _ := ⟨X9.out.2.2.1.1 0 _ rfl, X9.out.2.2.1.1 1 _ rfl, X9.out.2.2.1.1 2 _ rfl, X9.out.2.2.1.1 3 _ rfl, X9.out.2.2.1.1 4 _ rfl⟩
  go_wp2_with fail
  refine wp_region_noPanic ?_
  refine wp_region_along (S := fun w' => Below w9.heap.size w9 w' ∧ ∀ b o, (w9.cell? ⟨b, o, none⟩).isSome = true → w'.cell? ⟨b, o, none⟩ = w9.cell? ⟨b, o, none⟩) ([(0, false), (1, true), (2, true), (3, true), (4, true), (5, true), (6, true), (7, true), (8, true), (10, true), (11, true), (12, true), (13, true), (9, false), (14, true), (15, true)] ++ ([(16, true), (17, true), (18, true), (19, true), (20, true), (21, true), (22, true)])) (by kernel_rfl) (by as_aux_lemma => kernel_rfl) (by kernel_rfl) (by kernel_rfl) (alongPre_append _ _ _ (by as_aux_lemma => kernel_rfl) (by as_aux_lemma => kernel_rfl)) (by as_aux_lemma => kernel_rfl) (fun _ _ _ _ _ h => h) (below_kb (Below.refl _ _).drew) (fun hH => ?_)
  simp only [List.cons_append, List.nil_append, stepsOf, pickOp]
  refine along_bar (fun K hK => ?_)
  go_simp
  refine (CW.out _).mono ?_
  rintro e wa ⟨rfl, hbx⟩
  try go_wp2_with fail
  refine hK.out _ _ (below_kb (below_on hH.1 hbx)) (fun hH' => ?_)
  clear hK K hH
  have hH := hH'
  clear hH'
  have Ba := Lib.hid hH.1
  clear hbx
  try simp only [Act.put, List.setIfInBounds_toArray, List.set_cons_zero, List.set_cons_succ]
  iterate 12 (first | (refine along_skip (by rfl) ?_; try simp only [Act.put, List.setIfInBounds_toArray, List.set_cons_zero, List.set_cons_succ]) | (refine along_pure ?_ (by rfl) (fun w hSw => ?_) ?_; rotate_left; ((try dsimp only at hSw); go_simp; try with_reducible rfl); try simp only [Act.put, List.setIfInBounds_toArray, List.set_cons_zero, List.set_cons_succ]))
  refine along_bar (fun K hK => ?_)
  go_simp
  refine (CIn.out Z p wa g2 ns2 R9.out (S9.out.on Ba.out)).mono ?_
  rintro e wb ⟨rfl, hbx⟩
  try go_wp2_with fail
  refine hK.out _ _ (below_kb (below_on hH.1 hbx)) (fun hH' => ?_)
  clear hK K hH
  have hH := hH'
  clear hH'
  clear hbx
  try simp only [Act.put, List.setIfInBounds_toArray, List.set_cons_zero, List.set_cons_succ]
  iterate 9 (first | (refine along_skip (by rfl) ?_; try simp only [Act.put, List.setIfInBounds_toArray, List.set_cons_zero, List.set_cons_succ]) | (refine along_pure ?_ (by rfl) (fun w hSw => ?_) ?_; rotate_left; ((try dsimp only at hSw); go_simp; try with_reducible rfl); try simp only [Act.put, List.setIfInBounds_toArray, List.set_cons_zero, List.set_cons_succ]))
  refine along_end (NoPanic.normal ?_)
  have FIN := Lib.hid (bel_on' X9.out.2.2.2.1 hH.1)
  clear hH
  go_wp2
  go_ret
  exact ⟨rfl, FIN.out⟩
set_option maxRecDepth 100000 in
set_option maxHeartbeats 8000000 in
theorem ef_high {PP PR : Nat → List Nd → Prop} (f : Int) (A : Nat) (n : Int) (lo hi d s q x y xa yb : Nat) (hle : ¬ (hi : Int) < (lo : Int)) (h1 : (lo : Int) ≤ (yb : Int)) (h2 : decide (yb ≤ hi) = false) (W : World)
    (CA : Hid (∀ w, Calls Try.prog 9 #[hv d s q x y, .int .i64 f] w fun e w' => e = .returned (.tuple #[.int .u32 (xa : Nat), .bool false]) ∧ Below w.heap.size w w'))
    (CB : Hid (∀ w, Calls Try.prog 14 #[hv d s q x y, .int .i64 f] w fun e w' => e = .returned (.tuple #[.int .u16 (yb : Nat), .bool true]) ∧ Below w.heap.size w w'))
    (CPx : Hid (∀ Z p w, Sta Z p w 262144 [bot, top] → Calls Try.prog 10 #[.pointer (some ⟨p, 0, none⟩), .int .i64 f, pv A n] w fun e w' => ∃ (g : Nat) (ns1 : List Nd), e = .returned (.tuple #[.int .i64 (g : Nat), .int .i64 1]) ∧ Sta Z p w' 262144 ns1 ∧ Hold Z w w' ∧ PP g ns1))
    (CRg : Hid (∀ Z p w g ns1, PP g ns1 → Sta Z p w 262144 ns1 → Calls Try.prog 15 #[.pointer (some ⟨p, 0, none⟩), .int .i64 f, .agg #[.int .u16 (lo : Nat), .int .u16 (hi : Nat)]] w fun e w' => ∃ (g : Nat) (ns2 : List Nd), e = .returned (.tuple #[.int .i64 (g : Nat), .int .i64 0]) ∧ Sta Z p w' 262144 ns2 ∧ Hold Z w w' ∧ PR g ns2))
    (CIn : Hid (∀ Z p w g ns2, PR g ns2 → Sta Z p w 262144 ns2 → Calls Try.prog 12 #[.pointer (some ⟨p, 0, none⟩), .int .i64 (g : Nat), hv d s q x y] w fun e w' => e = .returned (.bool false) ∧ Below w.heap.size w w')) :
    Calls Try.prog 3 #[.int .i64 f, pv A n, .agg #[.int .u16 (lo : Nat), .int .u16 (hi : Nat)], hv d s q x y] W fun e w' => e = .returned (.bool true) ∧ Below W.heap.size W w' := by
  have CN := Lib.hid (fun w => sNew 262144 (by omega) (by omega) w)
  have CW := Lib.hid (fun w => awake_any w)
  go_enter Try.func3, Try.ntmps3
  go_upto_region 1 with fail
  refine at_code (S := Fx W [.int .u32 (A : Nat), .int .i64 n] [.int .u16 (lo : Nat), .int .u16 (hi : Nat)] [.int .u32 (d : Nat), .int .u32 (s : Nat), .int .u8 (q : Nat), .int .u16 (x : Nat), .int .u16 (y : Nat)]) ⟨?_, ?_, ?_, bel_al (bel_al (bel_al (Below.refl _ _) _) _) _, by simp⟩ (fun W1 hW => ?_)
  · exact (Blk.new W _ [.int .u32 (A : Nat), .int .i64 n]).on (bel_al (bel_al (Below.refl _ _) _) _)
  · have k := Blk.new (W.alloc (.cells #[.int .u32 (A : Nat), .int .i64 n] 24)) 27 [.int .u16 (lo : Nat), .int .u16 (hi : Nat)]
    rw [World.size_alloc] at k
    exact k.on (bel_al (Below.refl _ _) _)
  · have k := Blk.new ((W.alloc (.cells #[.int .u32 (A : Nat), .int .i64 n] 24)).alloc (.cells #[.int .u16 (lo : Nat), .int .u16 (hi : Nat)] 27)) 29 [.int .u32 (d : Nat), .int .u32 (s : Nat), .int .u8 (q : Nat), .int .u16 (x : Nat), .int .u16 (y : Nat)]
    rw [World.size_alloc, World.size_alloc] at k
    exact k
  have X1 := Lib.hid hW
  clear hW
  go_wp2_with fail
  refine (CN.out _).mono ?_
  rintro e w2 ⟨p, rfl, hS, hb⟩
  obtain ⟨Z, hZ⟩ : ∃ Z : Nat → Prop, (fun k => k < W1.heap.size) = Z := ⟨_, rfl⟩
  rw [hZ] at hS
  have HZ : Hid (∀ k, k < W.heap.size + 3 → Z k) := Lib.hid (by rw [← hZ]; intro k hk; have := X1.out.2.2.2.2; show k < W1.heap.size; omega)
  have S2 := Lib.hid hS
  have X2 := Lib.hid (X1.out.on hb)
  clear hS hb CN hZ X1
  obtain ⟨h_0, h_1, h_2, h_3, h_4⟩ : _ ∧ _ ∧ _ ∧ _ ∧ _ := ⟨X2.out.2.2.1.1 0 _ rfl, X2.out.2.2.1.1 1 _ rfl, X2.out.2.2.1.1 2 _ rfl, X2.out.2.2.1.1 3 _ rfl, X2.out.2.2.1.1 4 _ rfl⟩
  go_wp2_with fail
  refine (CA.out _).mono ?_
  rintro e w3 ⟨rfl, hb⟩
  have S3 := Lib.hid (S2.out.on hb)
  have X3 := Lib.hid (X2.out.on hb)
  clear hb CA S2 X2
  clear h_0 h_1 h_2 h_3 h_4
  obtain ⟨p_0, p_1⟩ : _ ∧ _ := ⟨X3.out.1.1 0 _ rfl, X3.out.1.1 1 _ rfl⟩
  go_wp2_with fail
  refine (CPx.out Z p w3 S3.out).mono ?_
  rintro e w4 ⟨g, ns1, rfl, hS, hH, hP⟩
  have S4 := Lib.hid hS
  have X4 := Lib.hid (X3.out.hold hH HZ.out)
  have P4 := Lib.hid hP
  clear hS hH hP CPx S3 X3
  clear p_0 p_1
  obtain ⟨h_0, h_1, h_2, h_3, h_4⟩ : _ ∧ _ ∧ _ ∧ _ ∧ _ := ⟨X4.out.2.2.1.1 0 _ rfl, X4.out.2.2.1.1 1 _ rfl, X4.out.2.2.1.1 2 _ rfl, X4.out.2.2.1.1 3 _ rfl, X4.out.2.2.1.1 4 _ rfl⟩
  go_wp2_with fail
  refine (CB.out _).mono ?_
  rintro e w8 ⟨rfl, hb⟩
  have S8 := Lib.hid (S4.out.on hb)
  have X8 := Lib.hid (X4.out.on hb)
  clear hb CB S4 X4
  clear h_0 h_1 h_2 h_3 h_4
  obtain ⟨r_0, r_1⟩ : _ ∧ _ := ⟨X8.out.2.1.1 0 _ rfl, X8.out.2.1.1 1 _ rfl⟩
  go_wp2_with fail
  refine (CRg.out Z p w8 g ns1 P4.out S8.out).mono ?_
  rintro e w9 ⟨g2, ns2, rfl, hS, hH, hR⟩
  have S9 := Lib.hid hS
  have X9 := Lib.hid (X8.out.hold hH HZ.out)
  have R9 := Lib.hid hR
  clear hS hH hR CRg S8 X8 P4
  clear r_0 r_1
  obtain ⟨r_0, r_1⟩ : _ ∧ _ := ⟨X9.out.2.1.1 0 _ rfl, X9.out.2.1.1 1 _ rfl⟩
  obtain ⟨h_0, h_1, h_2, h_3, h_4⟩ : _ ∧ _ ∧ _ ∧ _ ∧ _ := ⟨X9.out.2.2.1.1 0 _ rfl, X9.out.2.2.1.1 1 _ rfl, X9.out.2.2.1.1 2 _ rfl, X9.out.2.2.1.1 3 _ rfl, X9.out.2.2.1.1 4 _ rfl⟩
  go_wp2_with fail
  refine wp_region_noPanic ?_
  refine wp_region_along (S := fun w' => Below w9.heap.size w9 w' ∧ ∀ b o, (w9.cell? ⟨b, o, none⟩).isSome = true → w'.cell? ⟨b, o, none⟩ = w9.cell? ⟨b, o, none⟩) ([(0, false), (1, true), (2, true), (3, true), (4, true), (5, true), (6, true), (7, true), (8, true), (10, true), (11, true), (12, true), (13, true), (9, false), (14, true), (15, true)] ++ ([(16, true), (17, true), (18, true), (19, true), (20, true), (21, true), (22, true)])) (by kernel_rfl) (by as_aux_lemma => kernel_rfl) (by kernel_rfl) (by kernel_rfl) (alongPre_append _ _ _ (by as_aux_lemma => kernel_rfl) (by as_aux_lemma => kernel_rfl)) (by as_aux_lemma => kernel_rfl) (fun _ _ _ _ _ h => h) (below_kb (Below.refl _ _).drew) (fun hH => ?_)
  simp only [List.cons_append, List.nil_append, stepsOf, pickOp]
  refine along_bar (fun K hK => ?_)
  go_simp
  refine (CW.out _).mono ?_
  rintro e wa ⟨rfl, hbx⟩
  try go_wp2_with fail
  refine hK.out _ _ (below_kb (below_on hH.1 hbx)) (fun hH' => ?_)
  clear hK K hH
  have hH := hH'
  clear hH'
  have Ba := Lib.hid hH.1
  clear hbx
  try simp only [Act.put, List.setIfInBounds_toArray, List.set_cons_zero, List.set_cons_succ]
  iterate 12 (first | (refine along_skip (by rfl) ?_; try simp only [Act.put, List.setIfInBounds_toArray, List.set_cons_zero, List.set_cons_succ]) | (refine along_pure ?_ (by rfl) (fun w hSw => ?_) ?_; rotate_left; ((try dsimp only at hSw); go_simp; try with_reducible rfl); try simp only [Act.put, List.setIfInBounds_toArray, List.set_cons_zero, List.set_cons_succ]))
  refine along_bar (fun K hK => ?_)
  go_simp
  refine (CIn.out Z p wa g2 ns2 R9.out (S9.out.on Ba.out)).mono ?_
  rintro e wb ⟨rfl, hbx⟩
  try go_wp2_with fail
  refine hK.out _ _ (below_kb (below_on hH.1 hbx)) (fun hH' => ?_)
  clear hK K hH
  have hH := hH'
  clear hH'
  clear hbx
  try simp only [Act.put, List.setIfInBounds_toArray, List.set_cons_zero, List.set_cons_succ]
  iterate 9 (first | (refine along_skip (by rfl) ?_; try simp only [Act.put, List.setIfInBounds_toArray, List.set_cons_zero, List.set_cons_succ]) | (refine along_pure ?_ (by rfl) (fun w hSw => ?_) ?_; rotate_left; ((try dsimp only at hSw); go_simp; try with_reducible rfl); try simp only [Act.put, List.setIfInBounds_toArray, List.set_cons_zero, List.set_cons_succ]))
  refine along_end (NoPanic.normal ?_)
  have FIN := Lib.hid (bel_on' X9.out.2.2.2.1 hH.1)
  clear hH
  go_wp2
  go_ret
  exact ⟨rfl, FIN.out⟩
end Go.Proofs.Ytggcbklififcgab
/- EncFields: any field, prefix, range and header. -/
namespace Go.Proofs.Ytggcbklififcgab
open Go.RowKit
set_option linter.unusedVariables false

/-- What a refused call leaves. -/
theorem ref_of {Z : Nat → Prop} {p : Nat} {w : World} {ns : List Nd} {c : Int} {P : Nat → List Nd → Prop} (hS : Sta Z p w 262144 ns) (hP : P 0 ns) {f : Nat} {args : Array Value}
    (h : Calls Try.prog f args w fun e w' => e = .returned (.tuple #[.int .i64 0, .int .i64 c]) ∧ Below w.heap.size w w') :
    Calls Try.prog f args w fun e w' => ∃ (g : Nat) (ns1 : List Nd), e = .returned (.tuple #[.int .i64 (g : Nat), .int .i64 c]) ∧ Sta Z p w' 262144 ns1 ∧ Hold Z w w' ∧ P g ns1 :=
  h.mono fun e w' ⟨h1, h2⟩ => ⟨0, ns, h1, hS.on h2, Hold.of h2, hP⟩
/-- What a call with room enough leaves. -/
theorem lv_of {Z : Nat → Prop} {p : Nat} {W w' : World} {ns : List Nd} {R : Option Nat × List Nd} {φ : Env → Bool} {c l hi : Nat} {D : (Nat → Bool) → Prop} {e : Ending} (hG : Got2 Z p 262144 R W e w') (hL : Lv 262144 ns R φ c l hi D) (hc : ns.length + c < 262144) :
    ∃ (g : Nat) (ns1 : List Nd), e = .returned (.tuple #[.int .i64 (g : Nat), .int .i64 0]) ∧ Sta Z p w' 262144 ns1 ∧ Hold Z W w' ∧ Gd ns ns1 g φ c l hi D := by
  rcases got2_cases hG with ⟨hr, -⟩ | ⟨q, hr, h1, h2, h3⟩
  · obtain ⟨x, -⟩ := hL.none hr; omega
  · exact ⟨q, R.2, h1, h2, h3, hL.some q hr⟩
theorem pre_of {Z : Nat → Prop} {p : Nat} {W : World} {ns : List Nd} {v : Value} {f A k a : Nat} (hS : Sta Z p W 262144 ns) (h104 : a + k ≤ 104) (hc : ns.length + k < 262144)
    (h : Calls Try.prog 10 #[.pointer (some ⟨p, 0, none⟩), .int .i64 (f : Nat), v] W (Got2 Z p 262144 (cF 262144 ns (fl A A 0 0 0 a k)) W)) :
    Calls Try.prog 10 #[.pointer (some ⟨p, 0, none⟩), .int .i64 (f : Nat), v] W fun e w' => ∃ (g : Nat) (ns1 : List Nd), e = .returned (.tuple #[.int .i64 (g : Nat), .int .i64 0]) ∧ Sta Z p w' 262144 ns1 ∧ Hold Z W w' ∧ Gd ns ns1 g (allB (fl A A 0 0 0 a k)) k k 104 (fun B => ∀ i, i < k → B (a + i) = true) := by
  have hr := fl_rise A A 0 0 0 a k h104
  obtain ⟨L, -⟩ := cF_lv 262144 104 hS.wf hr.1 hr.2 hr.2
  rw [fl_len] at L
  have L' : Lv 262144 ns (cF 262144 ns (fl A A 0 0 0 a k)) (allB (fl A A 0 0 0 a k)) k k 104 (fun B => ∀ i, i < k → B (a + i) = true) := ⟨fun q hq => (L.some q hq).mono (Nat.le_refl _) (Nat.le_refl _) (Nat.le_refl _) (fun B hB p hp => by
    obtain ⟨i, hi, e⟩ := fl_mem hp
    rw [e]; exact hB i hi), L.none⟩
  exact h.mono fun e w' hG => lv_of hG L' hc
theorem rng_of {Z : Nat → Prop} {p : Nat} {W : World} {ns : List Nd} (hS : Sta Z p W 262144 ns) (a lo hi : Nat) (ha : a = 72 ∨ a = 88) (hlo : lo < 65536) (hhi : hi < 65536) (hle : lo ≤ hi) (hc : ns.length + 352 < 262144) :
    Calls Try.prog 15 #[.pointer (some ⟨p, 0, none⟩), .int .i64 (a : Nat), .agg #[.int .u16 (lo : Nat), .int .u16 (hi : Nat)]] W fun e w' => ∃ (g : Nat) (ns1 : List Nd), e = .returned (.tuple #[.int .i64 (g : Nat), .int .i64 0]) ∧ Sta Z p w' 262144 ns1 ∧ Hold Z W w' ∧ Gd ns ns1 g (rgP a lo hi) 352 320 (a + 16) (fun B => ∀ i, i < 16 → B (a + i) = true) :=
  (range_any hS a lo hi ha hlo hhi hle).mono fun e w' ⟨R, hG, hL, _⟩ => lv_of hG hL hc
theorem in_of {Z : Nat → Prop} {p : Nat} {w : World} {ns : List Nd} {g d s q x y : Nat} {φ : Env → Bool} {T : Bool} (h : Sta Z p w 262144 ns) (hg : St ns g φ) (hh : HB d s q x y) (hT : φ (hE d s q x y) = T) :
    Calls Try.prog 12 #[.pointer (some ⟨p, 0, none⟩), .int .i64 (g : Nat), hv d s q x y] w fun e w' => e = .returned (.bool T) ∧ Below w.heap.size w w' := by
  have k := sIn h g d s q x y hh hg.1
  rw [hg.2, hT] at k
  exact k
theorem right_k {A : Nat} {n : Int} (h : rightB A n = true) : ∃ k : Nat, n = (k : Nat) ∧ k ≤ 32 := by
  unfold rightB at h
  rw [decide_eq_true_eq] at h
  obtain ⟨k, rfl⟩ := Int.eq_ofNat_of_zero_le h.1
  exact ⟨k, rfl, by omega⟩
theorem encFields_any (f : Int) (A : Nat) (n : Int) (lo hi d s q x y : Nat) (hA : A < 4294967296) (hlo : lo < 65536) (hhi : hi < 65536) (hh : HB d s q x y) (W : World) :
    Calls Try.prog 3 #[.int .i64 f, pv A n, .agg #[.int .u16 (lo : Nat), .int .u16 (hi : Nat)], hv d s q x y] W fun e w' => e = .returned (.bool true) ∧ Below W.heap.size W w' := by
  have hpv : ∃ a n', pv (A : Int) n = .agg #[.int .u32 a, .int .i64 n'] := ⟨_, _, rfl⟩
  by_cases c0 : f = 0
  · subst c0
    cases hr : rightB A n with
    | false =>
      exact ef_bad (PP := fun _ ns => ns = [bot, top]) (PR := fun _ _ => True) 0 A n lo hi d s q x y d 0 W (Lib.hid (fun w => raddr_dst d s q x y w)) (Lib.hid (fun w => rport_no d s q x y 0 (by decide) (by decide) w))
        (Lib.hid (fun Z p w hS => ref_of hS rfl (prefixD_bad p A n hA hr w))) (Lib.hid (fun Z p w g ns1 hP hS => ref_of hS trivial (range_field p 0 (by decide) (by decide) lo hi w))) (Lib.hid (fun w => by have k := rright_any A n hA w; rw [hr] at k; exact k))
    | true =>
      obtain ⟨k, rfl, hk⟩ := right_k hr
      exact ef_pre (PP := fun g ns => Gd [bot, top] ns g (allB (fl A A 0 0 0 0 k)) k k 104 (fun B => ∀ i, i < k → B (0 + i) = true)) (PR := fun _ _ => True) 0 A (k : Nat) lo hi d s q x y d 0 (decide (d / sz k = A / sz k)) W (Lib.hid (fun w => raddr_dst d s q x y w)) (Lib.hid (fun w => rport_no d s q x y 0 (by decide) (by decide) w))
        (Lib.hid (fun Z p w hS => pre_of hS (by omega) (by show 2 + k < _; omega) (prefixD_any hS A k hA hk hr))) (Lib.hid (fun Z p w g ns1 hP hS => ref_of hS trivial (range_field p 0 (by decide) (by decide) lo hi w)))
        (Lib.hid (fun w => by have k' := rright_any A (k : Nat) hA w; rw [hr] at k'; exact k')) (Lib.hid (fun Z p w g ns1 hP hS => in_of hS hP.st hh (fl_dst hA hk hh))) (Lib.hid (fun w => rhas_any A k d hk hA hh.d w))
  by_cases c1 : f = 32
  · subst c1
    cases hr : rightB A n with
    | false =>
      exact ef_bad (PP := fun _ ns => ns = [bot, top]) (PR := fun _ _ => True) 32 A n lo hi d s q x y s 0 W (Lib.hid (fun w => raddr_src d s q x y w)) (Lib.hid (fun w => rport_no d s q x y 32 (by decide) (by decide) w))
        (Lib.hid (fun Z p w hS => ref_of hS rfl (prefixS_bad p A n hA hr w))) (Lib.hid (fun Z p w g ns1 hP hS => ref_of hS trivial (range_field p 32 (by decide) (by decide) lo hi w))) (Lib.hid (fun w => by have k := rright_any A n hA w; rw [hr] at k; exact k))
    | true =>
      obtain ⟨k, rfl, hk⟩ := right_k hr
      exact ef_pre (PP := fun g ns => Gd [bot, top] ns g (allB (fl A A 0 0 0 32 k)) k k 104 (fun B => ∀ i, i < k → B (32 + i) = true)) (PR := fun _ _ => True) 32 A (k : Nat) lo hi d s q x y s 0 (decide (s / sz k = A / sz k)) W (Lib.hid (fun w => raddr_src d s q x y w)) (Lib.hid (fun w => rport_no d s q x y 32 (by decide) (by decide) w))
        (Lib.hid (fun Z p w hS => pre_of hS (by omega) (by show 2 + k < _; omega) (prefixS_any hS A k hA hk hr))) (Lib.hid (fun Z p w g ns1 hP hS => ref_of hS trivial (range_field p 32 (by decide) (by decide) lo hi w)))
        (Lib.hid (fun w => by have k' := rright_any A (k : Nat) hA w; rw [hr] at k'; exact k')) (Lib.hid (fun Z p w g ns1 hP hS => in_of hS hP.st hh (fl_src hA hk hh))) (Lib.hid (fun w => rhas_any A k s hk hA hh.s w))
  have CPx : Hid (∀ Z p w, Sta Z p w 262144 [bot, top] → Calls Try.prog 10 #[.pointer (some ⟨p, 0, none⟩), .int .i64 f, pv A n] w fun e w' => ∃ (g : Nat) (ns1 : List Nd), e = .returned (.tuple #[.int .i64 (g : Nat), .int .i64 1]) ∧ Sta Z p w' 262144 ns1 ∧ Hold Z w w' ∧ ns1 = [bot, top]) :=
    Lib.hid (fun Z p w hS => ref_of (P := fun _ ns => ns = [bot, top]) hS rfl (prefix_field p f c0 c1 _ hpv w))
  by_cases c2 : f = 72
  · subst c2
    by_cases hgt : hi < lo
    · exact ef_bounds (PP := fun _ ns => ns = [bot, top]) (PR := fun _ _ => True) 72 A n lo hi d s q x y 0 x (by omega) W (Lib.hid (fun w => raddr_no d s q x y 72 (by decide) (by decide) w)) (Lib.hid (fun w => rport_s d s q x y w)) CPx
        (Lib.hid (fun Z p w g ns1 hP hS => ref_of hS trivial (range_bounds p 72 (Or.inl rfl) lo hi hgt w)))
    · have hle : ¬ (hi : Int) < (lo : Int) := by omega
      have CRg : Hid (∀ Z p w g ns1, ns1 = [bot, top] → Sta Z p w 262144 ns1 → Calls Try.prog 15 #[.pointer (some ⟨p, 0, none⟩), .int .i64 72, .agg #[.int .u16 (lo : Nat), .int .u16 (hi : Nat)]] w fun e w' => ∃ (g : Nat) (ns2 : List Nd), e = .returned (.tuple #[.int .i64 (g : Nat), .int .i64 0]) ∧ Sta Z p w' 262144 ns2 ∧ Hold Z w w' ∧ Gd [bot, top] ns2 g (rgP 72 lo hi) 352 320 (72 + 16) (fun B => ∀ i, i < 16 → B (72 + i) = true)) :=
        Lib.hid (fun Z p w (g : Nat) ns1 hP hS => by subst hP; exact rng_of hS 72 lo hi (Or.inl rfl) hlo hhi (by omega) (by decide))
      by_cases h1 : lo ≤ x
      · by_cases h2 : x ≤ hi
        · exact ef_in (PP := fun _ ns => ns = [bot, top]) 72 A n lo hi d s q x y 0 x hle (by omega) (by omega) W (Lib.hid (fun w => raddr_no d s q x y 72 (by decide) (by decide) w)) (Lib.hid (fun w => rport_s d s q x y w)) CPx CRg
            (Lib.hid (fun Z p w g ns2 hP hS => in_of hS hP.st hh (by rw [rg_sp hlo hhi hh]; exact decide_eq_true ⟨h1, h2⟩)))
        · exact ef_high (PP := fun _ ns => ns = [bot, top]) 72 A n lo hi d s q x y 0 x hle (by omega) (decide_eq_false h2) W (Lib.hid (fun w => raddr_no d s q x y 72 (by decide) (by decide) w)) (Lib.hid (fun w => rport_s d s q x y w)) CPx CRg
            (Lib.hid (fun Z p w g ns2 hP hS => in_of hS hP.st hh (by rw [rg_sp hlo hhi hh]; exact decide_eq_false (fun q => h2 q.2))))
      · exact ef_low (PP := fun _ ns => ns = [bot, top]) 72 A n lo hi d s q x y 0 x hle (decide_eq_false h1) W (Lib.hid (fun w => raddr_no d s q x y 72 (by decide) (by decide) w)) (Lib.hid (fun w => rport_s d s q x y w)) CPx CRg
          (Lib.hid (fun Z p w g ns2 hP hS => in_of hS hP.st hh (by rw [rg_sp hlo hhi hh]; exact decide_eq_false (fun q => h1 q.1))))
  by_cases c3 : f = 88
  · subst c3
    by_cases hgt : hi < lo
    · exact ef_bounds (PP := fun _ ns => ns = [bot, top]) (PR := fun _ _ => True) 88 A n lo hi d s q x y 0 y (by omega) W (Lib.hid (fun w => raddr_no d s q x y 88 (by decide) (by decide) w)) (Lib.hid (fun w => rport_d d s q x y w)) CPx
        (Lib.hid (fun Z p w g ns1 hP hS => ref_of hS trivial (range_bounds p 88 (Or.inr rfl) lo hi hgt w)))
    · have hle : ¬ (hi : Int) < (lo : Int) := by omega
      have CRg : Hid (∀ Z p w g ns1, ns1 = [bot, top] → Sta Z p w 262144 ns1 → Calls Try.prog 15 #[.pointer (some ⟨p, 0, none⟩), .int .i64 88, .agg #[.int .u16 (lo : Nat), .int .u16 (hi : Nat)]] w fun e w' => ∃ (g : Nat) (ns2 : List Nd), e = .returned (.tuple #[.int .i64 (g : Nat), .int .i64 0]) ∧ Sta Z p w' 262144 ns2 ∧ Hold Z w w' ∧ Gd [bot, top] ns2 g (rgP 88 lo hi) 352 320 (88 + 16) (fun B => ∀ i, i < 16 → B (88 + i) = true)) :=
        Lib.hid (fun Z p w (g : Nat) ns1 hP hS => by subst hP; exact rng_of hS 88 lo hi (Or.inr rfl) hlo hhi (by omega) (by decide))
      by_cases h1 : lo ≤ y
      · by_cases h2 : y ≤ hi
        · exact ef_in (PP := fun _ ns => ns = [bot, top]) 88 A n lo hi d s q x y 0 y hle (by omega) (by omega) W (Lib.hid (fun w => raddr_no d s q x y 88 (by decide) (by decide) w)) (Lib.hid (fun w => rport_d d s q x y w)) CPx CRg
            (Lib.hid (fun Z p w g ns2 hP hS => in_of hS hP.st hh (by rw [rg_dp hlo hhi hh]; exact decide_eq_true ⟨h1, h2⟩)))
        · exact ef_high (PP := fun _ ns => ns = [bot, top]) 88 A n lo hi d s q x y 0 y hle (by omega) (decide_eq_false h2) W (Lib.hid (fun w => raddr_no d s q x y 88 (by decide) (by decide) w)) (Lib.hid (fun w => rport_d d s q x y w)) CPx CRg
            (Lib.hid (fun Z p w g ns2 hP hS => in_of hS hP.st hh (by rw [rg_dp hlo hhi hh]; exact decide_eq_false (fun q => h2 q.2))))
      · exact ef_low (PP := fun _ ns => ns = [bot, top]) 88 A n lo hi d s q x y 0 y hle (decide_eq_false h1) W (Lib.hid (fun w => raddr_no d s q x y 88 (by decide) (by decide) w)) (Lib.hid (fun w => rport_d d s q x y w)) CPx CRg
          (Lib.hid (fun Z p w g ns2 hP hS => in_of hS hP.st hh (by rw [rg_dp hlo hhi hh]; exact decide_eq_false (fun q => h1 q.1))))
  · exact ef_none (PP := fun _ ns => ns = [bot, top]) (PR := fun _ _ => True) f A n lo hi d s q x y 0 0 W (Lib.hid (fun w => raddr_no d s q x y f c0 c1 w)) (Lib.hid (fun w => rport_no d s q x y f c2 c3 w)) CPx
      (Lib.hid (fun Z p w g ns1 hP hS => ref_of hS trivial (range_field p f c2 c3 lo hi w)))
end Go.Proofs.Ytggcbklififcgab
/- EncParts: any range, port and prefix. -/
namespace Go.Proofs.Ytggcbklififcgab
open Go.RowKit
set_option linter.unusedVariables false

def D16 (B : Nat → Bool) : Prop := ∀ i, i < 16 → B (88 + i) = true
def B16 (i : Nat) : Bool := decide (88 ≤ i ∧ i < 104)
theorem b16_d : D16 B16 := fun i hi => decide_eq_true ⟨by omega, by omega⟩
theorem b16_pw : pw B16 ≤ 65536 := by
  refine pw_few (B := B16) (l := (List.range 16).map (fun i => 88 + i)) (fun i hi => ?_) (k := 16) (by simp)
  have := of_decide_eq_true hi
  exact List.mem_map.2 ⟨i - 88, List.mem_range.2 (by omega), by omega⟩
/-- A join of which it is known what it is. -/
theorem join_of {Z : Nat → Prop} {p : Nat} {w : World} {ns : List Nd} {kind f g c r : Nat} {φ ψ χ : Env → Bool} {B : Nat → Bool} {P : List Nd → Prop} (hS : Sta Z p w 262144 ns) (hk : kind ≤ 3) (hf : St ns f φ) (hg : St ns g ψ) (hB : Bits B ns) (hc : pw B ≤ c) (hm : ns.length + c < 262144)
    (hr : St ns r χ) (he : ∀ e, opB kind (φ e) (ψ e) = χ e) (hP : ∀ ns', On B ns ns' c → P ns') :
    Calls Try.prog 22 #[.pointer (some ⟨p, 0, none⟩), .int .i64 (kind : Nat), .int .i64 (f : Nat), .int .i64 (g : Nat)] w fun e w' => ∃ (ns' : List Nd), e = .returned (.tuple #[.int .i64 (r : Nat), .int .i64 0]) ∧ Sta Z p w' 262144 ns' ∧ Hold Z w w' ∧ P ns' := by
  obtain ⟨q, ns', e, o, s⟩ := jF_big (kind := kind) (most := 262144) hS.wf hf hg hB hc hm
  have k := sJoin hS kind f g hk hf.1 hg.1
  rw [e] at k
  have hq : q = r := St.one o.wf s (hr.ext o.ext hS.wf o.wf) he
  subst hq
  exact k.mono fun e' w' ⟨h1, h2, h3⟩ => ⟨ns', h1, h2, h3, hP ns' o⟩
theorem xor_of {Z : Nat → Prop} {p : Nat} {w : World} {ns : List Nd} {f g a b r : Nat} {φ ψ χ : Env → Bool} (hS : Sta Z p w 262144 ns) (hf : St ns f φ) (hg : St ns g ψ) (cf : ∃ L, L.length ≤ a ∧ Clo 104 ns L ∧ In1 L f) (cg : ∃ L, L.length ≤ b ∧ Clo 104 ns L ∧ In1 L g) (hm : ns.length + (a + 2) * (b + 2) < 262144)
    (hr : St ns r χ) (he : ∀ e, opB 2 (φ e) (ψ e) = χ e) :
    Calls Try.prog 22 #[.pointer (some ⟨p, 0, none⟩), .int .i64 2, .int .i64 (f : Nat), .int .i64 (g : Nat)] w fun e w' => ∃ (ns' : List Nd), e = .returned (.tuple #[.int .i64 (r : Nat), .int .i64 0]) ∧ Sta Z p w' 262144 ns' ∧ Hold Z w w' ∧ True := by
  obtain ⟨L, N⟩ := xor_lv (most := 262144) hS.wf hf hg cf cg
  refine (sJoin hS 2 f g (by omega) hf.1 hg.1).mono fun e' w' hG => ?_
  obtain ⟨q, ns', h1, h2, h3, G⟩ := lv_of hG L hm
  have hq : q = r := St.one G.wf G.st (hr.ext G.ext hS.wf G.wf) he
  subst hq
  exact ⟨ns', h1, h2, h3, trivial⟩
theorem encParts_any (lo hi at_ A : Nat) (n : Int) (hlo : lo < 65536) (hhi : hi < 65536) (hat : at_ < 65536) (hA : A < 4294967296) (W : World) :
    Calls Try.prog 6 #[.agg #[.int .u16 (lo : Nat), .int .u16 (hi : Nat)], .int .u16 (at_ : Nat), pv A n] W fun e w' => e = .returned (.bool true) ∧ Below W.heap.size W w' := by
  by_cases h1 : hi < lo
  · exact ep_gt lo hi at_ A n (by omega) W
  by_cases h2 : at_ < lo
  · exact ep_low lo hi at_ A n (by omega) (by omega) W
  by_cases h3 : hi ≤ at_
  · exact ep_high lo hi at_ A n (by omega) (by omega) (by omega) W
  cases hr : rightB A n with
  | false => exact ep_wrong lo hi at_ A n (by omega) (by omega) (by omega) W (Lib.hid (fun w => by have k := rright_any A n hA w; rw [hr] at k; exact k))
  | true =>
    obtain ⟨k, rfl, hk⟩ := right_k hr
    have CRi : Hid (∀ w, Calls Try.prog 11 #[pv A (k : Nat)] w fun e w' => e = .returned (.bool true) ∧ Below w.heap.size w w') := Lib.hid (fun w => by have q := rright_any A (k : Nat) hA w; rw [hr] at q; exact q)
    by_cases h4 : k = 32
    · subst h4
      exact ep_full lo hi at_ A (by omega) (by omega) (by omega) W CRi
    have hk' : k < 32 := by omega
    have hmod : A % 2 ^ (32 - k) = 0 := by
      have := hr
      unfold rightB at this
      rw [decide_eq_true_eq] at this
      have := this.2.2
      rw [Int.toNat_natCast] at this
      exact this
    obtain ⟨-, hA'⟩ := fl_half hA hk' hmod
    have hor : bits .or .u32 (A : Int) (IntKind.u32.wrap ((2 : Int) ^ (31 - k))) = ((A + 2 ^ (31 - k) : Nat) : Int) := by
      have e : IntKind.u32.wrap ((2 : Int) ^ (31 - k)) = ((2 ^ (31 - k) : Nat) : Int) := by
        have e0 : ((2 : Int) ^ (31 - k)) = ((2 ^ (31 - k) : Nat) : Int) := by simp
        have hlt : 2 ^ (31 - k) < 4294967296 := by omega
        rw [e0, IntKind.wrap_u32]
        generalize (2 : Nat) ^ (31 - k) = z at hlt ⊢
        omega
      rw [e, or_u32 A (2 ^ (31 - k)) hA (by omega), or_half hk' hmod]
    have hdvd : ∀ a, a % 2 ^ (32 - k) = 0 → a % 2 ^ (31 - k) = 0 := fun a ha => by
      have e : 2 ^ (32 - k) = 2 ^ (31 - k) * 2 := by rw [← Nat.pow_succ]; congr 1; omega
      rw [e] at ha
      exact Nat.mod_eq_zero_of_dvd (Nat.dvd_trans ⟨2, rfl⟩ (Nat.dvd_of_mod_eq_zero ha))
    have hr1 : rightB A ((k + 1 : Nat) : Int) = true := by
      unfold rightB
      rw [decide_eq_true_eq, Int.toNat_natCast]
      refine ⟨by omega, by omega, ?_⟩
      unfold sz
      rw [show 32 - (k + 1) = 31 - k by omega]
      exact hdvd A hmod
    have hr2 : rightB (A + 2 ^ (31 - k)) ((k + 1 : Nat) : Int) = true := by
      unfold rightB
      rw [decide_eq_true_eq, Int.toNat_natCast]
      refine ⟨by omega, by omega, ?_⟩
      unfold sz
      rw [show 32 - (k + 1) = 31 - k by omega, Nat.add_mod_right]
      exact hdvd A hmod
    have hsq : (k + 1 + 2) * (k + 1 + 2) ≤ 35 * 35 := Nat.mul_le_mul (by omega) (by omega)
    exact ep_main (P1 := fun g ns => Gd [bot, top] ns g (rgP 88 lo hi) 352 320 104 D16) (P2 := fun g1 g ns => Gd [bot, top] ns g (rgP 88 lo at_) 704 320 104 D16 ∧ St ns g1 (rgP 88 lo hi))
      (P3 := fun g1 g2 g ns => Gd [bot, top] ns g (rgP 88 (at_ + 1) hi) 1056 320 104 D16 ∧ St ns g1 (rgP 88 lo hi) ∧ St ns g2 (rgP 88 lo at_))
      (P4 := fun g1 g2 g3 ns => ns.length ≤ 66594 ∧ Bits B16 ns ∧ St ns g2 (rgP 88 lo at_) ∧ St ns g3 (rgP 88 (at_ + 1) hi)) (P5 := fun ns => ns.length ≤ 132130)
      (P6 := fun g ns => ns.length ≤ 132162 ∧ St ns g (allB (fl A A 0 0 0 0 k)))
      (P7 := fun g6 g ns => ns.length ≤ 132195 ∧ St ns g6 (allB (fl A A 0 0 0 0 k)) ∧ St ns g (allB (fl A A 0 0 0 0 (k + 1))) ∧ ∃ L, L.length ≤ k + 1 ∧ Clo 104 ns L ∧ In1 L g)
      (P8 := fun g6 g7 g ns => ns.length ≤ 132228 ∧ St ns g6 (allB (fl A A 0 0 0 0 k)) ∧ (St ns g7 (allB (fl A A 0 0 0 0 (k + 1))) ∧ ∃ L, L.length ≤ k + 1 ∧ Clo 104 ns L ∧ In1 L g7) ∧ St ns g (allB (fl (A + 2 ^ (31 - k)) (A + 2 ^ (31 - k)) 0 0 0 0 (k + 1))) ∧ ∃ L, L.length ≤ k + 1 ∧ Clo 104 ns L ∧ In1 L g)
      lo hi at_ A k (A + 2 ^ (31 - k)) (by omega) (by omega) (by omega) hlo hhi hA hk' hor W CRi
      (Lib.hid fun Z p w hS => rng_of hS 88 lo hi (Or.inr rfl) hlo hhi (by omega) (by decide))
      (Lib.hid fun Z p w g1 ns hP hS => (rng_of hS 88 lo at_ (Or.inr rfl) hlo hat (by omega) (by have := hP.len; simp only [List.length_cons, List.length_nil] at this; omega)).mono fun e w' ⟨g, ns', h1, h2, h3, G⟩ => ⟨g, ns', h1, h2, h3, (hP.step G).mono (by omega) (by omega) (by omega) (fun _ h => h), hP.st.ext G.ext hP.wf G.wf⟩)
      (Lib.hid fun Z p w g1 g2 ns hP hS => (rng_of hS 88 (at_ + 1) hi (Or.inr rfl) (by omega) hhi (by omega) (by have := hP.1.len; simp only [List.length_cons, List.length_nil] at this; omega)).mono fun e w' ⟨g, ns', h1, h2, h3, G⟩ => ⟨g, ns', h1, h2, h3, (hP.1.step G).mono (by omega) (by omega) (by omega) (fun _ h => h), hP.2.ext G.ext hP.1.wf G.wf, hP.1.st.ext G.ext hP.1.wf G.wf⟩)
      (Lib.hid fun Z p w g1 g2 g3 ns hP hS => by
        have hl := hP.1.len
        simp only [List.length_cons, List.length_nil] at hl
        exact join_of (kind := 1) (c := 65536) hS (by omega) hP.2.2 hP.1.st (hP.1.bits B16 (bits_new B16) b16_d) b16_pw (by omega) hP.2.1 (fun e => rg_or hlo (by omega) hhi (by omega) (by omega) e) (fun ns' o => ⟨by have := o.len; omega, o.bits, hP.2.2.ext o.ext hP.1.wf o.wf, hP.1.st.ext o.ext hP.1.wf o.wf⟩))
      (Lib.hid fun Z p w g1 g2 g3 ns hP hS => join_of (kind := 0) (c := 65536) hS (by omega) hP.2.2.1 hP.2.2.2 hP.2.1 b16_pw (by have := hP.1; omega) (St.zero hS.wf) (fun e => rg_and hlo (by omega) hhi e) (fun ns' o => by have := o.len; have := hP.1; omega))
      (Lib.hid fun Z p w ns hP hS => (pre_of (f := 0) hS (by omega) (by omega) (prefixD_any hS A k hA hk hr)).mono fun e w' ⟨g, ns', h1, h2, h3, G⟩ => ⟨g, ns', h1, h2, h3, by have := G.len; omega, G.st⟩)
      (Lib.hid fun Z p w g6 ns hP hS => (pre_of (f := 0) hS (by omega) (by have := hP.1; omega) (prefixD_any hS A (k + 1) hA (by omega) hr1)).mono fun e w' ⟨g, ns', h1, h2, h3, G⟩ => ⟨g, ns', h1, h2, h3, by have := G.len; have := hP.1; omega, hP.2.ext G.ext hS.wf G.wf, G.st, G.clo⟩)
      (Lib.hid fun Z p w g6 g7 ns hP hS => (pre_of (f := 0) hS (by omega) (by have := hP.1; omega) (prefixD_any hS (A + 2 ^ (31 - k)) (k + 1) hA' (by omega) hr2)).mono fun e w' ⟨g, ns', h1, h2, h3, G⟩ => ⟨g, ns', h1, h2, h3, by have := G.len; have := hP.1; omega, hP.2.1.ext G.ext hS.wf G.wf, ⟨hP.2.2.1.ext G.ext hS.wf G.wf, by obtain ⟨L, l1, l2, l3⟩ := hP.2.2.2; exact ⟨L, l1, l2.ext G.ext, l3⟩⟩, G.st, G.clo⟩)
      (Lib.hid fun Z p w g6 g7 g8 ns hP hS => xor_of hS hP.2.2.1.1 hP.2.2.2.1 hP.2.2.1.2 hP.2.2.2.2 (by have := hP.1; omega) hP.2.1 (fun e => half_xor hA hk' hmod e))
end Go.Proofs.Ytggcbklififcgab
/- How a prefix and a range that are handed in read (cidr/RCC without its table). -/
namespace Go.Proofs.Ytggcbklififcgab
open Go.ChangeShapes Go.WideShapes Go.ChangeAt Go.RowKit Go.Joins Go.Deep Go.WideElems Go.Maps

theorem cellsPre : Try.prog.cellsOf 24 = 2 := by kernel_rfl
theorem cellsRng : Try.prog.cellsOf 27 = 2 := by kernel_rfl
set_option maxRecDepth 100000 in
theorem pre_open {H : Type} {enc : TypeId × Value → H} {W : World} {base : Nat} {v : Value} {d : DataW H} {p : List MemPlace}
    (hv : Value.okWide Try.prog W .any base 24 v) (h : DataW.Trod enc Try.prog W 0 (fun _ => true) true 24 v d p) :
    ∃ (a : Nat) (n : Int), a < 4294967296 ∧ -9223372036854775808 ≤ n ∧ n ≤ 9223372036854775807 ∧ v = pv a n ∧ p = [] ∧ ∀ (W' : World) (sp : Nat → Bool), DataW.Trod enc Try.prog W' 0 sp true 24 v d [] := by
  obtain ⟨c0, c1, y0, y1, m, rfl, rfl, rfl, hy0, hy1⟩ := open_agg2 Try.underlying24 (by kernel_rfl) cellsPre hv h
  obtain ⟨x, e0, rfl, wx⟩ := DataW.trod_int Try.underlying22 hy0
  obtain ⟨y, e1, rfl, wy⟩ := DataW.trod_int Try.underlying3 hy1
  simp at e0 e1
  subst e0 e1
  obtain ⟨x0, x1⟩ := bounds_u32 wx
  obtain ⟨y0, y1⟩ := bounds_i64 wy
  obtain ⟨x, rfl⟩ := Int.eq_ofNat_of_zero_le x0
  refine ⟨x, y, by omega, by omega, by omega, rfl, rfl, fun W' sp => ?_⟩
  exact shut_agg2 (y0 := (.lit (.int .u32 x), [])) (y1 := (.lit (.int .i64 y), [])) Try.underlying24 (by kernel_rfl) cellsPre ⟨1, by simp [DataW.trod, Try.underlying22, wx]⟩ ⟨1, by simp [DataW.trod, Try.underlying3, wy]⟩
set_option maxRecDepth 100000 in
theorem rng_open {H : Type} {enc : TypeId × Value → H} {W : World} {base : Nat} {v : Value} {d : DataW H} {p : List MemPlace}
    (hv : Value.okWide Try.prog W .any base 27 v) (h : DataW.Trod enc Try.prog W 0 (fun _ => true) true 27 v d p) :
    ∃ (l k : Nat), l < 65536 ∧ k < 65536 ∧ v = .agg #[.int .u16 l, .int .u16 k] ∧ p = [] ∧ ∀ (W' : World) (sp : Nat → Bool), DataW.Trod enc Try.prog W' 0 sp true 27 v d [] := by
  obtain ⟨c0, c1, y0, y1, m, rfl, rfl, rfl, hy0, hy1⟩ := open_agg2 Try.underlying27 (by kernel_rfl) cellsRng hv h
  obtain ⟨x, e0, rfl, wx⟩ := DataW.trod_int Try.underlying25 hy0
  obtain ⟨y, e1, rfl, wy⟩ := DataW.trod_int Try.underlying25 hy1
  simp at e0 e1
  subst e0 e1
  obtain ⟨x0, x1⟩ := bounds_u16 wx
  obtain ⟨y0, y1⟩ := bounds_u16 wy
  obtain ⟨x, rfl⟩ := Int.eq_ofNat_of_zero_le x0
  obtain ⟨y, rfl⟩ := Int.eq_ofNat_of_zero_le y0
  refine ⟨x, y, by omega, by omega, rfl, rfl, fun W' sp => ?_⟩
  exact shut_agg2 (y0 := (.lit (.int .u16 x), [])) (y1 := (.lit (.int .u16 y), [])) Try.underlying27 (by kernel_rfl) cellsRng ⟨1, by simp [DataW.trod, Try.underlying25, wx]⟩ ⟨1, by simp [DataW.trod, Try.underlying25, wy]⟩
end Go.Proofs.Ytggcbklififcgab
