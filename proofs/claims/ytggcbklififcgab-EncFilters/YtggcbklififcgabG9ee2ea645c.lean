/- Texts joined, in their order: V4, V5, V6, RW, FG. -/
import Derived.Test.YtggcbklififcgabG64d036c05c
import Derived.Test.YtggcbklififcgabGa3cf92b948
import Derived.Test.YtggcbklififcgabGc702e08ada
import Derived.Test.YtggcbklififcgabG7e26c7d02b
import Derived.Test.YtggcbklififcgabGb914f46262
import Derived.Lib.SmallJoins
/- EncFields's walk, way by way. -/
namespace Go.Proofs.Ytggcbklififcgab
open Go.RowKit
set_option linter.unusedVariables false

set_option maxRecDepth 100000 in
set_option maxHeartbeats 8000000 in
theorem ef_in {PP PR : Nat → List Nd → Prop} (f : Int) (A : Nat) (n : Int) (lo hi d s q x y xa yb : Nat) (hle : ¬ (hi : Int) < (lo : Int)) (h1 : (lo : Int) ≤ (yb : Int)) (h2 : (yb : Int) ≤ (hi : Int)) (W : World)
    (CA : Hid (∀ w, Calls Try.prog 9 #[hv d s q x y, .int .i64 f] w fun e w' => e = .returned (.tuple #[.int .u32 (xa : Nat), .bool false]) ∧ Below w.heap.size w w'))
    (CB : Hid (∀ w, Calls Try.prog 14 #[hv d s q x y, .int .i64 f] w fun e w' => e = .returned (.tuple #[.int .u16 (yb : Nat), .bool true]) ∧ Below w.heap.size w w'))
    (CPx : Hid (∀ Z p w, Sta Z p w 262144 [bot, top] → Calls Try.prog 10 #[.pointer (some ⟨p, 0, none⟩), .int .i64 f, pv A n] w fun e w' => ∃ (g : Nat) (ns1 : List Nd), e = .returned (.tuple #[.int .i64 (g : Nat), .int .i64 1]) ∧ Sta Z p w' 262144 ns1 ∧ Hold Z w w' ∧ PP g ns1))
    (CRg : Hid (∀ Z p w g ns1, PP g ns1 → Sta Z p w 262144 ns1 → Calls Try.prog 15 #[.pointer (some ⟨p, 0, none⟩), .int .i64 f, .agg #[.int .u16 (lo : Nat), .int .u16 (hi : Nat)]] w fun e w' => ∃ (g : Nat) (ns2 : List Nd), e = .returned (.tuple #[.int .i64 (g : Nat), .int .i64 0]) ∧ Sta Z p w' 262144 ns2 ∧ Hold Z w w' ∧ PR g ns2))
    (CIn : Hid (∀ Z p w g ns2, PR g ns2 → Sta Z p w 262144 ns2 → Calls Try.prog 12 #[.pointer (some ⟨p, 0, none⟩), .int .i64 (g : Nat), hv d s q x y] w fun e w' => e = .returned (.bool true) ∧ Below w.heap.size w w')) :
    Calls Try.prog 3 #[.int .i64 f, pv A n, .agg #[.int .u16 (lo : Nat), .int .u16 (hi : Nat)], hv d s q x y] W fun e w' => e = .returned (.bool true) ∧ Below W.heap.size W w' := by
  have CN := Lib.hid (fun w => sNew 262144 (by omega) (by omega) w)
  have CW := Lib.hid (fun w => awake_any w)
  go_enter Try.func3, Try.ntmps3
  go_upto_region 1 with fail
  refine at_code (S := Fx W [.int .u32 (A : Nat), .int .i64 n] [.int .u16 (lo : Nat), .int .u16 (hi : Nat)] [.int .u32 (d : Nat), .int .u32 (s : Nat), .int .u8 (q : Nat), .int .u16 (x : Nat), .int .u16 (y : Nat)]) ⟨?_, ?_, ?_, bel_al (bel_al (bel_al (Below.refl _ _) _) _) _, by simp⟩ (fun W1 hW => ?_)
  · exact (Blk.new W _ [.int .u32 (A : Nat), .int .i64 n]).on (bel_al (bel_al (Below.refl _ _) _) _)
  · have k := Blk.new (W.alloc (.cells #[.int .u32 (A : Nat), .int .i64 n] 24)) 27 [.int .u16 (lo : Nat), .int .u16 (hi : Nat)]
    rw [World.size_alloc] at k
    exact k.on (bel_al (Below.refl _ _) _)
  · have k := Blk.new ((W.alloc (.cells #[.int .u32 (A : Nat), .int .i64 n] 24)).alloc (.cells #[.int .u16 (lo : Nat), .int .u16 (hi : Nat)] 27)) 29 [.int .u32 (d : Nat), .int .u32 (s : Nat), .int .u8 (q : Nat), .int .u16 (x : Nat), .int .u16 (y : Nat)]
    rw [World.size_alloc, World.size_alloc] at k
    exact k
  have X1 := Lib.hid hW
  clear hW
  go_wp2_with fail
  refine (CN.out _).mono ?_
  rintro e w2 ⟨p, rfl, hS, hb⟩
  obtain ⟨Z, hZ⟩ : ∃ Z : Nat → Prop, (fun k => k < W1.heap.size) = Z := ⟨_, rfl⟩
  rw [hZ] at hS
  have HZ : Hid (∀ k, k < W.heap.size + 3 → Z k) := Lib.hid (by rw [← hZ]; intro k hk; have := X1.out.2.2.2.2; show k < W1.heap.size; omega)
  have S2 := Lib.hid hS
  have X2 := Lib.hid (X1.out.on hb)
  clear hS hb CN hZ X1
  obtain ⟨h_0, h_1, h_2, h_3, h_4⟩ : _ ∧ _ ∧ _ ∧ _ ∧ _ := ⟨X2.out.2.2.1.1 0 _ rfl, X2.out.2.2.1.1 1 _ rfl, X2.out.2.2.1.1 2 _ rfl, X2.out.2.2.1.1 3 _ rfl, X2.out.2.2.1.1 4 _ rfl⟩
  go_wp2_with fail
  refine (CA.out _).mono ?_
  rintro e w3 ⟨rfl, hb⟩
  have S3 := Lib.hid (S2.out.on hb)
  have X3 := Lib.hid (X2.out.on hb)
  clear hb CA S2 X2
  clear h_0 h_1 h_2 h_3 h_4
  obtain ⟨p_0, p_1⟩ : _ ∧ _ := ⟨X3.out.1.1 0 _ rfl, X3.out.1.1 1 _ rfl⟩
  go_wp2_with fail
  refine (CPx.out Z p w3 S3.out).mono ?_
  rintro e w4 ⟨g, ns1, rfl, hS, hH, hP⟩
  have S4 := Lib.hid hS
  have X4 := Lib.hid (X3.out.hold hH HZ.out)
  have P4 := Lib.hid hP
  clear hS hH hP CPx S3 X3
  clear p_0 p_1
  obtain ⟨h_0, h_1, h_2, h_3, h_4⟩ : _ ∧ _ ∧ _ ∧ _ ∧ _ := ⟨X4.out.2.2.1.1 0 _ rfl, X4.out.2.2.1.1 1 _ rfl, X4.out.2.2.1.1 2 _ rfl, X4.out.2.2.1.1 3 _ rfl, X4.out.2.2.1.1 4 _ rfl⟩
  go_wp2_with fail
  refine (CB.out _).mono ?_
  rintro e w8 ⟨rfl, hb⟩
  have S8 := Lib.hid (S4.out.on hb)
  have X8 := Lib.hid (X4.out.on hb)
  clear hb CB S4 X4
  clear h_0 h_1 h_2 h_3 h_4
  obtain ⟨r_0, r_1⟩ : _ ∧ _ := ⟨X8.out.2.1.1 0 _ rfl, X8.out.2.1.1 1 _ rfl⟩
  go_wp2_with fail
  refine (CRg.out Z p w8 g ns1 P4.out S8.out).mono ?_
  rintro e w9 ⟨g2, ns2, rfl, hS, hH, hR⟩
  have S9 := Lib.hid hS
  have X9 := Lib.hid (X8.out.hold hH HZ.out)
  have R9 := Lib.hid hR
  clear hS hH hR CRg S8 X8 P4
  clear r_0 r_1
  obtain ⟨r_0, r_1⟩ : _ ∧ _ := ⟨X9.out.2.1.1 0 _ rfl, X9.out.2.1.1 1 _ rfl⟩
  obtain ⟨h_0, h_1, h_2, h_3, h_4⟩ : _ ∧ _ ∧ _ ∧ _ ∧ _ := ⟨X9.out.2.2.1.1 0 _ rfl, X9.out.2.2.1.1 1 _ rfl, X9.out.2.2.1.1 2 _ rfl, X9.out.2.2.1.1 3 _ rfl, X9.out.2.2.1.1 4 _ rfl⟩
  go_wp2_with fail
  refine wp_region_noPanic ?_
  refine wp_region_along (S := fun w' => Below w9.heap.size w9 w' ∧ ∀ b o, (w9.cell? ⟨b, o, none⟩).isSome = true → w'.cell? ⟨b, o, none⟩ = w9.cell? ⟨b, o, none⟩) ([(0, false), (1, true), (2, true), (3, true), (4, true), (5, true), (6, true), (7, true), (8, true), (10, true), (11, true), (12, true), (13, true), (9, false), (14, true), (15, true)] ++ ([(16, true), (17, true), (18, true), (19, true), (20, true), (21, true), (22, true)])) (by kernel_rfl) (by as_aux_lemma => kernel_rfl) (by kernel_rfl) (by kernel_rfl) (alongPre_append _ _ _ (by as_aux_lemma => kernel_rfl) (by as_aux_lemma => kernel_rfl)) (by as_aux_lemma => kernel_rfl) (fun _ _ _ _ _ h => h) (below_kb (Below.refl _ _).drew) (fun hH => ?_)
  simp only [List.cons_append, List.nil_append, stepsOf, pickOp]
  refine along_bar (fun K hK => ?_)
  go_simp
  refine (CW.out _).mono ?_
  rintro e wa ⟨rfl, hbx⟩
  try go_wp2_with fail
  refine hK.out _ _ (below_kb (below_on hH.1 hbx)) (fun hH' => ?_)
  clear hK K hH
  have hH := hH'
  clear hH'
  have Ba := Lib.hid hH.1
  clear hbx
  try simp only [Act.put, List.setIfInBounds_toArray, List.set_cons_zero, List.set_cons_succ]
  iterate 12 (first | (refine along_skip (by rfl) ?_; try simp only [Act.put, List.setIfInBounds_toArray, List.set_cons_zero, List.set_cons_succ]) | (refine along_pure ?_ (by rfl) (fun w hSw => ?_) ?_; rotate_left; ((try dsimp only at hSw); go_simp; try with_reducible rfl); try simp only [Act.put, List.setIfInBounds_toArray, List.set_cons_zero, List.set_cons_succ]))
  refine along_bar (fun K hK => ?_)
  go_simp
  refine (CIn.out Z p wa g2 ns2 R9.out (S9.out.on Ba.out)).mono ?_
  rintro e wb ⟨rfl, hbx⟩
  try go_wp2_with fail
  refine hK.out _ _ (below_kb (below_on hH.1 hbx)) (fun hH' => ?_)
  clear hK K hH
  have hH := hH'
  clear hH'
  clear hbx
  try simp only [Act.put, List.setIfInBounds_toArray, List.set_cons_zero, List.set_cons_succ]
  iterate 9 (first | (refine along_skip (by rfl) ?_; try simp only [Act.put, List.setIfInBounds_toArray, List.set_cons_zero, List.set_cons_succ]) | (refine along_pure ?_ (by rfl) (fun w hSw => ?_) ?_; rotate_left; ((try dsimp only at hSw); go_simp; try with_reducible rfl); try simp only [Act.put, List.setIfInBounds_toArray, List.set_cons_zero, List.set_cons_succ]))
  refine along_end (NoPanic.normal ?_)
  have FIN := Lib.hid (bel_on' X9.out.2.2.2.1 hH.1)
  clear hH
  go_wp2
  go_ret
  exact ⟨rfl, FIN.out⟩
end Go.Proofs.Ytggcbklififcgab
/- EncFields's walk, way by way. -/
namespace Go.Proofs.Ytggcbklififcgab
open Go.RowKit
set_option linter.unusedVariables false

set_option maxRecDepth 100000 in
set_option maxHeartbeats 8000000 in
theorem ef_low {PP PR : Nat → List Nd → Prop} (f : Int) (A : Nat) (n : Int) (lo hi d s q x y xa yb : Nat) (hle : ¬ (hi : Int) < (lo : Int)) (h1 : decide (lo ≤ yb) = false) (W : World)
    (CA : Hid (∀ w, Calls Try.prog 9 #[hv d s q x y, .int .i64 f] w fun e w' => e = .returned (.tuple #[.int .u32 (xa : Nat), .bool false]) ∧ Below w.heap.size w w'))
    (CB : Hid (∀ w, Calls Try.prog 14 #[hv d s q x y, .int .i64 f] w fun e w' => e = .returned (.tuple #[.int .u16 (yb : Nat), .bool true]) ∧ Below w.heap.size w w'))
    (CPx : Hid (∀ Z p w, Sta Z p w 262144 [bot, top] → Calls Try.prog 10 #[.pointer (some ⟨p, 0, none⟩), .int .i64 f, pv A n] w fun e w' => ∃ (g : Nat) (ns1 : List Nd), e = .returned (.tuple #[.int .i64 (g : Nat), .int .i64 1]) ∧ Sta Z p w' 262144 ns1 ∧ Hold Z w w' ∧ PP g ns1))
    (CRg : Hid (∀ Z p w g ns1, PP g ns1 → Sta Z p w 262144 ns1 → Calls Try.prog 15 #[.pointer (some ⟨p, 0, none⟩), .int .i64 f, .agg #[.int .u16 (lo : Nat), .int .u16 (hi : Nat)]] w fun e w' => ∃ (g : Nat) (ns2 : List Nd), e = .returned (.tuple #[.int .i64 (g : Nat), .int .i64 0]) ∧ Sta Z p w' 262144 ns2 ∧ Hold Z w w' ∧ PR g ns2))
    (CIn : Hid (∀ Z p w g ns2, PR g ns2 → Sta Z p w 262144 ns2 → Calls Try.prog 12 #[.pointer (some ⟨p, 0, none⟩), .int .i64 (g : Nat), hv d s q x y] w fun e w' => e = .returned (.bool false) ∧ Below w.heap.size w w')) :
    Calls Try.prog 3 #[.int .i64 f, pv A n, .agg #[.int .u16 (lo : Nat), .int .u16 (hi : Nat)], hv d s q x y] W fun e w' => e = .returned (.bool true) ∧ Below W.heap.size W w' := by
  have CN := Lib.hid (fun w => sNew 262144 (by omega) (by omega) w)
  have CW := Lib.hid (fun w => awake_any w)
  go_enter Try.func3, Try.ntmps3
  go_upto_region 1 with fail
  refine at_code (S := Fx W [.int .u32 (A : Nat), .int .i64 n] [.int .u16 (lo : Nat), .int .u16 (hi : Nat)] [.int .u32 (d : Nat), .int .u32 (s : Nat), .int .u8 (q : Nat), .int .u16 (x : Nat), .int .u16 (y : Nat)]) ⟨?_, ?_, ?_, bel_al (bel_al (bel_al (Below.refl _ _) _) _) _, by simp⟩ (fun W1 hW => ?_)
  · exact (Blk.new W _ [.int .u32 (A : Nat), .int .i64 n]).on (bel_al (bel_al (Below.refl _ _) _) _)
  · have k := Blk.new (W.alloc (.cells #[.int .u32 (A : Nat), .int .i64 n] 24)) 27 [.int .u16 (lo : Nat), .int .u16 (hi : Nat)]
    rw [World.size_alloc] at k
    exact k.on (bel_al (Below.refl _ _) _)
  · have k := Blk.new ((W.alloc (.cells #[.int .u32 (A : Nat), .int .i64 n] 24)).alloc (.cells #[.int .u16 (lo : Nat), .int .u16 (hi : Nat)] 27)) 29 [.int .u32 (d : Nat), .int .u32 (s : Nat), .int .u8 (q : Nat), .int .u16 (x : Nat), .int .u16 (y : Nat)]
    rw [World.size_alloc, World.size_alloc] at k
    exact k
  have X1 := Lib.hid hW
  clear hW
  go_wp2_with fail
  refine (CN.out _).mono ?_
  rintro e w2 ⟨p, rfl, hS, hb⟩
  obtain ⟨Z, hZ⟩ : ∃ Z : Nat → Prop, (fun k => k < W1.heap.size) = Z := ⟨_, rfl⟩
  rw [hZ] at hS
  have HZ : Hid (∀ k, k < W.heap.size + 3 → Z k) := Lib.hid (by rw [← hZ]; intro k hk; have := X1.out.2.2.2.2; show k < W1.heap.size; omega)
  have S2 := Lib.hid hS
  have X2 := Lib.hid (X1.out.on hb)
  clear hS hb CN hZ X1
  obtain ⟨h_0, h_1, h_2, h_3, h_4⟩ : _ ∧ _ ∧ _ ∧ _ ∧ _ := ⟨X2.out.2.2.1.1 0 _ rfl, X2.out.2.2.1.1 1 _ rfl, X2.out.2.2.1.1 2 _ rfl, X2.out.2.2.1.1 3 _ rfl, X2.out.2.2.1.1 4 _ rfl⟩
  go_wp2_with fail
  refine (CA.out _).mono ?_
  rintro e w3 ⟨rfl, hb⟩
  have S3 := Lib.hid (S2.out.on hb)
  have X3 := Lib.hid (X2.out.on hb)
  clear hb CA S2 X2
  clear h_0 h_1 h_2 h_3 h_4
  obtain ⟨p_0, p_1⟩ : _ ∧ _ := ⟨X3.out.1.1 0 _ rfl, X3.out.1.1 1 _ rfl⟩
  go_wp2_with fail
  refine (CPx.out Z p w3 S3.out).mono ?_
  rintro e w4 ⟨g, ns1, rfl, hS, hH, hP⟩
  have S4 := Lib.hid hS
  have X4 := Lib.hid (X3.out.hold hH HZ.out)
  have P4 := Lib.hid hP
  clear hS hH hP CPx S3 X3
  clear p_0 p_1
  obtain ⟨h_0, h_1, h_2, h_3, h_4⟩ : _ ∧ _ ∧ _ ∧ _ ∧ _ := ⟨X4.out.2.2.1.1 0 _ rfl, X4.out.2.2.1.1 1 _ rfl, X4.out.2.2.1.1 2 _ rfl, X4.out.2.2.1.1 3 _ rfl, X4.out.2.2.1.1 4 _ rfl⟩
  go_wp2_with fail
  refine (CB.out _).mono ?_
  rintro e w8 ⟨rfl, hb⟩
  have S8 := Lib.hid (S4.out.on hb)
  have X8 := Lib.hid (X4.out.on hb)
  clear hb CB S4 X4
  clear h_0 h_1 h_2 h_3 h_4
  obtain ⟨r_0, r_1⟩ : _ ∧ _ := ⟨X8.out.2.1.1 0 _ rfl, X8.out.2.1.1 1 _ rfl⟩
  go_wp2_with fail
  refine (CRg.out Z p w8 g ns1 P4.out S8.out).mono ?_
  rintro e w9 ⟨g2, ns2, rfl, hS, hH, hR⟩
  have S9 := Lib.hid hS
  have X9 := Lib.hid (X8.out.hold hH HZ.out)
  have R9 := Lib.hid hR
  clear hS hH hR CRg S8 X8 P4
  clear r_0 r_1
  obtain ⟨r_0, r_1⟩ : _ ∧ _ := ⟨X9.out.2.1.1 0 _ rfl, X9.out.2.1.1 1 _ rfl⟩
  obtain ⟨h_0, h_1, h_2, h_3, h_4⟩ : _ ∧ _ ∧ _ ∧ _ ∧ _ := ⟨X9.out.2.2.1.1 0 _ rfl, X9.out.2.2.1.1 1 _ rfl, X9.out.2.2.1.1 2 _ rfl, X9.out.2.2.1.1 3 _ rfl, X9.out.2.2.1.1 4 _ rfl⟩
  go_wp2_with fail
  refine wp_region_noPanic ?_
  refine wp_region_along (S := fun w' => Below w9.heap.size w9 w' ∧ ∀ b o, (w9.cell? ⟨b, o, none⟩).isSome = true → w'.cell? ⟨b, o, none⟩ = w9.cell? ⟨b, o, none⟩) ([(0, false), (1, true), (2, true), (3, true), (4, true), (5, true), (6, true), (7, true), (8, true), (10, true), (11, true), (12, true), (13, true), (9, false), (14, true), (15, true)] ++ ([(16, true), (17, true), (18, true), (19, true), (20, true), (21, true), (22, true)])) (by kernel_rfl) (by as_aux_lemma => kernel_rfl) (by kernel_rfl) (by kernel_rfl) (alongPre_append _ _ _ (by as_aux_lemma => kernel_rfl) (by as_aux_lemma => kernel_rfl)) (by as_aux_lemma => kernel_rfl) (fun _ _ _ _ _ h => h) (below_kb (Below.refl _ _).drew) (fun hH => ?_)
  simp only [List.cons_append, List.nil_append, stepsOf, pickOp]
  refine along_bar (fun K hK => ?_)
  go_simp
  refine (CW.out _).mono ?_
  rintro e wa ⟨rfl, hbx⟩
  try go_wp2_with fail
  refine hK.out _ _ (below_kb (below_on hH.1 hbx)) (fun hH' => ?_)
  clear hK K hH
  have hH := hH'
  clear hH'
  have Ba := Lib.hid hH.1
  clear hbx
  try simp only [Act.put, List.setIfInBounds_toArray, List.set_cons_zero, List.set_cons_succ]
  iterate 12 (first | (refine along_skip (by rfl) ?_; try simp only [Act.put, List.setIfInBounds_toArray, List.set_cons_zero, List.set_cons_succ]) | (refine along_pure ?_ (by rfl) (fun w hSw => ?_) ?_; rotate_left; ((try dsimp only at hSw); go_simp; try with_reducible rfl); try simp only [Act.put, List.setIfInBounds_toArray, List.set_cons_zero, List.set_cons_succ]))
  refine along_bar (fun K hK => ?_)
  go_simp
  refine (CIn.out Z p wa g2 ns2 R9.out (S9.out.on Ba.out)).mono ?_
  rintro e wb ⟨rfl, hbx⟩
  try go_wp2_with fail
  refine hK.out _ _ (below_kb (below_on hH.1 hbx)) (fun hH' => ?_)
  clear hK K hH
  have hH := hH'
  clear hH'
  clear hbx
  try simp only [Act.put, List.setIfInBounds_toArray, List.set_cons_zero, List.set_cons_succ]
  iterate 9 (first | (refine along_skip (by rfl) ?_; try simp only [Act.put, List.setIfInBounds_toArray, List.set_cons_zero, List.set_cons_succ]) | (refine along_pure ?_ (by rfl) (fun w hSw => ?_) ?_; rotate_left; ((try dsimp only at hSw); go_simp; try with_reducible rfl); try simp only [Act.put, List.setIfInBounds_toArray, List.set_cons_zero, List.set_cons_succ]))
  refine along_end (NoPanic.normal ?_)
  have FIN := Lib.hid (bel_on' X9.out.2.2.2.1 hH.1)
  clear hH
  go_wp2
  go_ret
  exact ⟨rfl, FIN.out⟩
set_option maxRecDepth 100000 in
set_option maxHeartbeats 8000000 in
theorem ef_high {PP PR : Nat → List Nd → Prop} (f : Int) (A : Nat) (n : Int) (lo hi d s q x y xa yb : Nat) (hle : ¬ (hi : Int) < (lo : Int)) (h1 : (lo : Int) ≤ (yb : Int)) (h2 : decide (yb ≤ hi) = false) (W : World)
    (CA : Hid (∀ w, Calls Try.prog 9 #[hv d s q x y, .int .i64 f] w fun e w' => e = .returned (.tuple #[.int .u32 (xa : Nat), .bool false]) ∧ Below w.heap.size w w'))
    (CB : Hid (∀ w, Calls Try.prog 14 #[hv d s q x y, .int .i64 f] w fun e w' => e = .returned (.tuple #[.int .u16 (yb : Nat), .bool true]) ∧ Below w.heap.size w w'))
    (CPx : Hid (∀ Z p w, Sta Z p w 262144 [bot, top] → Calls Try.prog 10 #[.pointer (some ⟨p, 0, none⟩), .int .i64 f, pv A n] w fun e w' => ∃ (g : Nat) (ns1 : List Nd), e = .returned (.tuple #[.int .i64 (g : Nat), .int .i64 1]) ∧ Sta Z p w' 262144 ns1 ∧ Hold Z w w' ∧ PP g ns1))
    (CRg : Hid (∀ Z p w g ns1, PP g ns1 → Sta Z p w 262144 ns1 → Calls Try.prog 15 #[.pointer (some ⟨p, 0, none⟩), .int .i64 f, .agg #[.int .u16 (lo : Nat), .int .u16 (hi : Nat)]] w fun e w' => ∃ (g : Nat) (ns2 : List Nd), e = .returned (.tuple #[.int .i64 (g : Nat), .int .i64 0]) ∧ Sta Z p w' 262144 ns2 ∧ Hold Z w w' ∧ PR g ns2))
    (CIn : Hid (∀ Z p w g ns2, PR g ns2 → Sta Z p w 262144 ns2 → Calls Try.prog 12 #[.pointer (some ⟨p, 0, none⟩), .int .i64 (g : Nat), hv d s q x y] w fun e w' => e = .returned (.bool false) ∧ Below w.heap.size w w')) :
    Calls Try.prog 3 #[.int .i64 f, pv A n, .agg #[.int .u16 (lo : Nat), .int .u16 (hi : Nat)], hv d s q x y] W fun e w' => e = .returned (.bool true) ∧ Below W.heap.size W w' := by
  have CN := Lib.hid (fun w => sNew 262144 (by omega) (by omega) w)
  have CW := Lib.hid (fun w => awake_any w)
  go_enter Try.func3, Try.ntmps3
  go_upto_region 1 with fail
  refine at_code (S := Fx W [.int .u32 (A : Nat), .int .i64 n] [.int .u16 (lo : Nat), .int .u16 (hi : Nat)] [.int .u32 (d : Nat), .int .u32 (s : Nat), .int .u8 (q : Nat), .int .u16 (x : Nat), .int .u16 (y : Nat)]) ⟨?_, ?_, ?_, bel_al (bel_al (bel_al (Below.refl _ _) _) _) _, by simp⟩ (fun W1 hW => ?_)
  · exact (Blk.new W _ [.int .u32 (A : Nat), .int .i64 n]).on (bel_al (bel_al (Below.refl _ _) _) _)
  · have k := Blk.new (W.alloc (.cells #[.int .u32 (A : Nat), .int .i64 n] 24)) 27 [.int .u16 (lo : Nat), .int .u16 (hi : Nat)]
    rw [World.size_alloc] at k
    exact k.on (bel_al (Below.refl _ _) _)
  · have k := Blk.new ((W.alloc (.cells #[.int .u32 (A : Nat), .int .i64 n] 24)).alloc (.cells #[.int .u16 (lo : Nat), .int .u16 (hi : Nat)] 27)) 29 [.int .u32 (d : Nat), .int .u32 (s : Nat), .int .u8 (q : Nat), .int .u16 (x : Nat), .int .u16 (y : Nat)]
    rw [World.size_alloc, World.size_alloc] at k
    exact k
  have X1 := Lib.hid hW
  clear hW
  go_wp2_with fail
  refine (CN.out _).mono ?_
  rintro e w2 ⟨p, rfl, hS, hb⟩
  obtain ⟨Z, hZ⟩ : ∃ Z : Nat → Prop, (fun k => k < W1.heap.size) = Z := ⟨_, rfl⟩
  rw [hZ] at hS
  have HZ : Hid (∀ k, k < W.heap.size + 3 → Z k) := Lib.hid (by rw [← hZ]; intro k hk; have := X1.out.2.2.2.2; show k < W1.heap.size; omega)
  have S2 := Lib.hid hS
  have X2 := Lib.hid (X1.out.on hb)
  clear hS hb CN hZ X1
  obtain ⟨h_0, h_1, h_2, h_3, h_4⟩ : _ ∧ _ ∧ _ ∧ _ ∧ _ := ⟨X2.out.2.2.1.1 0 _ rfl, X2.out.2.2.1.1 1 _ rfl, X2.out.2.2.1.1 2 _ rfl, X2.out.2.2.1.1 3 _ rfl, X2.out.2.2.1.1 4 _ rfl⟩
  go_wp2_with fail
  refine (CA.out _).mono ?_
  rintro e w3 ⟨rfl, hb⟩
  have S3 := Lib.hid (S2.out.on hb)
  have X3 := Lib.hid (X2.out.on hb)
  clear hb CA S2 X2
  clear h_0 h_1 h_2 h_3 h_4
  obtain ⟨p_0, p_1⟩ : _ ∧ _ := ⟨X3.out.1.1 0 _ rfl, X3.out.1.1 1 _ rfl⟩
  go_wp2_with fail
  refine (CPx.out Z p w3 S3.out).mono ?_
  rintro e w4 ⟨g, ns1, rfl, hS, hH, hP⟩
  have S4 := Lib.hid hS
  have X4 := Lib.hid (X3.out.hold hH HZ.out)
  have P4 := Lib.hid hP
  clear hS hH hP CPx S3 X3
  clear p_0 p_1
  obtain ⟨h_0, h_1, h_2, h_3, h_4⟩ : _ ∧ _ ∧ _ ∧ _ ∧ _ := ⟨X4.out.2.2.1.1 0 _ rfl, X4.out.2.2.1.1 1 _ rfl, X4.out.2.2.1.1 2 _ rfl, X4.out.2.2.1.1 3 _ rfl, X4.out.2.2.1.1 4 _ rfl⟩
  go_wp2_with fail
  refine (CB.out _).mono ?_
  rintro e w8 ⟨rfl, hb⟩
  have S8 := Lib.hid (S4.out.on hb)
  have X8 := Lib.hid (X4.out.on hb)
  clear hb CB S4 X4
  clear h_0 h_1 h_2 h_3 h_4
  obtain ⟨r_0, r_1⟩ : _ ∧ _ := ⟨X8.out.2.1.1 0 _ rfl, X8.out.2.1.1 1 _ rfl⟩
  go_wp2_with fail
  refine (CRg.out Z p w8 g ns1 P4.out S8.out).mono ?_
  rintro e w9 ⟨g2, ns2, rfl, hS, hH, hR⟩
  have S9 := Lib.hid hS
  have X9 := Lib.hid (X8.out.hold hH HZ.out)
  have R9 := Lib.hid hR
  clear hS hH hR CRg S8 X8 P4
  clear r_0 r_1
  obtain ⟨r_0, r_1⟩ : _ ∧ _ := ⟨X9.out.2.1.1 0 _ rfl, X9.out.2.1.1 1 _ rfl⟩
  obtain ⟨h_0, h_1, h_2, h_3, h_4⟩ : _ ∧ _ ∧ _ ∧ _ ∧ _ := ⟨X9.out.2.2.1.1 0 _ rfl, X9.out.2.2.1.1 1 _ rfl, X9.out.2.2.1.1 2 _ rfl, X9.out.2.2.1.1 3 _ rfl, X9.out.2.2.1.1 4 _ rfl⟩
  go_wp2_with fail
  refine wp_region_noPanic ?_
  refine wp_region_along (S := fun w' => Below w9.heap.size w9 w' ∧ ∀ b o, (w9.cell? ⟨b, o, none⟩).isSome = true → w'.cell? ⟨b, o, none⟩ = w9.cell? ⟨b, o, none⟩) ([(0, false), (1, true), (2, true), (3, true), (4, true), (5, true), (6, true), (7, true), (8, true), (10, true), (11, true), (12, true), (13, true), (9, false), (14, true), (15, true)] ++ ([(16, true), (17, true), (18, true), (19, true), (20, true), (21, true), (22, true)])) (by kernel_rfl) (by as_aux_lemma => kernel_rfl) (by kernel_rfl) (by kernel_rfl) (alongPre_append _ _ _ (by as_aux_lemma => kernel_rfl) (by as_aux_lemma => kernel_rfl)) (by as_aux_lemma => kernel_rfl) (fun _ _ _ _ _ h => h) (below_kb (Below.refl _ _).drew) (fun hH => ?_)
  simp only [List.cons_append, List.nil_append, stepsOf, pickOp]
  refine along_bar (fun K hK => ?_)
  go_simp
  refine (CW.out _).mono ?_
  rintro e wa ⟨rfl, hbx⟩
  try go_wp2_with fail
  refine hK.out _ _ (below_kb (below_on hH.1 hbx)) (fun hH' => ?_)
  clear hK K hH
  have hH := hH'
  clear hH'
  have Ba := Lib.hid hH.1
  clear hbx
  try simp only [Act.put, List.setIfInBounds_toArray, List.set_cons_zero, List.set_cons_succ]
  iterate 12 (first | (refine along_skip (by rfl) ?_; try simp only [Act.put, List.setIfInBounds_toArray, List.set_cons_zero, List.set_cons_succ]) | (refine along_pure ?_ (by rfl) (fun w hSw => ?_) ?_; rotate_left; ((try dsimp only at hSw); go_simp; try with_reducible rfl); try simp only [Act.put, List.setIfInBounds_toArray, List.set_cons_zero, List.set_cons_succ]))
  refine along_bar (fun K hK => ?_)
  go_simp
  refine (CIn.out Z p wa g2 ns2 R9.out (S9.out.on Ba.out)).mono ?_
  rintro e wb ⟨rfl, hbx⟩
  try go_wp2_with fail
  refine hK.out _ _ (below_kb (below_on hH.1 hbx)) (fun hH' => ?_)
  clear hK K hH
  have hH := hH'
  clear hH'
  clear hbx
  try simp only [Act.put, List.setIfInBounds_toArray, List.set_cons_zero, List.set_cons_succ]
  iterate 9 (first | (refine along_skip (by rfl) ?_; try simp only [Act.put, List.setIfInBounds_toArray, List.set_cons_zero, List.set_cons_succ]) | (refine along_pure ?_ (by rfl) (fun w hSw => ?_) ?_; rotate_left; ((try dsimp only at hSw); go_simp; try with_reducible rfl); try simp only [Act.put, List.setIfInBounds_toArray, List.set_cons_zero, List.set_cons_succ]))
  refine along_end (NoPanic.normal ?_)
  have FIN := Lib.hid (bel_on' X9.out.2.2.2.1 hH.1)
  clear hH
  go_wp2
  go_ret
  exact ⟨rfl, FIN.out⟩
end Go.Proofs.Ytggcbklififcgab
/- EncFields: any field, prefix, range and header. -/
namespace Go.Proofs.Ytggcbklififcgab
open Go.RowKit
set_option linter.unusedVariables false

/-- What a refused call leaves. -/
theorem ref_of {Z : Nat → Prop} {p : Nat} {w : World} {ns : List Nd} {c : Int} {P : Nat → List Nd → Prop} (hS : Sta Z p w 262144 ns) (hP : P 0 ns) {f : Nat} {args : Array Value}
    (h : Calls Try.prog f args w fun e w' => e = .returned (.tuple #[.int .i64 0, .int .i64 c]) ∧ Below w.heap.size w w') :
    Calls Try.prog f args w fun e w' => ∃ (g : Nat) (ns1 : List Nd), e = .returned (.tuple #[.int .i64 (g : Nat), .int .i64 c]) ∧ Sta Z p w' 262144 ns1 ∧ Hold Z w w' ∧ P g ns1 :=
  h.mono fun e w' ⟨h1, h2⟩ => ⟨0, ns, h1, hS.on h2, Hold.of h2, hP⟩
/-- What a call with room enough leaves. -/
theorem lv_of {Z : Nat → Prop} {p : Nat} {W w' : World} {ns : List Nd} {R : Option Nat × List Nd} {φ : Env → Bool} {c l hi : Nat} {D : (Nat → Bool) → Prop} {e : Ending} (hG : Got2 Z p 262144 R W e w') (hL : Lv 262144 ns R φ c l hi D) (hc : ns.length + c < 262144) :
    ∃ (g : Nat) (ns1 : List Nd), e = .returned (.tuple #[.int .i64 (g : Nat), .int .i64 0]) ∧ Sta Z p w' 262144 ns1 ∧ Hold Z W w' ∧ Gd ns ns1 g φ c l hi D := by
  rcases got2_cases hG with ⟨hr, -⟩ | ⟨q, hr, h1, h2, h3⟩
  · obtain ⟨x, -⟩ := hL.none hr; omega
  · exact ⟨q, R.2, h1, h2, h3, hL.some q hr⟩
theorem pre_of {Z : Nat → Prop} {p : Nat} {W : World} {ns : List Nd} {v : Value} {f A k a : Nat} (hS : Sta Z p W 262144 ns) (h104 : a + k ≤ 104) (hc : ns.length + k < 262144)
    (h : Calls Try.prog 10 #[.pointer (some ⟨p, 0, none⟩), .int .i64 (f : Nat), v] W (Got2 Z p 262144 (cF 262144 ns (fl A A 0 0 0 a k)) W)) :
    Calls Try.prog 10 #[.pointer (some ⟨p, 0, none⟩), .int .i64 (f : Nat), v] W fun e w' => ∃ (g : Nat) (ns1 : List Nd), e = .returned (.tuple #[.int .i64 (g : Nat), .int .i64 0]) ∧ Sta Z p w' 262144 ns1 ∧ Hold Z W w' ∧ Gd ns ns1 g (allB (fl A A 0 0 0 a k)) k k 104 (fun B => ∀ i, i < k → B (a + i) = true) := by
  have hr := fl_rise A A 0 0 0 a k h104
  obtain ⟨L, -⟩ := cF_lv 262144 104 hS.wf hr.1 hr.2 hr.2
  rw [fl_len] at L
  have L' : Lv 262144 ns (cF 262144 ns (fl A A 0 0 0 a k)) (allB (fl A A 0 0 0 a k)) k k 104 (fun B => ∀ i, i < k → B (a + i) = true) := ⟨fun q hq => (L.some q hq).mono (Nat.le_refl _) (Nat.le_refl _) (Nat.le_refl _) (fun B hB p hp => by
    obtain ⟨i, hi, e⟩ := fl_mem hp
    rw [e]; exact hB i hi), L.none⟩
  exact h.mono fun e w' hG => lv_of hG L' hc
theorem rng_of {Z : Nat → Prop} {p : Nat} {W : World} {ns : List Nd} (hS : Sta Z p W 262144 ns) (a lo hi : Nat) (ha : a = 72 ∨ a = 88) (hlo : lo < 65536) (hhi : hi < 65536) (hle : lo ≤ hi) (hc : ns.length + 352 < 262144) :
    Calls Try.prog 15 #[.pointer (some ⟨p, 0, none⟩), .int .i64 (a : Nat), .agg #[.int .u16 (lo : Nat), .int .u16 (hi : Nat)]] W fun e w' => ∃ (g : Nat) (ns1 : List Nd), e = .returned (.tuple #[.int .i64 (g : Nat), .int .i64 0]) ∧ Sta Z p w' 262144 ns1 ∧ Hold Z W w' ∧ Gd ns ns1 g (rgP a lo hi) 352 320 (a + 16) (fun B => ∀ i, i < 16 → B (a + i) = true) :=
  (range_any hS a lo hi ha hlo hhi hle).mono fun e w' ⟨R, hG, hL, _⟩ => lv_of hG hL hc
theorem in_of {Z : Nat → Prop} {p : Nat} {w : World} {ns : List Nd} {g d s q x y : Nat} {φ : Env → Bool} {T : Bool} (h : Sta Z p w 262144 ns) (hg : St ns g φ) (hh : HB d s q x y) (hT : φ (hE d s q x y) = T) :
    Calls Try.prog 12 #[.pointer (some ⟨p, 0, none⟩), .int .i64 (g : Nat), hv d s q x y] w fun e w' => e = .returned (.bool T) ∧ Below w.heap.size w w' := by
  have k := sIn h g d s q x y hh hg.1
  rw [hg.2, hT] at k
  exact k
theorem right_k {A : Nat} {n : Int} (h : rightB A n = true) : ∃ k : Nat, n = (k : Nat) ∧ k ≤ 32 := by
  unfold rightB at h
  rw [decide_eq_true_eq] at h
  obtain ⟨k, rfl⟩ := Int.eq_ofNat_of_zero_le h.1
  exact ⟨k, rfl, by omega⟩
theorem encFields_any (f : Int) (A : Nat) (n : Int) (lo hi d s q x y : Nat) (hA : A < 4294967296) (hlo : lo < 65536) (hhi : hi < 65536) (hh : HB d s q x y) (W : World) :
    Calls Try.prog 3 #[.int .i64 f, pv A n, .agg #[.int .u16 (lo : Nat), .int .u16 (hi : Nat)], hv d s q x y] W fun e w' => e = .returned (.bool true) ∧ Below W.heap.size W w' := by
  have hpv : ∃ a n', pv (A : Int) n = .agg #[.int .u32 a, .int .i64 n'] := ⟨_, _, rfl⟩
  by_cases c0 : f = 0
  · subst c0
    cases hr : rightB A n with
    | false =>
      exact ef_bad (PP := fun _ ns => ns = [bot, top]) (PR := fun _ _ => True) 0 A n lo hi d s q x y d 0 W (Lib.hid (fun w => raddr_dst d s q x y w)) (Lib.hid (fun w => rport_no d s q x y 0 (by decide) (by decide) w))
        (Lib.hid (fun Z p w hS => ref_of hS rfl (prefixD_bad p A n hA hr w))) (Lib.hid (fun Z p w g ns1 hP hS => ref_of hS trivial (range_field p 0 (by decide) (by decide) lo hi w))) (Lib.hid (fun w => by have k := rright_any A n hA w; rw [hr] at k; exact k))
    | true =>
      obtain ⟨k, rfl, hk⟩ := right_k hr
      exact ef_pre (PP := fun g ns => Gd [bot, top] ns g (allB (fl A A 0 0 0 0 k)) k k 104 (fun B => ∀ i, i < k → B (0 + i) = true)) (PR := fun _ _ => True) 0 A (k : Nat) lo hi d s q x y d 0 (decide (d / sz k = A / sz k)) W (Lib.hid (fun w => raddr_dst d s q x y w)) (Lib.hid (fun w => rport_no d s q x y 0 (by decide) (by decide) w))
        (Lib.hid (fun Z p w hS => pre_of hS (by omega) (by show 2 + k < _; omega) (prefixD_any hS A k hA hk hr))) (Lib.hid (fun Z p w g ns1 hP hS => ref_of hS trivial (range_field p 0 (by decide) (by decide) lo hi w)))
        (Lib.hid (fun w => by have k' := rright_any A (k : Nat) hA w; rw [hr] at k'; exact k')) (Lib.hid (fun Z p w g ns1 hP hS => in_of hS hP.st hh (fl_dst hA hk hh))) (Lib.hid (fun w => rhas_any A k d hk hA hh.d w))
  by_cases c1 : f = 32
  · subst c1
    cases hr : rightB A n with
    | false =>
      exact ef_bad (PP := fun _ ns => ns = [bot, top]) (PR := fun _ _ => True) 32 A n lo hi d s q x y s 0 W (Lib.hid (fun w => raddr_src d s q x y w)) (Lib.hid (fun w => rport_no d s q x y 32 (by decide) (by decide) w))
        (Lib.hid (fun Z p w hS => ref_of hS rfl (prefixS_bad p A n hA hr w))) (Lib.hid (fun Z p w g ns1 hP hS => ref_of hS trivial (range_field p 32 (by decide) (by decide) lo hi w))) (Lib.hid (fun w => by have k := rright_any A n hA w; rw [hr] at k; exact k))
    | true =>
      obtain ⟨k, rfl, hk⟩ := right_k hr
      exact ef_pre (PP := fun g ns => Gd [bot, top] ns g (allB (fl A A 0 0 0 32 k)) k k 104 (fun B => ∀ i, i < k → B (32 + i) = true)) (PR := fun _ _ => True) 32 A (k : Nat) lo hi d s q x y s 0 (decide (s / sz k = A / sz k)) W (Lib.hid (fun w => raddr_src d s q x y w)) (Lib.hid (fun w => rport_no d s q x y 32 (by decide) (by decide) w))
        (Lib.hid (fun Z p w hS => pre_of hS (by omega) (by show 2 + k < _; omega) (prefixS_any hS A k hA hk hr))) (Lib.hid (fun Z p w g ns1 hP hS => ref_of hS trivial (range_field p 32 (by decide) (by decide) lo hi w)))
        (Lib.hid (fun w => by have k' := rright_any A (k : Nat) hA w; rw [hr] at k'; exact k')) (Lib.hid (fun Z p w g ns1 hP hS => in_of hS hP.st hh (fl_src hA hk hh))) (Lib.hid (fun w => rhas_any A k s hk hA hh.s w))
  have CPx : Hid (∀ Z p w, Sta Z p w 262144 [bot, top] → Calls Try.prog 10 #[.pointer (some ⟨p, 0, none⟩), .int .i64 f, pv A n] w fun e w' => ∃ (g : Nat) (ns1 : List Nd), e = .returned (.tuple #[.int .i64 (g : Nat), .int .i64 1]) ∧ Sta Z p w' 262144 ns1 ∧ Hold Z w w' ∧ ns1 = [bot, top]) :=
    Lib.hid (fun Z p w hS => ref_of (P := fun _ ns => ns = [bot, top]) hS rfl (prefix_field p f c0 c1 _ hpv w))
  by_cases c2 : f = 72
  · subst c2
    by_cases hgt : hi < lo
    · exact ef_bounds (PP := fun _ ns => ns = [bot, top]) (PR := fun _ _ => True) 72 A n lo hi d s q x y 0 x (by omega) W (Lib.hid (fun w => raddr_no d s q x y 72 (by decide) (by decide) w)) (Lib.hid (fun w => rport_s d s q x y w)) CPx
        (Lib.hid (fun Z p w g ns1 hP hS => ref_of hS trivial (range_bounds p 72 (Or.inl rfl) lo hi hgt w)))
    · have hle : ¬ (hi : Int) < (lo : Int) := by omega
      have CRg : Hid (∀ Z p w g ns1, ns1 = [bot, top] → Sta Z p w 262144 ns1 → Calls Try.prog 15 #[.pointer (some ⟨p, 0, none⟩), .int .i64 72, .agg #[.int .u16 (lo : Nat), .int .u16 (hi : Nat)]] w fun e w' => ∃ (g : Nat) (ns2 : List Nd), e = .returned (.tuple #[.int .i64 (g : Nat), .int .i64 0]) ∧ Sta Z p w' 262144 ns2 ∧ Hold Z w w' ∧ Gd [bot, top] ns2 g (rgP 72 lo hi) 352 320 (72 + 16) (fun B => ∀ i, i < 16 → B (72 + i) = true)) :=
        Lib.hid (fun Z p w (g : Nat) ns1 hP hS => by subst hP; exact rng_of hS 72 lo hi (Or.inl rfl) hlo hhi (by omega) (by decide))
      by_cases h1 : lo ≤ x
      · by_cases h2 : x ≤ hi
        · exact ef_in (PP := fun _ ns => ns = [bot, top]) 72 A n lo hi d s q x y 0 x hle (by omega) (by omega) W (Lib.hid (fun w => raddr_no d s q x y 72 (by decide) (by decide) w)) (Lib.hid (fun w => rport_s d s q x y w)) CPx CRg
            (Lib.hid (fun Z p w g ns2 hP hS => in_of hS hP.st hh (by rw [rg_sp hlo hhi hh]; exact decide_eq_true ⟨h1, h2⟩)))
        · exact ef_high (PP := fun _ ns => ns = [bot, top]) 72 A n lo hi d s q x y 0 x hle (by omega) (decide_eq_false h2) W (Lib.hid (fun w => raddr_no d s q x y 72 (by decide) (by decide) w)) (Lib.hid (fun w => rport_s d s q x y w)) CPx CRg
            (Lib.hid (fun Z p w g ns2 hP hS => in_of hS hP.st hh (by rw [rg_sp hlo hhi hh]; exact decide_eq_false (fun q => h2 q.2))))
      · exact ef_low (PP := fun _ ns => ns = [bot, top]) 72 A n lo hi d s q x y 0 x hle (decide_eq_false h1) W (Lib.hid (fun w => raddr_no d s q x y 72 (by decide) (by decide) w)) (Lib.hid (fun w => rport_s d s q x y w)) CPx CRg
          (Lib.hid (fun Z p w g ns2 hP hS => in_of hS hP.st hh (by rw [rg_sp hlo hhi hh]; exact decide_eq_false (fun q => h1 q.1))))
  by_cases c3 : f = 88
  · subst c3
    by_cases hgt : hi < lo
    · exact ef_bounds (PP := fun _ ns => ns = [bot, top]) (PR := fun _ _ => True) 88 A n lo hi d s q x y 0 y (by omega) W (Lib.hid (fun w => raddr_no d s q x y 88 (by decide) (by decide) w)) (Lib.hid (fun w => rport_d d s q x y w)) CPx
        (Lib.hid (fun Z p w g ns1 hP hS => ref_of hS trivial (range_bounds p 88 (Or.inr rfl) lo hi hgt w)))
    · have hle : ¬ (hi : Int) < (lo : Int) := by omega
      have CRg : Hid (∀ Z p w g ns1, ns1 = [bot, top] → Sta Z p w 262144 ns1 → Calls Try.prog 15 #[.pointer (some ⟨p, 0, none⟩), .int .i64 88, .agg #[.int .u16 (lo : Nat), .int .u16 (hi : Nat)]] w fun e w' => ∃ (g : Nat) (ns2 : List Nd), e = .returned (.tuple #[.int .i64 (g : Nat), .int .i64 0]) ∧ Sta Z p w' 262144 ns2 ∧ Hold Z w w' ∧ Gd [bot, top] ns2 g (rgP 88 lo hi) 352 320 (88 + 16) (fun B => ∀ i, i < 16 → B (88 + i) = true)) :=
        Lib.hid (fun Z p w (g : Nat) ns1 hP hS => by subst hP; exact rng_of hS 88 lo hi (Or.inr rfl) hlo hhi (by omega) (by decide))
      by_cases h1 : lo ≤ y
      · by_cases h2 : y ≤ hi
        · exact ef_in (PP := fun _ ns => ns = [bot, top]) 88 A n lo hi d s q x y 0 y hle (by omega) (by omega) W (Lib.hid (fun w => raddr_no d s q x y 88 (by decide) (by decide) w)) (Lib.hid (fun w => rport_d d s q x y w)) CPx CRg
            (Lib.hid (fun Z p w g ns2 hP hS => in_of hS hP.st hh (by rw [rg_dp hlo hhi hh]; exact decide_eq_true ⟨h1, h2⟩)))
        · exact ef_high (PP := fun _ ns => ns = [bot, top]) 88 A n lo hi d s q x y 0 y hle (by omega) (decide_eq_false h2) W (Lib.hid (fun w => raddr_no d s q x y 88 (by decide) (by decide) w)) (Lib.hid (fun w => rport_d d s q x y w)) CPx CRg
            (Lib.hid (fun Z p w g ns2 hP hS => in_of hS hP.st hh (by rw [rg_dp hlo hhi hh]; exact decide_eq_false (fun q => h2 q.2))))
      · exact ef_low (PP := fun _ ns => ns = [bot, top]) 88 A n lo hi d s q x y 0 y hle (decide_eq_false h1) W (Lib.hid (fun w => raddr_no d s q x y 88 (by decide) (by decide) w)) (Lib.hid (fun w => rport_d d s q x y w)) CPx CRg
          (Lib.hid (fun Z p w g ns2 hP hS => in_of hS hP.st hh (by rw [rg_dp hlo hhi hh]; exact decide_eq_false (fun q => h1 q.1))))
  · exact ef_none (PP := fun _ ns => ns = [bot, top]) (PR := fun _ _ => True) f A n lo hi d s q x y 0 0 W (Lib.hid (fun w => raddr_no d s q x y f c0 c1 w)) (Lib.hid (fun w => rport_no d s q x y f c2 c3 w)) CPx
      (Lib.hid (fun Z p w g ns1 hP hS => ref_of hS trivial (range_field p f c2 c3 lo hi w)))
end Go.Proofs.Ytggcbklififcgab
/- Slices of structs that are handed in, opened to lists of records. No program in sight. -/
namespace Go.Proofs.Ytggcbklififcgab
open Go.ChangeShapes Go.WideShapes Go.ChangeAt Go.RowKit Go.Joins Go.Deep Go.WideElems Go.Maps
set_option linter.unusedVariables false

/-- These cells lie behind a slice's address. -/
def Rw (w : World) (a : Option Addr) (cs : List Value) : Prop := ∀ j v, cs[j]? = some v → ∃ b off, a = some ⟨b, off, none⟩ ∧ w.cell? ⟨b, off + j, none⟩ = some v
theorem Rw.on {w w' : World} {a : Option Addr} {cs : List Value} (h : Rw w a cs) (hb : Below w.heap.size w w') : Rw w' a cs := fun j v hv => by
  obtain ⟨b, off, e, hc⟩ := h j v hv
  exact ⟨b, off, e, (hb.cell (p := ⟨b, off + j, none⟩) (cell_lt (o := off + j) (by rw [hc]; rfl))).trans hc⟩
theorem Rw.ad {w : World} {a : Option Addr} {c : Value} {cs : List Value} (h : Rw w a (c :: cs)) : ∃ b off, a = some ⟨b, off, none⟩ := by
  obtain ⟨b, off, e, -⟩ := h 0 c rfl; exact ⟨b, off, e⟩
theorem Rw.cell {w : World} {b off : Nat} {cs : List Value} (h : Rw w (some ⟨b, off, none⟩) cs) {j : Nat} {v : Value} (hv : cs[j]? = some v) : w.cell? ⟨b, off + j, none⟩ = some v := by
  obtain ⟨b', off', e, hc⟩ := h j v hv
  cases e; exact hc
theorem Rw.pre {w : World} {a : Option Addr} {cs ds : List Value} (h : Rw w a (cs ++ ds)) : Rw w a cs := fun j v hv => h j v (by
  rw [List.getElem?_append_left]
  · exact hv
  · rcases Nat.lt_or_ge j cs.length with q | q
    · exact q
    · rw [List.getElem?_eq_none q] at hv; cases hv)
theorem Rw.take {α : Type} {w : World} {a : Option Addr} {f : α → List Value} {L : List α} (h : Rw w a (L.flatMap f)) (k : Nat) : Rw w a ((L.take k).flatMap f) := by
  rw [← List.take_append_drop k L, List.flatMap_append] at h
  exact h.pre
/-- Where the j-th cell of the i-th of rows of k cells each stands. -/
theorem flat_get {α : Type} (f : α → List Value) (k : Nat) : ∀ (L : List α), (∀ x ∈ L, (f x).length = k) → ∀ (i j : Nat) (x : α), L[i]? = some x → j < k → (L.flatMap f)[k * i + j]? = (f x)[j]?
  | [], _, i, j, x, hx, _ => by simp at hx
  | y :: r, hk, 0, j, x, hx, hj => by
    simp at hx; subst hx
    rw [List.flatMap_cons, Nat.mul_zero, Nat.zero_add, List.getElem?_append_left (by rw [hk _ (by simp)]; exact hj)]
  | y :: r, hk, i + 1, j, x, hx, hj => by
    have hy : (f y).length = k := hk y (by simp)
    rw [List.flatMap_cons, List.getElem?_append_right (by rw [hy, Nat.mul_succ]; omega), hy, show k * (i + 1) + j - k = k * i + j by rw [Nat.mul_succ]; omega]
    exact flat_get f k r (fun x hx => hk x (by simp [hx])) i j x (by simpa using hx) hj
/-- The j-th cell of the i-th element. -/
theorem Rw.elem {α : Type} {w : World} {b off : Nat} {f : α → List Value} {L : List α} (k : Nat) (h : Rw w (some ⟨b, off, none⟩) (L.flatMap f)) (hk : ∀ x, (f x).length = k) {i : Nat} {x : α} (hx : L[i]? = some x) (j : Nat) {v : Value} (hv : (f x)[j]? = some v) :
    w.cell? ⟨b, off + i * k + j, none⟩ = some v := by
  have hj : j < k := by
    rw [← hk x]
    rcases Nat.lt_or_ge j (f x).length with q | q
    · exact q
    · rw [List.getElem?_eq_none q] at hv; cases hv
  have := h.cell (j := k * i + j) (by rw [flat_get f k L (fun x _ => hk x) i j x hx hj]; exact hv)
  rw [Nat.mul_comm i k, Nat.add_assoc]; exact this
theorem Rw.elemAd {α : Type} {w : World} {a : Option Addr} {f : α → List Value} {L : List α} (k : Nat) (h : Rw w a (L.flatMap f)) (hk : ∀ x, (f x).length = k + 1) {i : Nat} {x : α} (hx : L[i]? = some x) : ∃ b off, a = some ⟨b, off, none⟩ := by
  have e := flat_get f (k + 1) L (fun x _ => hk x) i 0 x hx (by omega)
  rw [List.getElem?_eq_getElem (show 0 < (f x).length by rw [hk]; omega)] at e
  obtain ⟨b, off, e, -⟩ := h _ _ e
  exact ⟨b, off, e⟩
theorem drop_at {α : Type} {l : List α} {i : Nat} (h : i < l.length) : ∃ x, l[i]? = some x ∧ l.drop i = x :: l.drop (i + 1) ∧ x ∈ l := ⟨l[i], List.getElem?_eq_getElem h, List.drop_eq_getElem_cons h, List.getElem_mem h⟩
theorem list_of {α : Type} (Pr : Nat → α → Prop) : ∀ n, (∀ i, i < n → ∃ x, Pr i x) → ∃ L : List α, L.length = n ∧ ∀ i x, L[i]? = some x → Pr i x
  | 0, _ => ⟨[], rfl, fun i x h => by simp at h⟩
  | n + 1, h => by
    obtain ⟨L, hl, hL⟩ := list_of Pr n (fun i hi => h i (by omega))
    obtain ⟨x, hx⟩ := h n (by omega)
    refine ⟨L ++ [x], by simp [hl], fun i y hy => ?_⟩
    rcases Nat.lt_or_ge i n with q | q
    · rw [List.getElem?_append_left (by omega)] at hy; exact hL i y hy
    · rw [List.getElem?_append_right (by omega), hl] at hy
      have e : i = n := by
        rcases Nat.eq_or_lt_of_le q with q | q
        · exact q.symm
        · rw [List.getElem?_eq_none (by simp; omega)] at hy; cases hy
      subst e
      simp at hy; subst hy; exact hx
theorem spot_none {w : World} {a : Addr} {v : Value} (h : w.cell? a = some v) : a.spot = none := by
  unfold World.cell? at h
  split at h
  · cases hs : a.spot with
    | none => rfl
    | some s => rw [hs] at h; simp at h
  · cases h
theorem add_plain {b off n : Nat} : (⟨b, off, none⟩ : Addr).add n = ⟨b, off + n, none⟩ := by
  unfold Addr.add
  split
  · rename_i e; rw [e]; rfl
  · rfl
section
variable {H : Type} {enc : TypeId × Value → H} {P : Program} {w : World} {base : Nat} {sp : Nat → Bool} {held : Bool} {n : Nat}
theorem slice_rows {α : Type} (f : α → List Value) (Ok : α → Prop) (k : Nat) {t e : TypeId} {cs : List Value} {x : DataW H × List MemPlace} (ht : P.underlying t = some (.slice e)) (hk : P.cellsOf e = k + 1) (hf : ∀ x, (f x).length = k + 1)
    (hd : ∀ (m : Nat) (cs : List Value) (y : DataW H × List MemPlace), cs.length = k + 1 → DataW.trod enc P w base sp held m e cs = some y → ∃ x, f x = cs ∧ Ok x)
    (h : DataW.trod enc P w base sp held n t cs = some x) : ∃ a c, ∃ L : List α, cs = [.slice a L.length c] ∧ Rw w a (L.flatMap f) ∧ (∀ x ∈ L, Ok x) ∧ L.length ≤ maxLen ∧ L.length ≤ c := by
  rcases DataW.trod_slice ht h with ⟨rfl, -⟩ | ⟨a, len, cap, elems, rest, m, -, rfl, -, -, hlc, hcm, hlen, hel, -, -⟩
  · exact ⟨none, 0, [], rfl, fun j v hv => by simp at hv, by simp, Nat.zero_le _, Nat.le_refl _⟩
  · rw [hk] at hel
    have each : ∀ i, i < len → ∃ x : α, Ok x ∧ ∀ j v, (f x)[j]? = some v → w.cell? ((a.add (i * (k + 1))).add j) = some v := fun i hi => by
      have e1 := hel i hi
      rw [List.getElem?_eq_getElem (by omega), Option.bind_eq_some_iff] at e1
      obtain ⟨cs, c1, c2⟩ := e1
      obtain ⟨-, l1, l2⟩ := World.cells?_some c1
      obtain ⟨x, hx, ox⟩ := hd m cs _ l1 c2
      refine ⟨x, ox, fun j v hv => ?_⟩
      rw [hx] at hv
      have hj : j < k + 1 := by
        rcases Nat.lt_or_ge j (k + 1) with q | q
        · exact q
        · rw [List.getElem?_eq_none (by omega)] at hv; cases hv
      rw [l2 j hj]; exact hv
    obtain ⟨L, hL, hP⟩ := list_of (fun i (x : α) => Ok x ∧ ∀ j v, (f x)[j]? = some v → w.cell? ((a.add (i * (k + 1))).add j) = some v) len each
    refine ⟨some a, cap, L, by rw [hL], fun m v hv => ?_, fun x hx => ?_, by omega, by omega⟩
    · have hmi : m / (k + 1) < L.length := by
        have hlt : m < (L.flatMap f).length := by
          rcases Nat.lt_or_ge m (L.flatMap f).length with q | q
          · exact q
          · rw [List.getElem?_eq_none q] at hv; cases hv
        have hfl : (L.flatMap f).length = (k + 1) * L.length := by
          have : ∀ L : List α, (L.flatMap f).length = (k + 1) * L.length := fun L => by
            induction L with
            | nil => rfl
            | cons y r ih => rw [List.flatMap_cons, List.length_append, ih, hf, List.length_cons, Nat.mul_succ]; omega
          exact this L
        rw [hfl] at hlt
        exact Nat.div_lt_of_lt_mul hlt
      have hmj : m % (k + 1) < k + 1 := Nat.mod_lt _ (by omega)
      have hm : (k + 1) * (m / (k + 1)) + m % (k + 1) = m := Nat.div_add_mod m (k + 1)
      have hx := List.getElem?_eq_getElem hmi
      have hg := flat_get f (k + 1) L (fun x _ => hf x) (m / (k + 1)) (m % (k + 1)) _ hx hmj
      rw [hm, hv] at hg
      have hc := (hP _ _ hx).2 (m % (k + 1)) v hg.symm
      have h0 : a.spot = none := by
        have i0 : 0 < L.length := Nat.lt_of_le_of_lt (Nat.zero_le _) hmi
        have hx0 := List.getElem?_eq_getElem i0
        have c0 := (hP _ _ hx0).2 0 _ (List.getElem?_eq_getElem (by rw [hf]; omega))
        rw [Nat.zero_mul] at c0
        exact spot_none (a := a) c0
      obtain ⟨b, off, s⟩ := a
      simp only at h0
      subst h0
      refine ⟨b, off, rfl, ?_⟩
      rw [add_plain, add_plain] at hc
      rw [show off + m = off + m / (k + 1) * (k + 1) + m % (k + 1) by rw [Nat.mul_comm (m / (k + 1))]; omega]
      exact hc
    · obtain ⟨i, hi⟩ := List.getElem?_of_mem hx
      exact (hP i x hi).1
theorem bool_cell {t : TypeId} {c : Value} {y : DataW H × List MemPlace} (ht : P.underlying t = some .bool) (h : DataW.trod enc P w base sp held n t [c] = some y) : ∃ x, c = .bool x := by
  obtain ⟨x, e, -⟩ := DataW.trod_bool ht h
  simp at e
  exact ⟨x, e⟩
theorem trod_field {t : TypeId} {fs : Array Field} {cs : List Value} {x : DataW H × List MemPlace} (ht : P.underlying t = some (.struct fs)) (h : DataW.trod enc P w base sp held n t cs = some x)
    (i : Nat) (T : TypeId) (o : Nat) (hf : fs[i]?.map (fun f => (f.type, f.offset)) = some (T, o)) : ∃ m y, DataW.trod enc P w base sp held m T ((cs.drop o).take (P.cellsOf T)) = some y := by
  obtain ⟨xs, m, -, -, -, hl, k⟩ := DataW.trod_struct ht h
  rw [Option.map_eq_some_iff] at hf
  obtain ⟨f, hf, he⟩ := hf
  obtain ⟨rfl, rfl⟩ := Prod.mk.inj he
  have hi : i < fs.size := by
    rcases Nat.lt_or_ge i fs.size with q | q
    · exact q
    · rw [Array.getElem?_eq_none q] at hf; cases hf
  have := k i f hf
  rw [List.getElem?_eq_getElem (by omega)] at this
  exact ⟨m, _, this⟩
theorem int_cell {q : IntKind} {t : TypeId} {c : Value} {y : DataW H × List MemPlace} (ht : P.underlying t = some (.int q)) (h : DataW.trod enc P w base sp held n t [c] = some y) : ∃ x, c = .int q x ∧ (Lit.int q x).wf = true := by
  obtain ⟨x, e, -, wx⟩ := DataW.trod_int ht h
  simp at e
  exact ⟨x, e, wx⟩
end
end Go.Proofs.Ytggcbklififcgab
/- EncFilters's walk. -/
namespace Go.Proofs.Ytggcbklififcgab
open Go.RowKit
set_option linter.unusedVariables false

/-- A header that is handed in. -/
structure Hd where
  d : Nat
  s : Nat
  q : Nat
  x : Nat
  y : Nat
def Hd.cells (z : Hd) : List Value := [.int .u32 (z.d : Nat), .int .u32 (z.s : Nat), .int .u8 (z.q : Nat), .int .u16 (z.x : Nat), .int .u16 (z.y : Nat)]
def Hd.Ok (z : Hd) : Prop := HB z.d z.s z.q z.x z.y
theorem Hd.cells_len (z : Hd) : z.cells.length = 5 := rfl
set_option maxRecDepth 100000 in
set_option maxHeartbeats 4000000 in
theorem ei_long (a n b m p l h u v a' n' b' m' p' l' h' u' v' : Int) (la : Option Addr) (len lc : Nat) (hlong : (60 : Int) < (len : Int)) (W : World) :
    Calls Try.prog 4 #[fv a n b m p l h u v, fv a' n' b' m' p' l' h' u' v', .slice la len lc] W fun e w' => e = .returned (.bool true) ∧ Below W.heap.size W w' := by
  have CW := Lib.hid (fun w => awake_any w)
  unfold fv
  go_enter Try.func4, Try.ntmps4
  go_upto_region 1 with fail
  refine at_code (S := Fx2 W (fc a n b m p l h u v) (fc a' n' b' m' p' l' h' u' v')) ⟨?_, ?_, bel_al (bel_al (Below.refl _ _) _) _, by simp⟩ (fun W1 hW => ?_)
  · exact (Blk.new W _ (fc a n b m p l h u v)).on (bel_al (Below.refl _ _) _)
  · have k := Blk.new (W.alloc (.cells (fc a n b m p l h u v).toArray 47)) 47 (fc a' n' b' m' p' l' h' u' v')
    rw [World.size_alloc] at k
    exact k
  have X1 := Lib.hid hW
  clear hW
  go_wp2_with fail
  refine (CW.out _).mono ?_
  rintro e wa ⟨rfl, hbx⟩
  have FIN := Lib.hid (bel_on' X1.out.2.2.1 hbx)
  clear hbx
  go_wp2
  go_ret
  exact ⟨rfl, FIN.out⟩
set_option maxRecDepth 100000 in
set_option maxHeartbeats 4000000 in
theorem ei_err1 {P1 : Nat → List Nd → Prop} {P2 : Nat → Nat → List Nd → Prop} (a n b m p l h u v a' n' b' m' p' l' h' u' v' : Int) (la : Option Addr) (len lc : Nat) (hshort : ¬ (60 : Int) < (len : Int)) (E1 E2 : Int) (hE : (E1 != 0) = true) (W : World)
    (CF1 : Hid (∀ Z p0 w, Sta Z p0 w 262144 [bot, top] → Calls Try.prog 17 #[.pointer (some ⟨p0, 0, none⟩), fv a n b m p l h u v] w fun e w' => ∃ (g : Nat) (ns : List Nd), e = .returned (.tuple #[.int .i64 (g : Nat), .int .i64 E1]) ∧ Sta Z p0 w' 262144 ns ∧ Hold Z w w' ∧ P1 g ns))
    (CF2 : Hid (∀ Z p0 w g1 ns1, P1 g1 ns1 → Sta Z p0 w 262144 ns1 → Calls Try.prog 17 #[.pointer (some ⟨p0, 0, none⟩), fv a' n' b' m' p' l' h' u' v'] w fun e w' => ∃ (g : Nat) (ns : List Nd), e = .returned (.tuple #[.int .i64 (g : Nat), .int .i64 E2]) ∧ Sta Z p0 w' 262144 ns ∧ Hold Z w w' ∧ P2 g1 g ns))
    (CK1 : Hid (∀ w, Calls Try.prog 18 #[fv a n b m p l h u v] w fun e w' => e = .returned (.int .i64 E1) ∧ Below w.heap.size w w'))
    (CK2 : Hid (∀ w, Calls Try.prog 18 #[fv a' n' b' m' p' l' h' u' v'] w fun e w' => e = .returned (.int .i64 E2) ∧ Below w.heap.size w w')) :
    Calls Try.prog 4 #[fv a n b m p l h u v, fv a' n' b' m' p' l' h' u' v', .slice la len lc] W fun e w' => e = .returned (.bool true) ∧ Below W.heap.size W w' := by
  have CW := Lib.hid (fun w => awake_any w)
  have CN := Lib.hid (fun w => sNew 262144 (by omega) (by omega) w)
  unfold fv at *
  go_enter Try.func4, Try.ntmps4
  go_upto_region 1 with fail
  refine at_code (S := Fx2 W (fc a n b m p l h u v) (fc a' n' b' m' p' l' h' u' v')) ⟨?_, ?_, bel_al (bel_al (Below.refl _ _) _) _, by simp⟩ (fun W1 hW => ?_)
  · exact (Blk.new W _ (fc a n b m p l h u v)).on (bel_al (Below.refl _ _) _)
  · have k := Blk.new (W.alloc (.cells (fc a n b m p l h u v).toArray 47)) 47 (fc a' n' b' m' p' l' h' u' v')
    rw [World.size_alloc] at k
    exact k
  have X1 := Lib.hid hW
  clear hW
  go_wp2_with fail
  refine (CN.out _).mono ?_
  rintro e w2 ⟨p0, rfl, hS, hb⟩
  obtain ⟨Z, hZ⟩ : ∃ Z : Nat → Prop, (fun k => k < W1.heap.size) = Z := ⟨_, rfl⟩
  rw [hZ] at hS
  have HZ : Hid (∀ k, k < W.heap.size + 2 → Z k) := Lib.hid (by rw [← hZ]; intro k hk; have := X1.out.2.2.2; show k < W1.heap.size; omega)
  have HZ2 : Hid (∀ k, k < W1.heap.size → Z k) := Lib.hid (by rw [← hZ]; exact fun k hk => hk)
  have S2 := Lib.hid hS
  have X2 := Lib.hid (X1.out.on hb)
  have Q2 := Lib.hid hb
  clear hS hb CN hZ
  obtain ⟨x_0, x_1, x_2, x_3, x_4, x_5, x_6, x_7, x_8⟩ := cells9 X2.out.1
  go_wp2_with fail
  refine (CF1.out Z p0 w2 S2.out).mono ?_
  rintro e w3 ⟨g1, ns1, rfl, hS, hH, hP⟩
  have S3 := Lib.hid hS
  have X3 := Lib.hid (X2.out.hold hH HZ.out)
  have Q3 := Lib.hid (Q2.out.trans (hH.below Q2.out.size HZ2.out))
  have G3 := Lib.hid hP
  clear hS hH hP CF1 X2 S2 Q2
  clear x_0 x_1 x_2 x_3 x_4 x_5 x_6 x_7 x_8
  obtain ⟨y_0, y_1, y_2, y_3, y_4, y_5, y_6, y_7, y_8⟩ := cells9 X3.out.2.1
  go_wp2_with fail
  refine (CF2.out Z p0 w3 g1 ns1 G3.out S3.out).mono ?_
  rintro e w4 ⟨g2, ns2, rfl, hS, hH, hP⟩
  have S4 := Lib.hid hS
  have X4 := Lib.hid (X3.out.hold hH HZ.out)
  have Q4 := Lib.hid (Q3.out.trans (hH.below Q3.out.size HZ2.out))
  have G4 := Lib.hid hP
  clear hS hH hP CF2 X3 S3 Q3 G3
  clear y_0 y_1 y_2 y_3 y_4 y_5 y_6 y_7 y_8
  obtain ⟨x_0, x_1, x_2, x_3, x_4, x_5, x_6, x_7, x_8⟩ := cells9 X4.out.1
  go_wp2_with fail
  refine (CK1.out _).mono ?_
  rintro e w5 ⟨rfl, hbx⟩
  have S5 := Lib.hid (S4.out.on hbx)
  have X5 := Lib.hid (X4.out.on hbx)
  have Q5 := Lib.hid (bel_on' Q4.out hbx)
  clear hbx CK1 X4 S4 Q4
  clear x_0 x_1 x_2 x_3 x_4 x_5 x_6 x_7 x_8
  obtain ⟨y_0, y_1, y_2, y_3, y_4, y_5, y_6, y_7, y_8⟩ := cells9 X5.out.2.1
  go_wp2_with fail
  refine (CK2.out _).mono ?_
  rintro e w6 ⟨rfl, hbx⟩
  have S6 := Lib.hid (S5.out.on hbx)
  have X6 := Lib.hid (X5.out.on hbx)
  have Q6 := Lib.hid (bel_on' Q5.out hbx)
  clear hbx CK2 X5 S5 Q5
  clear y_0 y_1 y_2 y_3 y_4 y_5 y_6 y_7 y_8
  go_wp2_with fail
  refine (CW.out _).mono ?_
  rintro e wa ⟨rfl, hbx⟩
  have FIN := Lib.hid (bel_on' X6.out.2.2.1 hbx)
  clear hbx
  go_wp2
  go_ret
  exact ⟨rfl, FIN.out⟩
set_option maxRecDepth 100000 in
set_option maxHeartbeats 4000000 in
theorem ei_err2 {P1 : Nat → List Nd → Prop} {P2 : Nat → Nat → List Nd → Prop} (a n b m p l h u v a' n' b' m' p' l' h' u' v' : Int) (la : Option Addr) (len lc : Nat) (hshort : ¬ (60 : Int) < (len : Int)) (E2 : Int) (hE : (E2 != 0) = true) (W : World)
    (CF1 : Hid (∀ Z p0 w, Sta Z p0 w 262144 [bot, top] → Calls Try.prog 17 #[.pointer (some ⟨p0, 0, none⟩), fv a n b m p l h u v] w fun e w' => ∃ (g : Nat) (ns : List Nd), e = .returned (.tuple #[.int .i64 (g : Nat), .int .i64 0]) ∧ Sta Z p0 w' 262144 ns ∧ Hold Z w w' ∧ P1 g ns))
    (CF2 : Hid (∀ Z p0 w g1 ns1, P1 g1 ns1 → Sta Z p0 w 262144 ns1 → Calls Try.prog 17 #[.pointer (some ⟨p0, 0, none⟩), fv a' n' b' m' p' l' h' u' v'] w fun e w' => ∃ (g : Nat) (ns : List Nd), e = .returned (.tuple #[.int .i64 (g : Nat), .int .i64 E2]) ∧ Sta Z p0 w' 262144 ns ∧ Hold Z w w' ∧ P2 g1 g ns))
    (CK1 : Hid (∀ w, Calls Try.prog 18 #[fv a n b m p l h u v] w fun e w' => e = .returned (.int .i64 0) ∧ Below w.heap.size w w'))
    (CK2 : Hid (∀ w, Calls Try.prog 18 #[fv a' n' b' m' p' l' h' u' v'] w fun e w' => e = .returned (.int .i64 E2) ∧ Below w.heap.size w w')) :
    Calls Try.prog 4 #[fv a n b m p l h u v, fv a' n' b' m' p' l' h' u' v', .slice la len lc] W fun e w' => e = .returned (.bool true) ∧ Below W.heap.size W w' := by
  have CW := Lib.hid (fun w => awake_any w)
  have CN := Lib.hid (fun w => sNew 262144 (by omega) (by omega) w)
  unfold fv at *
  go_enter Try.func4, Try.ntmps4
  go_upto_region 1 with fail
  refine at_code (S := Fx2 W (fc a n b m p l h u v) (fc a' n' b' m' p' l' h' u' v')) ⟨?_, ?_, bel_al (bel_al (Below.refl _ _) _) _, by simp⟩ (fun W1 hW => ?_)
  · exact (Blk.new W _ (fc a n b m p l h u v)).on (bel_al (Below.refl _ _) _)
  · have k := Blk.new (W.alloc (.cells (fc a n b m p l h u v).toArray 47)) 47 (fc a' n' b' m' p' l' h' u' v')
    rw [World.size_alloc] at k
    exact k
  have X1 := Lib.hid hW
  clear hW
  go_wp2_with fail
  refine (CN.out _).mono ?_
  rintro e w2 ⟨p0, rfl, hS, hb⟩
  obtain ⟨Z, hZ⟩ : ∃ Z : Nat → Prop, (fun k => k < W1.heap.size) = Z := ⟨_, rfl⟩
  rw [hZ] at hS
  have HZ : Hid (∀ k, k < W.heap.size + 2 → Z k) := Lib.hid (by rw [← hZ]; intro k hk; have := X1.out.2.2.2; show k < W1.heap.size; omega)
  have HZ2 : Hid (∀ k, k < W1.heap.size → Z k) := Lib.hid (by rw [← hZ]; exact fun k hk => hk)
  have S2 := Lib.hid hS
  have X2 := Lib.hid (X1.out.on hb)
  have Q2 := Lib.hid hb
  clear hS hb CN hZ
  obtain ⟨x_0, x_1, x_2, x_3, x_4, x_5, x_6, x_7, x_8⟩ := cells9 X2.out.1
  go_wp2_with fail
  refine (CF1.out Z p0 w2 S2.out).mono ?_
  rintro e w3 ⟨g1, ns1, rfl, hS, hH, hP⟩
  have S3 := Lib.hid hS
  have X3 := Lib.hid (X2.out.hold hH HZ.out)
  have Q3 := Lib.hid (Q2.out.trans (hH.below Q2.out.size HZ2.out))
  have G3 := Lib.hid hP
  clear hS hH hP CF1 X2 S2 Q2
  clear x_0 x_1 x_2 x_3 x_4 x_5 x_6 x_7 x_8
  obtain ⟨y_0, y_1, y_2, y_3, y_4, y_5, y_6, y_7, y_8⟩ := cells9 X3.out.2.1
  go_wp2_with fail
  refine (CF2.out Z p0 w3 g1 ns1 G3.out S3.out).mono ?_
  rintro e w4 ⟨g2, ns2, rfl, hS, hH, hP⟩
  have S4 := Lib.hid hS
  have X4 := Lib.hid (X3.out.hold hH HZ.out)
  have Q4 := Lib.hid (Q3.out.trans (hH.below Q3.out.size HZ2.out))
  have G4 := Lib.hid hP
  clear hS hH hP CF2 X3 S3 Q3 G3
  clear y_0 y_1 y_2 y_3 y_4 y_5 y_6 y_7 y_8
  obtain ⟨x_0, x_1, x_2, x_3, x_4, x_5, x_6, x_7, x_8⟩ := cells9 X4.out.1
  go_wp2_with fail
  refine (CK1.out _).mono ?_
  rintro e w5 ⟨rfl, hbx⟩
  have S5 := Lib.hid (S4.out.on hbx)
  have X5 := Lib.hid (X4.out.on hbx)
  have Q5 := Lib.hid (bel_on' Q4.out hbx)
  clear hbx CK1 X4 S4 Q4
  clear x_0 x_1 x_2 x_3 x_4 x_5 x_6 x_7 x_8
  obtain ⟨y_0, y_1, y_2, y_3, y_4, y_5, y_6, y_7, y_8⟩ := cells9 X5.out.2.1
  go_wp2_with fail
  refine (CK2.out _).mono ?_
  rintro e w6 ⟨rfl, hbx⟩
  have S6 := Lib.hid (S5.out.on hbx)
  have X6 := Lib.hid (X5.out.on hbx)
  have Q6 := Lib.hid (bel_on' Q5.out hbx)
  clear hbx CK2 X5 S5 Q5
  clear y_0 y_1 y_2 y_3 y_4 y_5 y_6 y_7 y_8
  go_wp2_with fail
  refine (CW.out _).mono ?_
  rintro e wa ⟨rfl, hbx⟩
  have FIN := Lib.hid (bel_on' X6.out.2.2.1 hbx)
  clear hbx
  go_wp2
  go_ret
  exact ⟨rfl, FIN.out⟩
end Go.Proofs.Ytggcbklififcgab
