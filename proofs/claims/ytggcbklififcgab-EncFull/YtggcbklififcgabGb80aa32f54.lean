/- Texts joined, in their order: V4, V5, V6, FE, RO, RG, HF. -/
import Derived.Test.YtggcbklififcgabG64d036c05c
import Derived.Test.YtggcbklififcgabGa3cf92b948
import Derived.Test.YtggcbklififcgabG3a6105297e
import Derived.Test.YtggcbklififcgabG7e26c7d02b
import Derived.Test.YtggcbklififcgabGb914f46262
import Derived.ProofKit
import Derived.OpenShut
import Derived.Lib.SmallJoins
import Derived.LaidMore
import Derived.Stop.Joined
import Derived.Test.YtggcbklififcgabG280be5a7bd
/- EncFields's walk, way by way. -/
namespace Go.Proofs.Ytggcbklififcgab
open Go.RowKit
set_option linter.unusedVariables false

set_option maxRecDepth 100000 in
set_option maxHeartbeats 8000000 in
theorem ef_in {PP PR : Nat → List Nd → Prop} (f : Int) (A : Nat) (n : Int) (lo hi d s q x y xa yb : Nat) (hle : ¬ (hi : Int) < (lo : Int)) (h1 : (lo : Int) ≤ (yb : Int)) (h2 : (yb : Int) ≤ (hi : Int)) (W : World)
    (CA : Hid (∀ w, Calls Try.prog 9 #[hv d s q x y, .int .i64 f] w fun e w' => e = .returned (.tuple #[.int .u32 (xa : Nat), .bool false]) ∧ Below w.heap.size w w'))
    (CB : Hid (∀ w, Calls Try.prog 14 #[hv d s q x y, .int .i64 f] w fun e w' => e = .returned (.tuple #[.int .u16 (yb : Nat), .bool true]) ∧ Below w.heap.size w w'))
    (CPx : Hid (∀ Z p w, Sta Z p w 262144 [bot, top] → Calls Try.prog 10 #[.pointer (some ⟨p, 0, none⟩), .int .i64 f, pv A n] w fun e w' => ∃ (g : Nat) (ns1 : List Nd), e = .returned (.tuple #[.int .i64 (g : Nat), .int .i64 1]) ∧ Sta Z p w' 262144 ns1 ∧ Hold Z w w' ∧ PP g ns1))
    (CRg : Hid (∀ Z p w g ns1, PP g ns1 → Sta Z p w 262144 ns1 → Calls Try.prog 15 #[.pointer (some ⟨p, 0, none⟩), .int .i64 f, .agg #[.int .u16 (lo : Nat), .int .u16 (hi : Nat)]] w fun e w' => ∃ (g : Nat) (ns2 : List Nd), e = .returned (.tuple #[.int .i64 (g : Nat), .int .i64 0]) ∧ Sta Z p w' 262144 ns2 ∧ Hold Z w w' ∧ PR g ns2))
    (CIn : Hid (∀ Z p w g ns2, PR g ns2 → Sta Z p w 262144 ns2 → Calls Try.prog 12 #[.pointer (some ⟨p, 0, none⟩), .int .i64 (g : Nat), hv d s q x y] w fun e w' => e = .returned (.bool true) ∧ Below w.heap.size w w')) :
    Calls Try.prog 3 #[.int .i64 f, pv A n, .agg #[.int .u16 (lo : Nat), .int .u16 (hi : Nat)], hv d s q x y] W fun e w' => e = .returned (.bool true) ∧ Below W.heap.size W w' := by
  have CN := Lib.hid (fun w => sNew 262144 (by omega) (by omega) w)
  have CW := Lib.hid (fun w => awake_any w)
  go_enter Try.func3, Try.ntmps3
  go_upto_region 1 with fail
  refine at_code (S := Fx W [.int .u32 (A : Nat), .int .i64 n] [.int .u16 (lo : Nat), .int .u16 (hi : Nat)] [.int .u32 (d : Nat), .int .u32 (s : Nat), .int .u8 (q : Nat), .int .u16 (x : Nat), .int .u16 (y : Nat)]) ⟨?_, ?_, ?_, bel_al (bel_al (bel_al (Below.refl _ _) _) _) _, by simp⟩ (fun W1 hW => ?_)
  · exact (Blk.new W _ [.int .u32 (A : Nat), .int .i64 n]).on (bel_al (bel_al (Below.refl _ _) _) _)
  · have k := Blk.new (W.alloc (.cells #[.int .u32 (A : Nat), .int .i64 n] 24)) 27 [.int .u16 (lo : Nat), .int .u16 (hi : Nat)]
    rw [World.size_alloc] at k
    exact k.on (bel_al (Below.refl _ _) _)
  · have k := Blk.new ((W.alloc (.cells #[.int .u32 (A : Nat), .int .i64 n] 24)).alloc (.cells #[.int .u16 (lo : Nat), .int .u16 (hi : Nat)] 27)) 29 [.int .u32 (d : Nat), .int .u32 (s : Nat), .int .u8 (q : Nat), .int .u16 (x : Nat), .int .u16 (y : Nat)]
    rw [World.size_alloc, World.size_alloc] at k
    exact k
  have X1 := Lib.hid hW
  clear hW
  go_wp2_with fail
  refine (CN.out _).mono ?_
  rintro e w2 ⟨p, rfl, hS, hb⟩
  obtain ⟨Z, hZ⟩ : ∃ Z : Nat → Prop, (fun k => k < W1.heap.size) = Z := ⟨_, rfl⟩
  rw [hZ] at hS
  have HZ : Hid (∀ k, k < W.heap.size + 3 → Z k) := Lib.hid (by rw [← hZ]; intro k hk; have := X1.out.2.2.2.2; show k < W1.heap.size; omega)
  have S2 := Lib.hid hS
  have X2 := Lib.hid (X1.out.on hb)
  clear hS hb CN hZ X1
  obtain ⟨h_0, h_1, h_2, h_3, h_4⟩ : _ ∧ _ ∧ _ ∧ _ ∧ _ := ⟨X2.out.2.2.1.1 0 _ rfl, X2.out.2.2.1.1 1 _ rfl, X2.out.2.2.1.1 2 _ rfl, X2.out.2.2.1.1 3 _ rfl, X2.out.2.2.1.1 4 _ rfl⟩
  go_wp2_with fail
  refine (CA.out _).mono ?_
  rintro e w3 ⟨rfl, hb⟩
  have S3 := Lib.hid (S2.out.on hb)
  have X3 := Lib.hid (X2.out.on hb)
  clear hb CA S2 X2
  clear h_0 h_1 h_2 h_3 h_4
  obtain ⟨p_0, p_1⟩ : _ ∧ _ := ⟨X3.out.1.1 0 _ rfl, X3.out.1.1 1 _ rfl⟩
  go_wp2_with fail
  refine (CPx.out Z p w3 S3.out).mono ?_
  rintro e w4 ⟨g, ns1, rfl, hS, hH, hP⟩
  have S4 := Lib.hid hS
  have X4 := Lib.hid (X3.out.hold hH HZ.out)
  have P4 := Lib.hid hP
  clear hS hH hP CPx S3 X3
  clear p_0 p_1
  obtain ⟨h_0, h_1, h_2, h_3, h_4⟩ : _ ∧ _ ∧ _ ∧ _ ∧ _ := ⟨X4.out.2.2.1.1 0 _ rfl, X4.out.2.2.1.1 1 _ rfl, X4.out.2.2.1.1 2 _ rfl, X4.out.2.2.1.1 3 _ rfl, X4.out.2.2.1.1 4 _ rfl⟩
  go_wp2_with fail
  refine (CB.out _).mono ?_
  rintro e w8 ⟨rfl, hb⟩
  have S8 := Lib.hid (S4.out.on hb)
  have X8 := Lib.hid (X4.out.on hb)
  clear hb CB S4 X4
  clear h_0 h_1 h_2 h_3 h_4
  obtain ⟨r_0, r_1⟩ : _ ∧ _ := ⟨X8.out.2.1.1 0 _ rfl, X8.out.2.1.1 1 _ rfl⟩
  go_wp2_with fail
  refine (CRg.out Z p w8 g ns1 P4.out S8.out).mono ?_
  rintro e w9 ⟨g2, ns2, rfl, hS, hH, hR⟩
  have S9 := Lib.hid hS
  have X9 := Lib.hid (X8.out.hold hH HZ.out)
  have R9 := Lib.hid hR
  clear hS hH hR CRg S8 X8 P4
  clear r_0 r_1
  obtain ⟨r_0, r_1⟩ : _ ∧ _ := ⟨X9.out.2.1.1 0 _ rfl, X9.out.2.1.1 1 _ rfl⟩
  obtain ⟨h_0, h_1, h_2, h_3, h_4⟩ : _ ∧ _ ∧ _ ∧ _ ∧ _ := ⟨X9.out.2.2.1.1 0 _ rfl, X9.out.2.2.1.1 1 _ rfl, X9.out.2.2.1.1 2 _ rfl, X9.out.2.2.1.1 3 _ rfl, X9.out.2.2.1.1 4 _ rfl⟩
  go_wp2_with fail
  refine wp_region_noPanic ?_
  refine wp_region_along (S := fun w' => Below w9.heap.size w9 w' ∧ ∀ b o, (w9.cell? ⟨b, o, none⟩).isSome = true → w'.cell? ⟨b, o, none⟩ = w9.cell? ⟨b, o, none⟩) ([(0, false), (1, true), (2, true), (3, true), (4, true), (5, true), (6, true), (7, true), (8, true), (10, true), (11, true), (12, true), (13, true), (9, false), (14, true), (15, true)] ++ ([(16, true), (17, true), (18, true), (19, true), (20, true), (21, true), (22, true)])) (by kernel_rfl) (by as_aux_lemma => kernel_rfl) (by kernel_rfl) (by kernel_rfl) (alongPre_append _ _ _ (by as_aux_lemma => kernel_rfl) (by as_aux_lemma => kernel_rfl)) (by as_aux_lemma => kernel_rfl) (fun _ _ _ _ _ h => h) (below_kb (Below.refl _ _).drew) (fun hH => ?_)
  simp only [List.cons_append, List.nil_append, stepsOf, pickOp]
  refine along_bar (fun K hK => ?_)
  go_simp
  refine (CW.out _).mono ?_
  rintro e wa ⟨rfl, hbx⟩
  try go_wp2_with fail
  refine hK.out _ _ (below_kb (below_on hH.1 hbx)) (fun hH' => ?_)
  clear hK K hH
  have hH := hH'
  clear hH'
  have Ba := Lib.hid hH.1
  clear hbx
  try simp only [Act.put, List.setIfInBounds_toArray, List.set_cons_zero, List.set_cons_succ]
  iterate 12 (first | (refine along_skip (by rfl) ?_; try simp only [Act.put, List.setIfInBounds_toArray, List.set_cons_zero, List.set_cons_succ]) | (refine along_pure ?_ (by rfl) (fun w hSw => ?_) ?_; rotate_left; ((try dsimp only at hSw); go_simp; try with_reducible rfl); try simp only [Act.put, List.setIfInBounds_toArray, List.set_cons_zero, List.set_cons_succ]))
  refine along_bar (fun K hK => ?_)
  go_simp
  refine (CIn.out Z p wa g2 ns2 R9.out (S9.out.on Ba.out)).mono ?_
  rintro e wb ⟨rfl, hbx⟩
  try go_wp2_with fail
  refine hK.out _ _ (below_kb (below_on hH.1 hbx)) (fun hH' => ?_)
  clear hK K hH
  have hH := hH'
  clear hH'
  clear hbx
  try simp only [Act.put, List.setIfInBounds_toArray, List.set_cons_zero, List.set_cons_succ]
  iterate 9 (first | (refine along_skip (by rfl) ?_; try simp only [Act.put, List.setIfInBounds_toArray, List.set_cons_zero, List.set_cons_succ]) | (refine along_pure ?_ (by rfl) (fun w hSw => ?_) ?_; rotate_left; ((try dsimp only at hSw); go_simp; try with_reducible rfl); try simp only [Act.put, List.setIfInBounds_toArray, List.set_cons_zero, List.set_cons_succ]))
  refine along_end (NoPanic.normal ?_)
  have FIN := Lib.hid (bel_on' X9.out.2.2.2.1 hH.1)
  clear hH
  go_wp2
  go_ret
  exact ⟨rfl, FIN.out⟩
end Go.Proofs.Ytggcbklififcgab
/- EncFields's walk, way by way. -/
namespace Go.Proofs.Ytggcbklififcgab
open Go.RowKit
set_option linter.unusedVariables false

set_option maxRecDepth 100000 in
set_option maxHeartbeats 8000000 in
theorem ef_low {PP PR : Nat → List Nd → Prop} (f : Int) (A : Nat) (n : Int) (lo hi d s q x y xa yb : Nat) (hle : ¬ (hi : Int) < (lo : Int)) (h1 : decide (lo ≤ yb) = false) (W : World)
    (CA : Hid (∀ w, Calls Try.prog 9 #[hv d s q x y, .int .i64 f] w fun e w' => e = .returned (.tuple #[.int .u32 (xa : Nat), .bool false]) ∧ Below w.heap.size w w'))
    (CB : Hid (∀ w, Calls Try.prog 14 #[hv d s q x y, .int .i64 f] w fun e w' => e = .returned (.tuple #[.int .u16 (yb : Nat), .bool true]) ∧ Below w.heap.size w w'))
    (CPx : Hid (∀ Z p w, Sta Z p w 262144 [bot, top] → Calls Try.prog 10 #[.pointer (some ⟨p, 0, none⟩), .int .i64 f, pv A n] w fun e w' => ∃ (g : Nat) (ns1 : List Nd), e = .returned (.tuple #[.int .i64 (g : Nat), .int .i64 1]) ∧ Sta Z p w' 262144 ns1 ∧ Hold Z w w' ∧ PP g ns1))
    (CRg : Hid (∀ Z p w g ns1, PP g ns1 → Sta Z p w 262144 ns1 → Calls Try.prog 15 #[.pointer (some ⟨p, 0, none⟩), .int .i64 f, .agg #[.int .u16 (lo : Nat), .int .u16 (hi : Nat)]] w fun e w' => ∃ (g : Nat) (ns2 : List Nd), e = .returned (.tuple #[.int .i64 (g : Nat), .int .i64 0]) ∧ Sta Z p w' 262144 ns2 ∧ Hold Z w w' ∧ PR g ns2))
    (CIn : Hid (∀ Z p w g ns2, PR g ns2 → Sta Z p w 262144 ns2 → Calls Try.prog 12 #[.pointer (some ⟨p, 0, none⟩), .int .i64 (g : Nat), hv d s q x y] w fun e w' => e = .returned (.bool false) ∧ Below w.heap.size w w')) :
    Calls Try.prog 3 #[.int .i64 f, pv A n, .agg #[.int .u16 (lo : Nat), .int .u16 (hi : Nat)], hv d s q x y] W fun e w' => e = .returned (.bool true) ∧ Below W.heap.size W w' := by
  have CN := Lib.hid (fun w => sNew 262144 (by omega) (by omega) w)
  have CW := Lib.hid (fun w => awake_any w)
  go_enter Try.func3, Try.ntmps3
  go_upto_region 1 with fail
  refine at_code (S := Fx W [.int .u32 (A : Nat), .int .i64 n] [.int .u16 (lo : Nat), .int .u16 (hi : Nat)] [.int .u32 (d : Nat), .int .u32 (s : Nat), .int .u8 (q : Nat), .int .u16 (x : Nat), .int .u16 (y : Nat)]) ⟨?_, ?_, ?_, bel_al (bel_al (bel_al (Below.refl _ _) _) _) _, by simp⟩ (fun W1 hW => ?_)
  · exact (Blk.new W _ [.int .u32 (A : Nat), .int .i64 n]).on (bel_al (bel_al (Below.refl _ _) _) _)
  · have k := Blk.new (W.alloc (.cells #[.int .u32 (A : Nat), .int .i64 n] 24)) 27 [.int .u16 (lo : Nat), .int .u16 (hi : Nat)]
    rw [World.size_alloc] at k
    exact k.on (bel_al (Below.refl _ _) _)
  · have k := Blk.new ((W.alloc (.cells #[.int .u32 (A : Nat), .int .i64 n] 24)).alloc (.cells #[.int .u16 (lo : Nat), .int .u16 (hi : Nat)] 27)) 29 [.int .u32 (d : Nat), .int .u32 (s : Nat), .int .u8 (q : Nat), .int .u16 (x : Nat), .int .u16 (y : Nat)]
    rw [World.size_alloc, World.size_alloc] at k
    exact k
  have X1 := Lib.hid hW
  clear hW
  go_wp2_with fail
  refine (CN.out _).mono ?_
  rintro e w2 ⟨p, rfl, hS, hb⟩
  obtain ⟨Z, hZ⟩ : ∃ Z : Nat → Prop, (fun k => k < W1.heap.size) = Z := ⟨_, rfl⟩
  rw [hZ] at hS
  have HZ : Hid (∀ k, k < W.heap.size + 3 → Z k) := Lib.hid (by rw [← hZ]; intro k hk; have := X1.out.2.2.2.2; show k < W1.heap.size; omega)
  have S2 := Lib.hid hS
  have X2 := Lib.hid (X1.out.on hb)
  clear hS hb CN hZ X1
  obtain ⟨h_0, h_1, h_2, h_3, h_4⟩ : _ ∧ _ ∧ _ ∧ _ ∧ _ := ⟨X2.out.2.2.1.1 0 _ rfl, X2.out.2.2.1.1 1 _ rfl, X2.out.2.2.1.1 2 _ rfl, X2.out.2.2.1.1 3 _ rfl, X2.out.2.2.1.1 4 _ rfl⟩
  go_wp2_with fail
  refine (CA.out _).mono ?_
  rintro e w3 ⟨rfl, hb⟩
  have S3 := Lib.hid (S2.out.on hb)
  have X3 := Lib.hid (X2.out.on hb)
  clear hb CA S2 X2
  clear h_0 h_1 h_2 h_3 h_4
  obtain ⟨p_0, p_1⟩ : _ ∧ _ := ⟨X3.out.1.1 0 _ rfl, X3.out.1.1 1 _ rfl⟩
  go_wp2_with fail
  refine (CPx.out Z p w3 S3.out).mono ?_
  rintro e w4 ⟨g, ns1, rfl, hS, hH, hP⟩
  have S4 := Lib.hid hS
  have X4 := Lib.hid (X3.out.hold hH HZ.out)
  have P4 := Lib.hid hP
  clear hS hH hP CPx S3 X3
  clear p_0 p_1
  obtain ⟨h_0, h_1, h_2, h_3, h_4⟩ : _ ∧ _ ∧ _ ∧ _ ∧ _ := ⟨X4.out.2.2.1.1 0 _ rfl, X4.out.2.2.1.1 1 _ rfl, X4.out.2.2.1.1 2 _ rfl, X4.out.2.2.1.1 3 _ rfl, X4.out.2.2.1.1 4 _ rfl⟩
  go_wp2_with fail
  refine (CB.out _).mono ?_
  rintro e w8 ⟨rfl, hb⟩
  have S8 := Lib.hid (S4.out.on hb)
  have X8 := Lib.hid (X4.out.on hb)
  clear hb CB S4 X4
  clear h_0 h_1 h_2 h_3 h_4
  obtain ⟨r_0, r_1⟩ : _ ∧ _ := ⟨X8.out.2.1.1 0 _ rfl, X8.out.2.1.1 1 _ rfl⟩
  go_wp2_with fail
  refine (CRg.out Z p w8 g ns1 P4.out S8.out).mono ?_
  rintro e w9 ⟨g2, ns2, rfl, hS, hH, hR⟩
  have S9 := Lib.hid hS
  have X9 := Lib.hid (X8.out.hold hH HZ.out)
  have R9 := Lib.hid hR
  clear hS hH hR CRg S8 X8 P4
  clear r_0 r_1
  obtain ⟨r_0, r_1⟩ : _ ∧ _ := ⟨X9.out.2.1.1 0 _ rfl, X9.out.2.1.1 1 _ rfl⟩
  obtain ⟨h_0, h_1, h_2, h_3, h_4⟩ : _ ∧ _ ∧ _ ∧ _ ∧ _ := ⟨X9.out.2.2.1.1 0 _ rfl, X9.out.2.2.1.1 1 _ rfl, X9.out.2.2.1.1 2 _ rfl, X9.out.2.2.1.1 3 _ rfl, X9.out.2.2.1.1 4 _ rfl⟩
  go_wp2_with fail
  refine wp_region_noPanic ?_
  refine wp_region_along (S := fun w' => Below w9.heap.size w9 w' ∧ ∀ b o, (w9.cell? ⟨b, o, none⟩).isSome = true → w'.cell? ⟨b, o, none⟩ = w9.cell? ⟨b, o, none⟩) ([(0, false), (1, true), (2, true), (3, true), (4, true), (5, true), (6, true), (7, true), (8, true), (10, true), (11, true), (12, true), (13, true), (9, false), (14, true), (15, true)] ++ ([(16, true), (17, true), (18, true), (19, true), (20, true), (21, true), (22, true)])) (by kernel_rfl) (by as_aux_lemma => kernel_rfl) (by kernel_rfl) (by kernel_rfl) (alongPre_append _ _ _ (by as_aux_lemma => kernel_rfl) (by as_aux_lemma => kernel_rfl)) (by as_aux_lemma => kernel_rfl) (fun _ _ _ _ _ h => h) (below_kb (Below.refl _ _).drew) (fun hH => ?_)
  simp only [List.cons_append, List.nil_append, stepsOf, pickOp]
  refine along_bar (fun K hK => ?_)
  go_simp
  refine (CW.out _).mono ?_
  rintro e wa ⟨rfl, hbx⟩
  try go_wp2_with fail
  refine hK.out _ _ (below_kb (below_on hH.1 hbx)) (fun hH' => ?_)
  clear hK K hH
  have hH := hH'
  clear hH'
  have Ba := Lib.hid hH.1
  clear hbx
  try simp only [Act.put, List.setIfInBounds_toArray, List.set_cons_zero, List.set_cons_succ]
  iterate 12 (first | (refine along_skip (by rfl) ?_; try simp only [Act.put, List.setIfInBounds_toArray, List.set_cons_zero, List.set_cons_succ]) | (refine along_pure ?_ (by rfl) (fun w hSw => ?_) ?_; rotate_left; ((try dsimp only at hSw); go_simp; try with_reducible rfl); try simp only [Act.put, List.setIfInBounds_toArray, List.set_cons_zero, List.set_cons_succ]))
  refine along_bar (fun K hK => ?_)
  go_simp
  refine (CIn.out Z p wa g2 ns2 R9.out (S9.out.on Ba.out)).mono ?_
  rintro e wb ⟨rfl, hbx⟩
  try go_wp2_with fail
  refine hK.out _ _ (below_kb (below_on hH.1 hbx)) (fun hH' => ?_)
  clear hK K hH
  have hH := hH'
  clear hH'
  clear hbx
  try simp only [Act.put, List.setIfInBounds_toArray, List.set_cons_zero, List.set_cons_succ]
  iterate 9 (first | (refine along_skip (by rfl) ?_; try simp only [Act.put, List.setIfInBounds_toArray, List.set_cons_zero, List.set_cons_succ]) | (refine along_pure ?_ (by rfl) (fun w hSw => ?_) ?_; rotate_left; ((try dsimp only at hSw); go_simp; try with_reducible rfl); try simp only [Act.put, List.setIfInBounds_toArray, List.set_cons_zero, List.set_cons_succ]))
  refine along_end (NoPanic.normal ?_)
  have FIN := Lib.hid (bel_on' X9.out.2.2.2.1 hH.1)
  clear hH
  go_wp2
  go_ret
  exact ⟨rfl, FIN.out⟩
set_option maxRecDepth 100000 in
set_option maxHeartbeats 8000000 in
theorem ef_high {PP PR : Nat → List Nd → Prop} (f : Int) (A : Nat) (n : Int) (lo hi d s q x y xa yb : Nat) (hle : ¬ (hi : Int) < (lo : Int)) (h1 : (lo : Int) ≤ (yb : Int)) (h2 : decide (yb ≤ hi) = false) (W : World)
    (CA : Hid (∀ w, Calls Try.prog 9 #[hv d s q x y, .int .i64 f] w fun e w' => e = .returned (.tuple #[.int .u32 (xa : Nat), .bool false]) ∧ Below w.heap.size w w'))
    (CB : Hid (∀ w, Calls Try.prog 14 #[hv d s q x y, .int .i64 f] w fun e w' => e = .returned (.tuple #[.int .u16 (yb : Nat), .bool true]) ∧ Below w.heap.size w w'))
    (CPx : Hid (∀ Z p w, Sta Z p w 262144 [bot, top] → Calls Try.prog 10 #[.pointer (some ⟨p, 0, none⟩), .int .i64 f, pv A n] w fun e w' => ∃ (g : Nat) (ns1 : List Nd), e = .returned (.tuple #[.int .i64 (g : Nat), .int .i64 1]) ∧ Sta Z p w' 262144 ns1 ∧ Hold Z w w' ∧ PP g ns1))
    (CRg : Hid (∀ Z p w g ns1, PP g ns1 → Sta Z p w 262144 ns1 → Calls Try.prog 15 #[.pointer (some ⟨p, 0, none⟩), .int .i64 f, .agg #[.int .u16 (lo : Nat), .int .u16 (hi : Nat)]] w fun e w' => ∃ (g : Nat) (ns2 : List Nd), e = .returned (.tuple #[.int .i64 (g : Nat), .int .i64 0]) ∧ Sta Z p w' 262144 ns2 ∧ Hold Z w w' ∧ PR g ns2))
    (CIn : Hid (∀ Z p w g ns2, PR g ns2 → Sta Z p w 262144 ns2 → Calls Try.prog 12 #[.pointer (some ⟨p, 0, none⟩), .int .i64 (g : Nat), hv d s q x y] w fun e w' => e = .returned (.bool false) ∧ Below w.heap.size w w')) :
    Calls Try.prog 3 #[.int .i64 f, pv A n, .agg #[.int .u16 (lo : Nat), .int .u16 (hi : Nat)], hv d s q x y] W fun e w' => e = .returned (.bool true) ∧ Below W.heap.size W w' := by
  have CN := Lib.hid (fun w => sNew 262144 (by omega) (by omega) w)
  have CW := Lib.hid (fun w => awake_any w)
  go_enter Try.func3, Try.ntmps3
  go_upto_region 1 with fail
  refine at_code (S := Fx W [.int .u32 (A : Nat), .int .i64 n] [.int .u16 (lo : Nat), .int .u16 (hi : Nat)] [.int .u32 (d : Nat), .int .u32 (s : Nat), .int .u8 (q : Nat), .int .u16 (x : Nat), .int .u16 (y : Nat)]) ⟨?_, ?_, ?_, bel_al (bel_al (bel_al (Below.refl _ _) _) _) _, by simp⟩ (fun W1 hW => ?_)
  · exact (Blk.new W _ [.int .u32 (A : Nat), .int .i64 n]).on (bel_al (bel_al (Below.refl _ _) _) _)
  · have k := Blk.new (W.alloc (.cells #[.int .u32 (A : Nat), .int .i64 n] 24)) 27 [.int .u16 (lo : Nat), .int .u16 (hi : Nat)]
    rw [World.size_alloc] at k
    exact k.on (bel_al (Below.refl _ _) _)
  · have k := Blk.new ((W.alloc (.cells #[.int .u32 (A : Nat), .int .i64 n] 24)).alloc (.cells #[.int .u16 (lo : Nat), .int .u16 (hi : Nat)] 27)) 29 [.int .u32 (d : Nat), .int .u32 (s : Nat), .int .u8 (q : Nat), .int .u16 (x : Nat), .int .u16 (y : Nat)]
    rw [World.size_alloc, World.size_alloc] at k
    exact k
  have X1 := Lib.hid hW
  clear hW
  go_wp2_with fail
  refine (CN.out _).mono ?_
  rintro e w2 ⟨p, rfl, hS, hb⟩
  obtain ⟨Z, hZ⟩ : ∃ Z : Nat → Prop, (fun k => k < W1.heap.size) = Z := ⟨_, rfl⟩
  rw [hZ] at hS
  have HZ : Hid (∀ k, k < W.heap.size + 3 → Z k) := Lib.hid (by rw [← hZ]; intro k hk; have := X1.out.2.2.2.2; show k < W1.heap.size; omega)
  have S2 := Lib.hid hS
  have X2 := Lib.hid (X1.out.on hb)
  clear hS hb CN hZ X1
  obtain ⟨h_0, h_1, h_2, h_3, h_4⟩ : _ ∧ _ ∧ _ ∧ _ ∧ _ := ⟨X2.out.2.2.1.1 0 _ rfl, X2.out.2.2.1.1 1 _ rfl, X2.out.2.2.1.1 2 _ rfl, X2.out.2.2.1.1 3 _ rfl, X2.out.2.2.1.1 4 _ rfl⟩
  go_wp2_with fail
  refine (CA.out _).mono ?_
  rintro e w3 ⟨rfl, hb⟩
  have S3 := Lib.hid (S2.out.on hb)
  have X3 := Lib.hid (X2.out.on hb)
  clear hb CA S2 X2
  clear h_0 h_1 h_2 h_3 h_4
  obtain ⟨p_0, p_1⟩ : _ ∧ _ := ⟨X3.out.1.1 0 _ rfl, X3.out.1.1 1 _ rfl⟩
  go_wp2_with fail
  refine (CPx.out Z p w3 S3.out).mono ?_
  rintro e w4 ⟨g, ns1, rfl, hS, hH, hP⟩
  have S4 := Lib.hid hS
  have X4 := Lib.hid (X3.out.hold hH HZ.out)
  have P4 := Lib.hid hP
  clear hS hH hP CPx S3 X3
  clear p_0 p_1
  obtain ⟨h_0, h_1, h_2, h_3, h_4⟩ : _ ∧ _ ∧ _ ∧ _ ∧ _ := ⟨X4.out.2.2.1.1 0 _ rfl, X4.out.2.2.1.1 1 _ rfl, X4.out.2.2.1.1 2 _ rfl, X4.out.2.2.1.1 3 _ rfl, X4.out.2.2.1.1 4 _ rfl⟩
  go_wp2_with fail
  refine (CB.out _).mono ?_
  rintro e w8 ⟨rfl, hb⟩
  have S8 := Lib.hid (S4.out.on hb)
  have X8 := Lib.hid (X4.out.on hb)
  clear hb CB S4 X4
  clear h_0 h_1 h_2 h_3 h_4
  obtain ⟨r_0, r_1⟩ : _ ∧ _ := ⟨X8.out.2.1.1 0 _ rfl, X8.out.2.1.1 1 _ rfl⟩
  go_wp2_with fail
  refine (CRg.out Z p w8 g ns1 P4.out S8.out).mono ?_
  rintro e w9 ⟨g2, ns2, rfl, hS, hH, hR⟩
  have S9 := Lib.hid hS
  have X9 := Lib.hid (X8.out.hold hH HZ.out)
  have R9 := Lib.hid hR
  clear hS hH hR CRg S8 X8 P4
  clear r_0 r_1
  obtain ⟨r_0, r_1⟩ : _ ∧ _ := ⟨X9.out.2.1.1 0 _ rfl, X9.out.2.1.1 1 _ rfl⟩
  obtain ⟨h_0, h_1, h_2, h_3, h_4⟩ : _ ∧ _ ∧ _ ∧ _ ∧ _ := ⟨X9.out.2.2.1.1 0 _ rfl, X9.out.2.2.1.1 1 _ rfl, X9.out.2.2.1.1 2 _ rfl, X9.out.2.2.1.1 3 _ rfl, X9.out.2.2.1.1 4 _ rfl⟩
  go_wp2_with fail
  refine wp_region_noPanic ?_
  refine wp_region_along (S := fun w' => Below w9.heap.size w9 w' ∧ ∀ b o, (w9.cell? ⟨b, o, none⟩).isSome = true → w'.cell? ⟨b, o, none⟩ = w9.cell? ⟨b, o, none⟩) ([(0, false), (1, true), (2, true), (3, true), (4, true), (5, true), (6, true), (7, true), (8, true), (10, true), (11, true), (12, true), (13, true), (9, false), (14, true), (15, true)] ++ ([(16, true), (17, true), (18, true), (19, true), (20, true), (21, true), (22, true)])) (by kernel_rfl) (by as_aux_lemma => kernel_rfl) (by kernel_rfl) (by kernel_rfl) (alongPre_append _ _ _ (by as_aux_lemma => kernel_rfl) (by as_aux_lemma => kernel_rfl)) (by as_aux_lemma => kernel_rfl) (fun _ _ _ _ _ h => h) (below_kb (Below.refl _ _).drew) (fun hH => ?_)
  simp only [List.cons_append, List.nil_append, stepsOf, pickOp]
  refine along_bar (fun K hK => ?_)
  go_simp
  refine (CW.out _).mono ?_
  rintro e wa ⟨rfl, hbx⟩
  try go_wp2_with fail
  refine hK.out _ _ (below_kb (below_on hH.1 hbx)) (fun hH' => ?_)
  clear hK K hH
  have hH := hH'
  clear hH'
  have Ba := Lib.hid hH.1
  clear hbx
  try simp only [Act.put, List.setIfInBounds_toArray, List.set_cons_zero, List.set_cons_succ]
  iterate 12 (first | (refine along_skip (by rfl) ?_; try simp only [Act.put, List.setIfInBounds_toArray, List.set_cons_zero, List.set_cons_succ]) | (refine along_pure ?_ (by rfl) (fun w hSw => ?_) ?_; rotate_left; ((try dsimp only at hSw); go_simp; try with_reducible rfl); try simp only [Act.put, List.setIfInBounds_toArray, List.set_cons_zero, List.set_cons_succ]))
  refine along_bar (fun K hK => ?_)
  go_simp
  refine (CIn.out Z p wa g2 ns2 R9.out (S9.out.on Ba.out)).mono ?_
  rintro e wb ⟨rfl, hbx⟩
  try go_wp2_with fail
  refine hK.out _ _ (below_kb (below_on hH.1 hbx)) (fun hH' => ?_)
  clear hK K hH
  have hH := hH'
  clear hH'
  clear hbx
  try simp only [Act.put, List.setIfInBounds_toArray, List.set_cons_zero, List.set_cons_succ]
  iterate 9 (first | (refine along_skip (by rfl) ?_; try simp only [Act.put, List.setIfInBounds_toArray, List.set_cons_zero, List.set_cons_succ]) | (refine along_pure ?_ (by rfl) (fun w hSw => ?_) ?_; rotate_left; ((try dsimp only at hSw); go_simp; try with_reducible rfl); try simp only [Act.put, List.setIfInBounds_toArray, List.set_cons_zero, List.set_cons_succ]))
  refine along_end (NoPanic.normal ?_)
  have FIN := Lib.hid (bel_on' X9.out.2.2.2.1 hH.1)
  clear hH
  go_wp2
  go_ret
  exact ⟨rfl, FIN.out⟩
end Go.Proofs.Ytggcbklififcgab
/- EncFields: any field, prefix, range and header. -/
namespace Go.Proofs.Ytggcbklififcgab
open Go.RowKit
set_option linter.unusedVariables false

/-- What a refused call leaves. -/
theorem ref_of {Z : Nat → Prop} {p : Nat} {w : World} {ns : List Nd} {c : Int} {P : Nat → List Nd → Prop} (hS : Sta Z p w 262144 ns) (hP : P 0 ns) {f : Nat} {args : Array Value}
    (h : Calls Try.prog f args w fun e w' => e = .returned (.tuple #[.int .i64 0, .int .i64 c]) ∧ Below w.heap.size w w') :
    Calls Try.prog f args w fun e w' => ∃ (g : Nat) (ns1 : List Nd), e = .returned (.tuple #[.int .i64 (g : Nat), .int .i64 c]) ∧ Sta Z p w' 262144 ns1 ∧ Hold Z w w' ∧ P g ns1 :=
  h.mono fun e w' ⟨h1, h2⟩ => ⟨0, ns, h1, hS.on h2, Hold.of h2, hP⟩
/-- What a call with room enough leaves. -/
theorem lv_of {Z : Nat → Prop} {p : Nat} {W w' : World} {ns : List Nd} {R : Option Nat × List Nd} {φ : Env → Bool} {c l hi : Nat} {D : (Nat → Bool) → Prop} {e : Ending} (hG : Got2 Z p 262144 R W e w') (hL : Lv 262144 ns R φ c l hi D) (hc : ns.length + c < 262144) :
    ∃ (g : Nat) (ns1 : List Nd), e = .returned (.tuple #[.int .i64 (g : Nat), .int .i64 0]) ∧ Sta Z p w' 262144 ns1 ∧ Hold Z W w' ∧ Gd ns ns1 g φ c l hi D := by
  rcases got2_cases hG with ⟨hr, -⟩ | ⟨q, hr, h1, h2, h3⟩
  · obtain ⟨x, -⟩ := hL.none hr; omega
  · exact ⟨q, R.2, h1, h2, h3, hL.some q hr⟩
theorem pre_of {Z : Nat → Prop} {p : Nat} {W : World} {ns : List Nd} {v : Value} {f A k a : Nat} (hS : Sta Z p W 262144 ns) (h104 : a + k ≤ 104) (hc : ns.length + k < 262144)
    (h : Calls Try.prog 10 #[.pointer (some ⟨p, 0, none⟩), .int .i64 (f : Nat), v] W (Got2 Z p 262144 (cF 262144 ns (fl A A 0 0 0 a k)) W)) :
    Calls Try.prog 10 #[.pointer (some ⟨p, 0, none⟩), .int .i64 (f : Nat), v] W fun e w' => ∃ (g : Nat) (ns1 : List Nd), e = .returned (.tuple #[.int .i64 (g : Nat), .int .i64 0]) ∧ Sta Z p w' 262144 ns1 ∧ Hold Z W w' ∧ Gd ns ns1 g (allB (fl A A 0 0 0 a k)) k k 104 (fun B => ∀ i, i < k → B (a + i) = true) := by
  have hr := fl_rise A A 0 0 0 a k h104
  obtain ⟨L, -⟩ := cF_lv 262144 104 hS.wf hr.1 hr.2 hr.2
  rw [fl_len] at L
  have L' : Lv 262144 ns (cF 262144 ns (fl A A 0 0 0 a k)) (allB (fl A A 0 0 0 a k)) k k 104 (fun B => ∀ i, i < k → B (a + i) = true) := ⟨fun q hq => (L.some q hq).mono (Nat.le_refl _) (Nat.le_refl _) (Nat.le_refl _) (fun B hB p hp => by
    obtain ⟨i, hi, e⟩ := fl_mem hp
    rw [e]; exact hB i hi), L.none⟩
  exact h.mono fun e w' hG => lv_of hG L' hc
theorem rng_of {Z : Nat → Prop} {p : Nat} {W : World} {ns : List Nd} (hS : Sta Z p W 262144 ns) (a lo hi : Nat) (ha : a = 72 ∨ a = 88) (hlo : lo < 65536) (hhi : hi < 65536) (hle : lo ≤ hi) (hc : ns.length + 352 < 262144) :
    Calls Try.prog 15 #[.pointer (some ⟨p, 0, none⟩), .int .i64 (a : Nat), .agg #[.int .u16 (lo : Nat), .int .u16 (hi : Nat)]] W fun e w' => ∃ (g : Nat) (ns1 : List Nd), e = .returned (.tuple #[.int .i64 (g : Nat), .int .i64 0]) ∧ Sta Z p w' 262144 ns1 ∧ Hold Z W w' ∧ Gd ns ns1 g (rgP a lo hi) 352 320 (a + 16) (fun B => ∀ i, i < 16 → B (a + i) = true) :=
  (range_any hS a lo hi ha hlo hhi hle).mono fun e w' ⟨R, hG, hL, _⟩ => lv_of hG hL hc
theorem in_of {Z : Nat → Prop} {p : Nat} {w : World} {ns : List Nd} {g d s q x y : Nat} {φ : Env → Bool} {T : Bool} (h : Sta Z p w 262144 ns) (hg : St ns g φ) (hh : HB d s q x y) (hT : φ (hE d s q x y) = T) :
    Calls Try.prog 12 #[.pointer (some ⟨p, 0, none⟩), .int .i64 (g : Nat), hv d s q x y] w fun e w' => e = .returned (.bool T) ∧ Below w.heap.size w w' := by
  have k := sIn h g d s q x y hh hg.1
  rw [hg.2, hT] at k
  exact k
theorem right_k {A : Nat} {n : Int} (h : rightB A n = true) : ∃ k : Nat, n = (k : Nat) ∧ k ≤ 32 := by
  unfold rightB at h
  rw [decide_eq_true_eq] at h
  obtain ⟨k, rfl⟩ := Int.eq_ofNat_of_zero_le h.1
  exact ⟨k, rfl, by omega⟩
theorem encFields_any (f : Int) (A : Nat) (n : Int) (lo hi d s q x y : Nat) (hA : A < 4294967296) (hlo : lo < 65536) (hhi : hi < 65536) (hh : HB d s q x y) (W : World) :
    Calls Try.prog 3 #[.int .i64 f, pv A n, .agg #[.int .u16 (lo : Nat), .int .u16 (hi : Nat)], hv d s q x y] W fun e w' => e = .returned (.bool true) ∧ Below W.heap.size W w' := by
  have hpv : ∃ a n', pv (A : Int) n = .agg #[.int .u32 a, .int .i64 n'] := ⟨_, _, rfl⟩
  by_cases c0 : f = 0
  · subst c0
    cases hr : rightB A n with
    | false =>
      exact ef_bad (PP := fun _ ns => ns = [bot, top]) (PR := fun _ _ => True) 0 A n lo hi d s q x y d 0 W (Lib.hid (fun w => raddr_dst d s q x y w)) (Lib.hid (fun w => rport_no d s q x y 0 (by decide) (by decide) w))
        (Lib.hid (fun Z p w hS => ref_of hS rfl (prefixD_bad p A n hA hr w))) (Lib.hid (fun Z p w g ns1 hP hS => ref_of hS trivial (range_field p 0 (by decide) (by decide) lo hi w))) (Lib.hid (fun w => by have k := rright_any A n hA w; rw [hr] at k; exact k))
    | true =>
      obtain ⟨k, rfl, hk⟩ := right_k hr
      exact ef_pre (PP := fun g ns => Gd [bot, top] ns g (allB (fl A A 0 0 0 0 k)) k k 104 (fun B => ∀ i, i < k → B (0 + i) = true)) (PR := fun _ _ => True) 0 A (k : Nat) lo hi d s q x y d 0 (decide (d / sz k = A / sz k)) W (Lib.hid (fun w => raddr_dst d s q x y w)) (Lib.hid (fun w => rport_no d s q x y 0 (by decide) (by decide) w))
        (Lib.hid (fun Z p w hS => pre_of hS (by omega) (by show 2 + k < _; omega) (prefixD_any hS A k hA hk hr))) (Lib.hid (fun Z p w g ns1 hP hS => ref_of hS trivial (range_field p 0 (by decide) (by decide) lo hi w)))
        (Lib.hid (fun w => by have k' := rright_any A (k : Nat) hA w; rw [hr] at k'; exact k')) (Lib.hid (fun Z p w g ns1 hP hS => in_of hS hP.st hh (fl_dst hA hk hh))) (Lib.hid (fun w => rhas_any A k d hk hA hh.d w))
  by_cases c1 : f = 32
  · subst c1
    cases hr : rightB A n with
    | false =>
      exact ef_bad (PP := fun _ ns => ns = [bot, top]) (PR := fun _ _ => True) 32 A n lo hi d s q x y s 0 W (Lib.hid (fun w => raddr_src d s q x y w)) (Lib.hid (fun w => rport_no d s q x y 32 (by decide) (by decide) w))
        (Lib.hid (fun Z p w hS => ref_of hS rfl (prefixS_bad p A n hA hr w))) (Lib.hid (fun Z p w g ns1 hP hS => ref_of hS trivial (range_field p 32 (by decide) (by decide) lo hi w))) (Lib.hid (fun w => by have k := rright_any A n hA w; rw [hr] at k; exact k))
    | true =>
      obtain ⟨k, rfl, hk⟩ := right_k hr
      exact ef_pre (PP := fun g ns => Gd [bot, top] ns g (allB (fl A A 0 0 0 32 k)) k k 104 (fun B => ∀ i, i < k → B (32 + i) = true)) (PR := fun _ _ => True) 32 A (k : Nat) lo hi d s q x y s 0 (decide (s / sz k = A / sz k)) W (Lib.hid (fun w => raddr_src d s q x y w)) (Lib.hid (fun w => rport_no d s q x y 32 (by decide) (by decide) w))
        (Lib.hid (fun Z p w hS => pre_of hS (by omega) (by show 2 + k < _; omega) (prefixS_any hS A k hA hk hr))) (Lib.hid (fun Z p w g ns1 hP hS => ref_of hS trivial (range_field p 32 (by decide) (by decide) lo hi w)))
        (Lib.hid (fun w => by have k' := rright_any A (k : Nat) hA w; rw [hr] at k'; exact k')) (Lib.hid (fun Z p w g ns1 hP hS => in_of hS hP.st hh (fl_src hA hk hh))) (Lib.hid (fun w => rhas_any A k s hk hA hh.s w))
  have CPx : Hid (∀ Z p w, Sta Z p w 262144 [bot, top] → Calls Try.prog 10 #[.pointer (some ⟨p, 0, none⟩), .int .i64 f, pv A n] w fun e w' => ∃ (g : Nat) (ns1 : List Nd), e = .returned (.tuple #[.int .i64 (g : Nat), .int .i64 1]) ∧ Sta Z p w' 262144 ns1 ∧ Hold Z w w' ∧ ns1 = [bot, top]) :=
    Lib.hid (fun Z p w hS => ref_of (P := fun _ ns => ns = [bot, top]) hS rfl (prefix_field p f c0 c1 _ hpv w))
  by_cases c2 : f = 72
  · subst c2
    by_cases hgt : hi < lo
    · exact ef_bounds (PP := fun _ ns => ns = [bot, top]) (PR := fun _ _ => True) 72 A n lo hi d s q x y 0 x (by omega) W (Lib.hid (fun w => raddr_no d s q x y 72 (by decide) (by decide) w)) (Lib.hid (fun w => rport_s d s q x y w)) CPx
        (Lib.hid (fun Z p w g ns1 hP hS => ref_of hS trivial (range_bounds p 72 (Or.inl rfl) lo hi hgt w)))
    · have hle : ¬ (hi : Int) < (lo : Int) := by omega
      have CRg : Hid (∀ Z p w g ns1, ns1 = [bot, top] → Sta Z p w 262144 ns1 → Calls Try.prog 15 #[.pointer (some ⟨p, 0, none⟩), .int .i64 72, .agg #[.int .u16 (lo : Nat), .int .u16 (hi : Nat)]] w fun e w' => ∃ (g : Nat) (ns2 : List Nd), e = .returned (.tuple #[.int .i64 (g : Nat), .int .i64 0]) ∧ Sta Z p w' 262144 ns2 ∧ Hold Z w w' ∧ Gd [bot, top] ns2 g (rgP 72 lo hi) 352 320 (72 + 16) (fun B => ∀ i, i < 16 → B (72 + i) = true)) :=
        Lib.hid (fun Z p w (g : Nat) ns1 hP hS => by subst hP; exact rng_of hS 72 lo hi (Or.inl rfl) hlo hhi (by omega) (by decide))
      by_cases h1 : lo ≤ x
      · by_cases h2 : x ≤ hi
        · exact ef_in (PP := fun _ ns => ns = [bot, top]) 72 A n lo hi d s q x y 0 x hle (by omega) (by omega) W (Lib.hid (fun w => raddr_no d s q x y 72 (by decide) (by decide) w)) (Lib.hid (fun w => rport_s d s q x y w)) CPx CRg
            (Lib.hid (fun Z p w g ns2 hP hS => in_of hS hP.st hh (by rw [rg_sp hlo hhi hh]; exact decide_eq_true ⟨h1, h2⟩)))
        · exact ef_high (PP := fun _ ns => ns = [bot, top]) 72 A n lo hi d s q x y 0 x hle (by omega) (decide_eq_false h2) W (Lib.hid (fun w => raddr_no d s q x y 72 (by decide) (by decide) w)) (Lib.hid (fun w => rport_s d s q x y w)) CPx CRg
            (Lib.hid (fun Z p w g ns2 hP hS => in_of hS hP.st hh (by rw [rg_sp hlo hhi hh]; exact decide_eq_false (fun q => h2 q.2))))
      · exact ef_low (PP := fun _ ns => ns = [bot, top]) 72 A n lo hi d s q x y 0 x hle (decide_eq_false h1) W (Lib.hid (fun w => raddr_no d s q x y 72 (by decide) (by decide) w)) (Lib.hid (fun w => rport_s d s q x y w)) CPx CRg
          (Lib.hid (fun Z p w g ns2 hP hS => in_of hS hP.st hh (by rw [rg_sp hlo hhi hh]; exact decide_eq_false (fun q => h1 q.1))))
  by_cases c3 : f = 88
  · subst c3
    by_cases hgt : hi < lo
    · exact ef_bounds (PP := fun _ ns => ns = [bot, top]) (PR := fun _ _ => True) 88 A n lo hi d s q x y 0 y (by omega) W (Lib.hid (fun w => raddr_no d s q x y 88 (by decide) (by decide) w)) (Lib.hid (fun w => rport_d d s q x y w)) CPx
        (Lib.hid (fun Z p w g ns1 hP hS => ref_of hS trivial (range_bounds p 88 (Or.inr rfl) lo hi hgt w)))
    · have hle : ¬ (hi : Int) < (lo : Int) := by omega
      have CRg : Hid (∀ Z p w g ns1, ns1 = [bot, top] → Sta Z p w 262144 ns1 → Calls Try.prog 15 #[.pointer (some ⟨p, 0, none⟩), .int .i64 88, .agg #[.int .u16 (lo : Nat), .int .u16 (hi : Nat)]] w fun e w' => ∃ (g : Nat) (ns2 : List Nd), e = .returned (.tuple #[.int .i64 (g : Nat), .int .i64 0]) ∧ Sta Z p w' 262144 ns2 ∧ Hold Z w w' ∧ Gd [bot, top] ns2 g (rgP 88 lo hi) 352 320 (88 + 16) (fun B => ∀ i, i < 16 → B (88 + i) = true)) :=
        Lib.hid (fun Z p w (g : Nat) ns1 hP hS => by subst hP; exact rng_of hS 88 lo hi (Or.inr rfl) hlo hhi (by omega) (by decide))
      by_cases h1 : lo ≤ y
      · by_cases h2 : y ≤ hi
        · exact ef_in (PP := fun _ ns => ns = [bot, top]) 88 A n lo hi d s q x y 0 y hle (by omega) (by omega) W (Lib.hid (fun w => raddr_no d s q x y 88 (by decide) (by decide) w)) (Lib.hid (fun w => rport_d d s q x y w)) CPx CRg
            (Lib.hid (fun Z p w g ns2 hP hS => in_of hS hP.st hh (by rw [rg_dp hlo hhi hh]; exact decide_eq_true ⟨h1, h2⟩)))
        · exact ef_high (PP := fun _ ns => ns = [bot, top]) 88 A n lo hi d s q x y 0 y hle (by omega) (decide_eq_false h2) W (Lib.hid (fun w => raddr_no d s q x y 88 (by decide) (by decide) w)) (Lib.hid (fun w => rport_d d s q x y w)) CPx CRg
            (Lib.hid (fun Z p w g ns2 hP hS => in_of hS hP.st hh (by rw [rg_dp hlo hhi hh]; exact decide_eq_false (fun q => h2 q.2))))
      · exact ef_low (PP := fun _ ns => ns = [bot, top]) 88 A n lo hi d s q x y 0 y hle (decide_eq_false h1) W (Lib.hid (fun w => raddr_no d s q x y 88 (by decide) (by decide) w)) (Lib.hid (fun w => rport_d d s q x y w)) CPx CRg
          (Lib.hid (fun Z p w g ns2 hP hS => in_of hS hP.st hh (by rw [rg_dp hlo hhi hh]; exact decide_eq_false (fun q => h1 q.1))))
  · exact ef_none (PP := fun _ ns => ns = [bot, top]) (PR := fun _ _ => True) f A n lo hi d s q x y 0 0 W (Lib.hid (fun w => raddr_no d s q x y f c0 c1 w)) (Lib.hid (fun w => rport_no d s q x y f c2 c3 w)) CPx
      (Lib.hid (fun Z p w g ns1 hP hS => ref_of hS trivial (range_field p f c2 c3 lo hi w)))
end Go.Proofs.Ytggcbklififcgab
/- EncFull: any filter, room and header. -/
namespace Go.Proofs.Ytggcbklififcgab
open Go.RowKit
set_option linter.unusedVariables false

set_option maxRecDepth 100000 in
set_option maxHeartbeats 4000000 in
theorem efl_wrong (a n b m p l h u v d s q x y : Int) (room : Nat) (E : Int) (hE : (E != 0) = true) (W : World)
    (CK : Hid (∀ w, Calls Try.prog 18 #[fv a n b m p l h u v] w fun e w' => e = .returned (.int .i64 E) ∧ Below w.heap.size w w')) :
    Calls Try.prog 5 #[fv a n b m p l h u v, .int .u8 (room : Nat), hv d s q x y] W fun e w' => e = .returned (.bool true) ∧ Below W.heap.size W w' := by
  have CW := Lib.hid (fun w => awake_any w)
  unfold fv at CK
  unfold fv hv
  go_enter Try.func5, Try.ntmps5
  go_upto_region 1 with fail
  refine at_code (S := Fx2 W (fc a n b m p l h u v) (hc d s q x y)) ⟨?_, ?_, bel_al (bel_al (Below.refl _ _) _) _, by simp⟩ (fun W1 hW => ?_)
  · exact (Blk.new W _ (fc a n b m p l h u v)).on (bel_al (Below.refl _ _) _)
  · have k := Blk.new (W.alloc (.cells (fc a n b m p l h u v).toArray 47)) 29 (hc d s q x y)
    rw [World.size_alloc] at k
    exact k
  have X1 := Lib.hid hW
  obtain ⟨x_0, x_1, x_2, x_3, x_4, x_5, x_6, x_7, x_8⟩ := cells9 X1.out.1
  clear hW
  go_wp2_with fail
  refine (CK.out _).mono ?_
  rintro e w2 ⟨rfl, hbx⟩
  have X2 := Lib.hid (X1.out.on hbx)
  clear x_0 x_1 x_2 x_3 x_4 x_5 x_6 x_7 x_8 hbx X1 CK
  go_wp2_with fail
  refine (CW.out _).mono ?_
  rintro e wa ⟨rfl, hbx⟩
  have FIN := Lib.hid (bel_on' X2.out.2.2.1 hbx)
  clear hbx
  go_wp2
  go_ret
  exact ⟨rfl, FIN.out⟩
set_option maxRecDepth 100000 in
set_option maxHeartbeats 4000000 in
theorem efl_few (a n b m p l h u v d s q x y : Int) (room : Nat) (h2 : (room : Int) < 2) (W : World)
    (CK : Hid (∀ w, Calls Try.prog 18 #[fv a n b m p l h u v] w fun e w' => e = .returned (.int .i64 0) ∧ Below w.heap.size w w')) :
    Calls Try.prog 5 #[fv a n b m p l h u v, .int .u8 (room : Nat), hv d s q x y] W fun e w' => e = .returned (.bool true) ∧ Below W.heap.size W w' := by
  have CW := Lib.hid (fun w => awake_any w)
  unfold fv at CK
  unfold fv hv
  go_enter Try.func5, Try.ntmps5
  go_upto_region 1 with fail
  refine at_code (S := Fx2 W (fc a n b m p l h u v) (hc d s q x y)) ⟨?_, ?_, bel_al (bel_al (Below.refl _ _) _) _, by simp⟩ (fun W1 hW => ?_)
  · exact (Blk.new W _ (fc a n b m p l h u v)).on (bel_al (Below.refl _ _) _)
  · have k := Blk.new (W.alloc (.cells (fc a n b m p l h u v).toArray 47)) 29 (hc d s q x y)
    rw [World.size_alloc] at k
    exact k
  have X1 := Lib.hid hW
  obtain ⟨x_0, x_1, x_2, x_3, x_4, x_5, x_6, x_7, x_8⟩ := cells9 X1.out.1
  clear hW
  go_wp2_with fail
  refine (CK.out _).mono ?_
  rintro e w2 ⟨rfl, hbx⟩
  have X2 := Lib.hid (X1.out.on hbx)
  clear x_0 x_1 x_2 x_3 x_4 x_5 x_6 x_7 x_8 hbx X1 CK
  go_wp2_with fail
  refine (CW.out _).mono ?_
  rintro e wa ⟨rfl, hbx⟩
  have FIN := Lib.hid (bel_on' X2.out.2.2.1 hbx)
  clear hbx
  go_wp2
  go_ret
  exact ⟨rfl, FIN.out⟩
set_option maxRecDepth 100000 in
set_option maxHeartbeats 8000000 in
theorem efl_main {PP : Nat → List Nd → Prop} (a n b m p l h u v d s q x y : Int) (room : Nat) (h2 : ¬ (room : Int) < 2) (h255 : room < 256) (T : Bool) (W : World)
    (CK : Hid (∀ w, Calls Try.prog 18 #[fv a n b m p l h u v] w fun e w' => e = .returned (.int .i64 0) ∧ Below w.heap.size w w'))
    (CF : Hid (∀ Z p0 w, Sta Z p0 w room [bot, top] → Calls Try.prog 17 #[.pointer (some ⟨p0, 0, none⟩), fv a n b m p l h u v] w fun e w' => (e = .returned (.tuple #[.int .i64 0, .int .i64 20]) ∧ Sta Z p0 w' room [bot, top] ∧ Hold Z w w') ∨ ∃ (g : Nat) (ns : List Nd), e = .returned (.tuple #[.int .i64 (g : Nat), .int .i64 0]) ∧ Sta Z p0 w' room ns ∧ Hold Z w w' ∧ PP g ns))
    (CI0 : Hid (∀ Z p0 w g ns, Sta Z p0 w room ns → PP g ns → Calls Try.prog 12 #[.pointer (some ⟨p0, 0, none⟩), .int .i64 (g : Nat), hv d s q x y] w fun e w' => e = .returned (.bool T) ∧ Below w.heap.size w w'))
    (CM : Hid (∀ w, Calls Try.prog 19 #[fv a n b m p l h u v, hv d s q x y] w fun e w' => e = .returned (.bool T) ∧ Below w.heap.size w w')) :
    Calls Try.prog 5 #[fv a n b m p l h u v, .int .u8 (room : Nat), hv d s q x y] W fun e w' => e = .returned (.bool true) ∧ Below W.heap.size W w' := by
  have CW := Lib.hid (fun w => awake_any w)
  have CN := Lib.hid (fun w => sNew room (by omega) (by omega) w)
  have CFn := Lib.hid (fun w => filter_nil a n b m p l h u v w)
  have CHn := Lib.hid (fun w => header_nil d s q x y w)
  have hTT : (T == T) = true := by cases T <;> rfl
  unfold fv at CK CF CM CFn
  unfold hv at CI0 CM CHn
  unfold fv hv
  go_enter Try.func5, Try.ntmps5
  go_upto_region 1 with fail
  refine at_code (S := Fx2 W (fc a n b m p l h u v) (hc d s q x y)) ⟨?_, ?_, bel_al (bel_al (Below.refl _ _) _) _, by simp⟩ (fun W1 hW => ?_)
  · exact (Blk.new W _ (fc a n b m p l h u v)).on (bel_al (Below.refl _ _) _)
  · have k := Blk.new (W.alloc (.cells (fc a n b m p l h u v).toArray 47)) 29 (hc d s q x y)
    rw [World.size_alloc] at k
    exact k
  have X1 := Lib.hid hW
  obtain ⟨x_0, x_1, x_2, x_3, x_4, x_5, x_6, x_7, x_8⟩ := cells9 X1.out.1
  clear hW
  go_wp2_with fail
  refine (CK.out _).mono ?_
  rintro e w2 ⟨rfl, hbx⟩
  have X2 := Lib.hid (X1.out.on hbx)
  clear x_0 x_1 x_2 x_3 x_4 x_5 x_6 x_7 x_8 hbx X1 CK
  go_wp2_with fail
  refine (CN.out _).mono ?_
  rintro e w3 ⟨p0, rfl, hS, hb⟩
  obtain ⟨Z, hZ⟩ : ∃ Z : Nat → Prop, (fun k => k < w2.heap.size) = Z := ⟨_, rfl⟩
  rw [hZ] at hS
  have HZ : Hid (∀ k, k < W.heap.size + 2 → Z k) := Lib.hid (by rw [← hZ]; intro k hk; have := X2.out.2.2.2; show k < w2.heap.size; omega)
  have S3 := Lib.hid hS
  have X3 := Lib.hid (X2.out.on hb)
  clear hS hb CN hZ X2
  have CI := Lib.hid (fun (w : World) (g : Nat) (ns : List Nd) (hs : Sta Z p0 w room ns) (hp : PP g ns) => CI0.out Z p0 w g ns hs hp)
  clear CI0
  obtain ⟨x_0, x_1, x_2, x_3, x_4, x_5, x_6, x_7, x_8⟩ := cells9 X3.out.1
  go_wp2_with fail
  refine (CF.out Z p0 w3 S3.out).mono ?_
  rintro e w4 (⟨rfl, hS, hH⟩ | ⟨g, ns, rfl, hS, hH, hP⟩)
  · have CL := Lib.hid (fun (w : World) (hb : Below w4.heap.size w4 w) => sLen (hS.on hb))
    have X4 := Lib.hid (X3.out.hold hH HZ.out)
    clear x_0 x_1 x_2 x_3 x_4 x_5 x_6 x_7 x_8 hS hH CF X3 S3
    go_wp2_with fail
    refine (CW.out _).mono ?_
    rintro e wa ⟨rfl, hbx⟩
    have C5 := Lib.hid (CL.out wa hbx)
    have FIN := Lib.hid (bel_on' X4.out.2.2.1 hbx)
    clear hbx CL
    go_wp2_with fail
    refine C5.out.mono ?_
    rintro e wb ⟨rfl, rfl⟩
    go_wp2
    go_ret
    exact ⟨rfl, FIN.out⟩
  · have S4 := Lib.hid hS
    have G4 := Lib.hid hP
    have X4 := Lib.hid (X3.out.hold hH HZ.out)
    clear x_0 x_1 x_2 x_3 x_4 x_5 x_6 x_7 x_8 hS hH hP CF X3 S3
    obtain ⟨x_0, x_1, x_2, x_3, x_4, x_5, x_6, x_7, x_8⟩ := cells9 X4.out.1
    go_wp2_with fail
    refine (CFn.out _).mono ?_
    rintro e w5 ⟨rfl, hbx⟩
    have S5 := Lib.hid (S4.out.on hbx)
    have X5 := Lib.hid (X4.out.on hbx)
    clear x_0 x_1 x_2 x_3 x_4 x_5 x_6 x_7 x_8 hbx CFn X4 S4
    obtain ⟨y_0, y_1, y_2, y_3, y_4⟩ := cells5 X5.out.2.1
    go_wp2_with fail
    refine (CHn.out _).mono ?_
    rintro e w6 ⟨rfl, hbx⟩
    have S6 := Lib.hid (S5.out.on hbx)
    have X6 := Lib.hid (X5.out.on hbx)
    clear y_0 y_1 y_2 y_3 y_4 hbx CHn X5 S5
    obtain ⟨x_0, x_1, x_2, x_3, x_4, x_5, x_6, x_7, x_8⟩ := cells9 X6.out.1
    obtain ⟨y_0, y_1, y_2, y_3, y_4⟩ := cells5 X6.out.2.1
    go_wp2_with fail
    refine wp_region_noPanic ?_
    refine wp_region_along (S := fun w' => Below w6.heap.size w6 w' ∧ ∀ b o, (w6.cell? ⟨b, o, none⟩).isSome = true → w'.cell? ⟨b, o, none⟩ = w6.cell? ⟨b, o, none⟩) ([(0, false), (1, true), (2, true), (3, true), (4, true), (5, true), (6, true), (7, true), (8, true), (10, true), (11, true), (9, false), (12, false), (13, true), (14, true), (15, true)] ++ ([(16, true), (17, true), (18, true), (19, true), (20, true), (21, true), (22, true), (23, true)])) (by kernel_rfl) (by as_aux_lemma => kernel_rfl) (by kernel_rfl) (by kernel_rfl) (alongPre_append _ _ _ (by as_aux_lemma => kernel_rfl) (by as_aux_lemma => kernel_rfl)) (by as_aux_lemma => kernel_rfl) (fun _ _ _ _ _ h => h) (below_kb (Below.refl _ _).drew) (fun hH => ?_)
    simp only [List.cons_append, List.nil_append, stepsOf, pickOp]
    refine along_bar (fun K hK => ?_)
    go_simp
    refine (CW.out _).mono ?_
    rintro e wa ⟨rfl, hbx⟩
    try go_wp2_with fail
    refine hK.out _ _ (below_kb (below_on hH.1 hbx)) (fun hH' => ?_)
    clear hK K hH
    have hH := hH'
    clear hH'
    have Ba := Lib.hid hH.1
    clear hbx
    try simp only [Act.put, List.setIfInBounds_toArray, List.set_cons_zero, List.set_cons_succ]
    iterate 10 (first | (refine along_skip (by rfl) ?_; try simp only [Act.put, List.setIfInBounds_toArray, List.set_cons_zero, List.set_cons_succ]) | (refine along_pure ?_ (by rfl) (fun w hSw => ?_) ?_; rotate_left; ((try dsimp only at hSw); go_simp; try with_reducible rfl); try simp only [Act.put, List.setIfInBounds_toArray, List.set_cons_zero, List.set_cons_succ]))
    refine along_bar (fun K hK => ?_)
    go_simp
    refine (CI.out wa g ns (S6.out.on Ba.out) G4.out).mono ?_
    rintro e wb ⟨rfl, hbx⟩
    try go_wp2_with fail
    refine hK.out _ _ (below_kb (below_on hH.1 hbx)) (fun hH' => ?_)
    clear hK K hH
    have hH := hH'
    clear hH'
    clear hbx
    try simp only [Act.put, List.setIfInBounds_toArray, List.set_cons_zero, List.set_cons_succ]
    refine along_bar (fun K hK => ?_)
    go_simp
    refine (CM.out _).mono ?_
    rintro e wd ⟨rfl, hbx⟩
    try go_wp2_with fail
    refine hK.out _ _ (below_kb (below_on hH.1 hbx)) (fun hH' => ?_)
    clear hK K hH
    have hH := hH'
    clear hH'
    clear hbx
    try simp only [Act.put, List.setIfInBounds_toArray, List.set_cons_zero, List.set_cons_succ]
    iterate 11 (first | (refine along_skip (by rfl) ?_; try simp only [Act.put, List.setIfInBounds_toArray, List.set_cons_zero, List.set_cons_succ]) | (refine along_pure ?_ (by rfl) (fun w hSw => ?_) ?_; rotate_left; ((try dsimp only at hSw); go_simp; try with_reducible rfl); try simp only [Act.put, List.setIfInBounds_toArray, List.set_cons_zero, List.set_cons_succ]))
    refine along_end (NoPanic.normal ?_)
    have FIN := Lib.hid (bel_on' X6.out.2.2.1 hH.1)
    clear hH
    go_wp2
    go_ret
    exact ⟨rfl, FIN.out⟩
/-- What a filter that may be has. -/
theorem chk_ok {a : Nat} {n : Int} {b : Nat} {m p : Int} {l h u v : Nat} (hok : chk (rightB a n) (rightB b m) p (decide (h < l)) (decide (v < u)) = 0) : ∃ kd ks qn : Nat, n = (kd : Nat) ∧ m = (ks : Nat) ∧ kd ≤ 32 ∧ ks ≤ 32 ∧ rightB a n = true ∧ rightB b m = true ∧ (p = -1 ∨ 0 ≤ p ∧ p ≤ 255) ∧ pq p = (qn : Int) ∧ qn < 256 ∧ (p = -1 ∨ p = (qn : Int)) ∧ l ≤ h ∧ u ≤ v := by
  obtain ⟨h1, h2, h3, h4, h5⟩ := chk_right hok
  obtain ⟨kd, rfl, k1⟩ := right_k h1
  obtain ⟨ks, rfl, k2⟩ := right_k h2
  rw [decide_eq_false_iff_not] at h4 h5
  have hpq : 0 ≤ pq p ∧ pq p ≤ 255 := by unfold pq; split <;> omega
  refine ⟨kd, ks, (pq p).toNat, rfl, rfl, k1, k2, h1, h2, h3, by omega, by omega, ?_, by omega, by omega⟩
  rcases h3 with c | c
  · exact Or.inl c
  · right
    have : pq p = p := by unfold pq; rw [if_neg (by omega)]
    omega
theorem encFull_any (a : Nat) (n : Int) (b : Nat) (m p : Int) (l h u v d s q x y room : Nat) (ha : a < 4294967296) (hb : b < 4294967296) (bl : l < 65536) (bh : h < 65536) (bu : u < 65536) (bv : v < 65536) (hh : HB d s q x y) (hr : room < 256) (W : World) :
    Calls Try.prog 5 #[fv a n b m p l h u v, .int .u8 (room : Nat), hv d s q x y] W fun e w' => e = .returned (.bool true) ∧ Below W.heap.size W w' := by
  obtain ⟨E, hE⟩ : ∃ E, chk (rightB a n) (rightB b m) p (decide (h < l)) (decide (v < u)) = E := ⟨_, rfl⟩
  have CK : Hid (∀ w, Calls Try.prog 18 #[fv a n b m p l h u v] w fun e w' => e = .returned (.int .i64 E) ∧ Below w.heap.size w w') := Lib.hid (fun w => by
    have k := rfcheck_any a n b m p l h u v ha hb w
    rw [hE] at k
    exact k)
  by_cases h0 : E = 0
  · subst h0
    by_cases h2 : room < 2
    · exact efl_few a n b m p l h u v d s q x y room (by omega) W CK
    · obtain ⟨kd, ks, qn, rfl, rfl, k1, k2, r1, r2, hp, hq1, hq2, hq3, hlh, huv⟩ := chk_ok hE
      have hA : HB a b qn l u := ⟨ha, hb, hq2, bl, bu⟩
      exact efl_main (PP := fun g ns => St ns g (ftP a kd b ks p qn l h u v)) a _ b _ p l h u v d s q x y room (by omega) hr (passB a (kd : Nat) b (ks : Nat) p l h u v d s q x y) W CK
        (Lib.hid fun Z p0 w hS => (filter_any hS a kd b ks p l h u v ha hb k1 k2 hp bl bh bu bv hE qn hq1 hq2).mono fun e w' ⟨R, hG, hL, hN⟩ => by
          rcases got2_cases hG with ⟨hr, h1, h2, h3⟩ | ⟨g, hr, h1, h2, h3⟩
          · rw [hN hr] at h2
            exact Or.inl ⟨h1, h2, h3⟩
          · exact Or.inr ⟨g, R.2, h1, h2, h3, (hL.some g hr).st⟩)
        (Lib.hid fun Z p0 w g ns hS hP => by
          have k := sIn hS g d s q x y hh hP.1
          rw [hP.2, ftP_val hA hq3 k1 k2 r1 r2 bh bv hh] at k
          exact k)
        (Lib.hid fun w => rfmatch_all a _ b _ p l h u v d s q x y r1 r2 ha hb hh.d hh.s hh.p w)
  · exact efl_wrong a n b m p l h u v d s q x y room E (by simp [h0]) W CK
end Go.Proofs.Ytggcbklififcgab
/- How a prefix and a range that are handed in read (cidr/RCC without its table). -/
namespace Go.Proofs.Ytggcbklififcgab
open Go.ChangeShapes Go.WideShapes Go.ChangeAt Go.RowKit Go.Joins Go.Deep Go.WideElems Go.Maps

theorem cellsPre : Try.prog.cellsOf 24 = 2 := by kernel_rfl
theorem cellsRng : Try.prog.cellsOf 27 = 2 := by kernel_rfl
set_option maxRecDepth 100000 in
theorem pre_open {H : Type} {enc : TypeId × Value → H} {W : World} {base : Nat} {v : Value} {d : DataW H} {p : List MemPlace}
    (hv : Value.okWide Try.prog W .any base 24 v) (h : DataW.Trod enc Try.prog W 0 (fun _ => true) true 24 v d p) :
    ∃ (a : Nat) (n : Int), a < 4294967296 ∧ -9223372036854775808 ≤ n ∧ n ≤ 9223372036854775807 ∧ v = pv a n ∧ p = [] ∧ ∀ (W' : World) (sp : Nat → Bool), DataW.Trod enc Try.prog W' 0 sp true 24 v d [] := by
  obtain ⟨c0, c1, y0, y1, m, rfl, rfl, rfl, hy0, hy1⟩ := open_agg2 Try.underlying24 (by kernel_rfl) cellsPre hv h
  obtain ⟨x, e0, rfl, wx⟩ := DataW.trod_int Try.underlying22 hy0
  obtain ⟨y, e1, rfl, wy⟩ := DataW.trod_int Try.underlying3 hy1
  simp at e0 e1
  subst e0 e1
  obtain ⟨x0, x1⟩ := bounds_u32 wx
  obtain ⟨y0, y1⟩ := bounds_i64 wy
  obtain ⟨x, rfl⟩ := Int.eq_ofNat_of_zero_le x0
  refine ⟨x, y, by omega, by omega, by omega, rfl, rfl, fun W' sp => ?_⟩
  exact shut_agg2 (y0 := (.lit (.int .u32 x), [])) (y1 := (.lit (.int .i64 y), [])) Try.underlying24 (by kernel_rfl) cellsPre ⟨1, by simp [DataW.trod, Try.underlying22, wx]⟩ ⟨1, by simp [DataW.trod, Try.underlying3, wy]⟩
set_option maxRecDepth 100000 in
theorem rng_open {H : Type} {enc : TypeId × Value → H} {W : World} {base : Nat} {v : Value} {d : DataW H} {p : List MemPlace}
    (hv : Value.okWide Try.prog W .any base 27 v) (h : DataW.Trod enc Try.prog W 0 (fun _ => true) true 27 v d p) :
    ∃ (l k : Nat), l < 65536 ∧ k < 65536 ∧ v = .agg #[.int .u16 l, .int .u16 k] ∧ p = [] ∧ ∀ (W' : World) (sp : Nat → Bool), DataW.Trod enc Try.prog W' 0 sp true 27 v d [] := by
  obtain ⟨c0, c1, y0, y1, m, rfl, rfl, rfl, hy0, hy1⟩ := open_agg2 Try.underlying27 (by kernel_rfl) cellsRng hv h
  obtain ⟨x, e0, rfl, wx⟩ := DataW.trod_int Try.underlying25 hy0
  obtain ⟨y, e1, rfl, wy⟩ := DataW.trod_int Try.underlying25 hy1
  simp at e0 e1
  subst e0 e1
  obtain ⟨x0, x1⟩ := bounds_u16 wx
  obtain ⟨y0, y1⟩ := bounds_u16 wy
  obtain ⟨x, rfl⟩ := Int.eq_ofNat_of_zero_le x0
  obtain ⟨y, rfl⟩ := Int.eq_ofNat_of_zero_le y0
  refine ⟨x, y, by omega, by omega, rfl, rfl, fun W' sp => ?_⟩
  exact shut_agg2 (y0 := (.lit (.int .u16 x), [])) (y1 := (.lit (.int .u16 y), [])) Try.underlying27 (by kernel_rfl) cellsRng ⟨1, by simp [DataW.trod, Try.underlying25, wx]⟩ ⟨1, by simp [DataW.trod, Try.underlying25, wy]⟩
end Go.Proofs.Ytggcbklififcgab
/- How a filter that is handed in reads. -/
namespace Go.Proofs.Ytggcbklififcgab
open Go.ChangeShapes Go.WideShapes Go.ChangeAt Go.RowKit Go.Joins Go.Deep Go.WideElems Go.Maps

theorem array9 {α : Type} {cs : Array α} (h : cs.size = 9) : ∃ c0 c1 c2 c3 c4 c5 c6 c7 c8, cs = #[c0, c1, c2, c3, c4, c5, c6, c7, c8] := by
  obtain ⟨l⟩ := cs
  match l, h with
  | [c0, c1, c2, c3, c4, c5, c6, c7, c8], _ => exact ⟨c0, c1, c2, c3, c4, c5, c6, c7, c8, rfl⟩
theorem cellsFlt : Try.prog.cellsOf 47 = 9 := by kernel_rfl
theorem cellsInt : Try.prog.cellsOf 3 = 1 := by kernel_rfl
theorem cellsU32 : Try.prog.cellsOf 22 = 1 := by kernel_rfl
theorem cellsU16 : Try.prog.cellsOf 25 = 1 := by kernel_rfl
section
variable {H : Type} {enc : TypeId × Value → H} {P : Program} {W : World} {base : Nat} {sp : Nat → Bool} {held : Bool} {n : Nat}
/-- One field of a struct that reads: its type, and where it begins. -/
theorem trod_field {t : TypeId} {fs : Array Field} {cs : List Value} {x : DataW H × List MemPlace} (ht : P.underlying t = some (.struct fs)) (h : DataW.trod enc P W base sp held n t cs = some x)
    (i : Nat) (T : TypeId) (o : Nat) (hf : fs[i]?.map (fun f => (f.type, f.offset)) = some (T, o)) : ∃ m y, DataW.trod enc P W base sp held m T ((cs.drop o).take (P.cellsOf T)) = some y := by
  obtain ⟨xs, m, -, -, -, hl, k⟩ := DataW.trod_struct ht h
  rw [Option.map_eq_some_iff] at hf
  obtain ⟨f, hf, he⟩ := hf
  obtain ⟨rfl, rfl⟩ := Prod.mk.inj he
  have hi : i < fs.size := by
    rcases Nat.lt_or_ge i fs.size with q | q
    · exact q
    · rw [Array.getElem?_eq_none q] at hf; cases hf
  have := k i f hf
  rw [List.getElem?_eq_getElem (by omega)] at this
  exact ⟨m, _, this⟩
theorem int_cell {q : IntKind} {t : TypeId} {c : Value} {y : DataW H × List MemPlace} (ht : P.underlying t = some (.int q)) (h : DataW.trod enc P W base sp held n t [c] = some y) : ∃ x, c = .int q x ∧ (Lit.int q x).wf = true := by
  obtain ⟨x, e, -, wx⟩ := DataW.trod_int ht h
  simp at e
  exact ⟨x, e, wx⟩
set_option maxRecDepth 100000 in
theorem pre_cells {c0 c1 : Value} {y : DataW H × List MemPlace} (h : DataW.trod enc Try.prog W base sp held n 24 [c0, c1] = some y) :
    ∃ (a : Nat) (k : Int), a < 4294967296 ∧ -9223372036854775808 ≤ k ∧ k ≤ 9223372036854775807 ∧ c0 = .int .u32 a ∧ c1 = .int .i64 k := by
  obtain ⟨m0, y0, h0⟩ := trod_field Try.underlying24 h 0 22 0 rfl
  obtain ⟨m1, y1, h1⟩ := trod_field Try.underlying24 h 1 3 1 rfl
  simp only [cellsU32, cellsInt, List.drop_zero, List.drop_succ_cons, List.take_succ_cons, List.take_zero] at h0 h1
  obtain ⟨x, rfl, wx⟩ := int_cell Try.underlying22 h0
  obtain ⟨k, rfl, wk⟩ := int_cell Try.underlying3 h1
  obtain ⟨x0, x1⟩ := bounds_u32 wx
  obtain ⟨k0, k1⟩ := bounds_i64 wk
  obtain ⟨x, rfl⟩ := Int.eq_ofNat_of_zero_le x0
  exact ⟨x, k, by omega, by omega, by omega, rfl, rfl⟩
set_option maxRecDepth 100000 in
theorem rng_cells {c0 c1 : Value} {y : DataW H × List MemPlace} (h : DataW.trod enc Try.prog W base sp held n 27 [c0, c1] = some y) :
    ∃ a k : Nat, a < 65536 ∧ k < 65536 ∧ c0 = .int .u16 a ∧ c1 = .int .u16 k := by
  obtain ⟨m0, y0, h0⟩ := trod_field Try.underlying27 h 0 25 0 rfl
  obtain ⟨m1, y1, h1⟩ := trod_field Try.underlying27 h 1 25 1 rfl
  simp only [cellsU16, List.drop_zero, List.drop_succ_cons, List.take_succ_cons, List.take_zero] at h0 h1
  obtain ⟨x, rfl, wx⟩ := int_cell Try.underlying25 h0
  obtain ⟨k, rfl, wk⟩ := int_cell Try.underlying25 h1
  obtain ⟨x0, x1⟩ := bounds_u16 wx
  obtain ⟨k0, k1⟩ := bounds_u16 wk
  obtain ⟨x, rfl⟩ := Int.eq_ofNat_of_zero_le x0
  obtain ⟨k, rfl⟩ := Int.eq_ofNat_of_zero_le k0
  exact ⟨x, k, by omega, by omega, rfl, rfl⟩
/-- What a filter that is handed in may be. -/
structure FlB (a : Nat) (n : Int) (b : Nat) (m p : Int) (l h u v : Nat) : Prop where
  a : a < 4294967296
  n0 : -9223372036854775808 ≤ n
  n1 : n ≤ 9223372036854775807
  b : b < 4294967296
  m0 : -9223372036854775808 ≤ m
  m1 : m ≤ 9223372036854775807
  p0 : -9223372036854775808 ≤ p
  p1 : p ≤ 9223372036854775807
  l : l < 65536
  h : h < 65536
  u : u < 65536
  v : v < 65536
set_option maxRecDepth 100000 in
theorem flt_cells {c0 c1 c2 c3 c4 c5 c6 c7 c8 : Value} {y : DataW H × List MemPlace} (hh : DataW.trod enc Try.prog W base sp held n 47 [c0, c1, c2, c3, c4, c5, c6, c7, c8] = some y) :
    ∃ (a : Nat) (n : Int) (b : Nat) (m p : Int) (l h u v : Nat), FlB a n b m p l h u v ∧ c0 = .int .u32 a ∧ c1 = .int .i64 n ∧ c2 = .int .u32 b ∧ c3 = .int .i64 m ∧ c4 = .int .i64 p ∧ c5 = .int .u16 l ∧ c6 = .int .u16 h ∧ c7 = .int .u16 u ∧ c8 = .int .u16 v := by
  obtain ⟨m0, y0, h0⟩ := trod_field Try.underlying47 hh 0 24 0 rfl
  obtain ⟨m1, y1, h1⟩ := trod_field Try.underlying47 hh 1 24 2 rfl
  obtain ⟨m2, y2, h2⟩ := trod_field Try.underlying47 hh 2 3 4 rfl
  obtain ⟨m3, y3, h3⟩ := trod_field Try.underlying47 hh 3 27 5 rfl
  obtain ⟨m4, y4, h4⟩ := trod_field Try.underlying47 hh 4 27 7 rfl
  simp only [cellsPre, cellsRng, cellsInt, List.drop_zero, List.drop_succ_cons, List.take_succ_cons, List.take_zero] at h0 h1 h2 h3 h4
  obtain ⟨a, n, ha, n0, n1, rfl, rfl⟩ := pre_cells h0
  obtain ⟨b, m, hb, m0, m1, rfl, rfl⟩ := pre_cells h1
  obtain ⟨p, rfl, wp⟩ := int_cell Try.underlying3 h2
  obtain ⟨l, h, hl, hk, rfl, rfl⟩ := rng_cells h3
  obtain ⟨u, v, hu, hv, rfl, rfl⟩ := rng_cells h4
  obtain ⟨p0, p1⟩ := bounds_i64 wp
  exact ⟨a, n, b, m, p, l, h, u, v, ⟨ha, n0, n1, hb, m0, m1, by omega, by omega, hl, hk, hu, hv⟩, rfl, rfl, rfl, rfl, rfl, rfl, rfl, rfl, rfl⟩
set_option maxRecDepth 100000 in
theorem flt_open {v0 : Value} {d : DataW H} {p0 : List MemPlace} (hv : Value.okWide Try.prog W .any base 47 v0) (hh : DataW.Trod enc Try.prog W 0 sp held 47 v0 d p0) :
    ∃ (a : Nat) (n : Int) (b : Nat) (m p : Int) (l h u v : Nat), FlB a n b m p l h u v ∧ v0 = fv a n b m p l h u v := by
  obtain ⟨cs, rfl, hsz⟩ := okWide_struct Try.underlying47 hv
  obtain ⟨c0, c1, c2, c3, c4, c5, c6, c7, c8, rfl⟩ := array9 (hsz.trans cellsFlt)
  obtain ⟨fuel, hf⟩ := hh
  obtain ⟨a, n, b, m, p, l, h, u, v, B, rfl, rfl, rfl, rfl, rfl, rfl, rfl, rfl, rfl⟩ := flt_cells (show DataW.trod enc Try.prog W 0 sp held fuel 47 [c0, c1, c2, c3, c4, c5, c6, c7, c8] = some (d, p0) by simpa [Value.cells] using hf)
  exact ⟨a, n, b, m, p, l, h, u, v, B, rfl⟩
end
end Go.Proofs.Ytggcbklififcgab
/- How a header that is handed in reads, and reads again. -/
namespace Go.Proofs.Ytggcbklififcgab
open Go.ChangeShapes Go.WideShapes Go.ChangeAt Go.RowKit Go.Joins Go.Deep Go.WideElems Go.Maps

theorem array5 {α : Type} {cs : Array α} (h : cs.size = 5) : ∃ c0 c1 c2 c3 c4, cs = #[c0, c1, c2, c3, c4] := by
  obtain ⟨l⟩ := cs
  match l, h with
  | [c0, c1, c2, c3, c4], _ => exact ⟨c0, c1, c2, c3, c4, rfl⟩
section
variable {H : Type} {enc : TypeId × Value → H} {P : Program} {w : World} {base : Nat} {spare : Nat → Bool} {held : Bool}
theorem open_agg5 {r : Reach} {b0 : Nat} {t : TypeId} {f0 f1 f2 f3 f4 : Field} {v : Value} {d : DataW H} {p : List MemPlace} (hs : P.underlying t = some (.struct #[f0, f1, f2, f3, f4])) (hone : oneCellFields P #[f0, f1, f2, f3, f4] = true) (hC : P.cellsOf t = 5)
    (hv : Value.okWide P w r b0 t v) (h : DataW.Trod enc P w base spare held t v d p) :
    ∃ (v0 v1 v2 v3 v4 : Value) (y0 y1 y2 y3 y4 : DataW H × List MemPlace) (n : Nat), v = .agg #[v0, v1, v2, v3, v4] ∧ d = .agg [y0.1, y1.1, y2.1, y3.1, y4.1] ∧ p = y0.2 ++ (y1.2 ++ (y2.2 ++ (y3.2 ++ y4.2))) ∧
      DataW.trod enc P w base spare held n f0.type [v0] = some y0 ∧ DataW.trod enc P w base spare held n f1.type [v1] = some y1 ∧ DataW.trod enc P w base spare held n f2.type [v2] = some y2 ∧ DataW.trod enc P w base spare held n f3.type [v3] = some y3 ∧ DataW.trod enc P w base spare held n f4.type [v4] = some y4 := by
  obtain ⟨cs, rfl, hsz⟩ := okWide_struct hs hv
  obtain ⟨c0, c1, c2, c3, c4, rfl⟩ := array5 (hsz.trans hC)
  obtain ⟨fuel, hf⟩ := h
  obtain ⟨xs, n, _, hx, hl, hlen, hf⟩ := DataW.trod_struct hs hf
  obtain ⟨o0, k0⟩ := hone_of hone 0 f0 rfl
  obtain ⟨o1, k1⟩ := hone_of hone 1 f1 rfl
  obtain ⟨o2, k2⟩ := hone_of hone 2 f2 rfl
  obtain ⟨o3, k3⟩ := hone_of hone 3 f3 rfl
  obtain ⟨o4, k4⟩ := hone_of hone 4 f4 rfl
  match xs, hlen, hx, hf with
  | [y0, y1, y2, y3, y4], _, hx, hf =>
    simp at hx
    exact ⟨c0, c1, c2, c3, c4, y0, y1, y2, y3, y4, n, rfl, hx.1, hx.2, by simpa [Value.cells, o0, k0] using hf 0 f0 rfl, by simpa [Value.cells, o1, k1] using hf 1 f1 rfl, by simpa [Value.cells, o2, k2] using hf 2 f2 rfl, by simpa [Value.cells, o3, k3] using hf 3 f3 rfl, by simpa [Value.cells, o4, k4] using hf 4 f4 rfl⟩
theorem shut_agg5 {t : TypeId} {f0 f1 f2 f3 f4 : Field} {v0 v1 v2 v3 v4 : Value} {n : Nat} {y0 y1 y2 y3 y4 : DataW H × List MemPlace} (hs : P.underlying t = some (.struct #[f0, f1, f2, f3, f4])) (hone : oneCellFields P #[f0, f1, f2, f3, f4] = true) (hC : P.cellsOf t = 5)
    (t0 : DataW.trod enc P w base spare held n f0.type [v0] = some y0) (t1 : DataW.trod enc P w base spare held n f1.type [v1] = some y1) (t2 : DataW.trod enc P w base spare held n f2.type [v2] = some y2) (t3 : DataW.trod enc P w base spare held n f3.type [v3] = some y3) (t4 : DataW.trod enc P w base spare held n f4.type [v4] = some y4) :
    DataW.Trod enc P w base spare held t (.agg #[v0, v1, v2, v3, v4]) (.agg [y0.1, y1.1, y2.1, y3.1, y4.1]) (y0.2 ++ (y1.2 ++ (y2.2 ++ (y3.2 ++ y4.2)))) := by
  obtain ⟨o0, k0⟩ := hone_of hone 0 f0 rfl
  obtain ⟨o1, k1⟩ := hone_of hone 1 f1 rfl
  obtain ⟨o2, k2⟩ := hone_of hone 2 f2 rfl
  obtain ⟨o3, k3⟩ := hone_of hone 3 f3 rfl
  obtain ⟨o4, k4⟩ := hone_of hone 4 f4 rfl
  have ts := trod_struct_mk (enc := enc) (w := w) (base := base) (spare := spare) (held := held) (n := n) (cs := [v0, v1, v2, v3, v4]) (xs := [y0, y1, y2, y3, y4]) hs (by simp [hC]) (by simp [o0, k0, o1, k1, o2, k2, o3, k3, o4, k4, t0, t1, t2, t3, t4])
  exact ⟨n + 1, by simpa [Value.cells] using ts⟩
end
theorem cellsHdr : Try.prog.cellsOf 29 = 5 := by kernel_rfl
set_option maxRecDepth 100000 in
theorem hdr_five {H : Type} {enc : TypeId × Value → H} {W : World} {base : Nat} {v : Value} {d : DataW H} {p : List MemPlace}
    (hv0 : Value.okWide Try.prog W .any base 29 v) (h : DataW.Trod enc Try.prog W 0 (fun _ => true) true 29 v d p) :
    ∃ x0 x1 x2 x3 x4 : Nat, x0 < 4294967296 ∧ x1 < 4294967296 ∧ x2 < 256 ∧ x3 < 65536 ∧ x4 < 65536 ∧ v = hv x0 x1 x2 x3 x4 ∧ p = [] ∧ ∀ (W' : World) (sp : Nat → Bool), DataW.Trod enc Try.prog W' 0 sp true 29 v d [] := by
  obtain ⟨c0, c1, c2, c3, c4, y0, y1, y2, y3, y4, m, rfl, rfl, rfl, g0, g1, g2, g3, g4⟩ := open_agg5 Try.underlying29 (by kernel_rfl) cellsHdr hv0 h
  obtain ⟨x0, e0, rfl, w0⟩ := DataW.trod_int Try.underlying22 g0
  obtain ⟨x1, e1, rfl, w1⟩ := DataW.trod_int Try.underlying22 g1
  obtain ⟨x2, e2, rfl, w2⟩ := DataW.trod_int Try.underlying5 g2
  obtain ⟨x3, e3, rfl, w3⟩ := DataW.trod_int Try.underlying25 g3
  obtain ⟨x4, e4, rfl, w4⟩ := DataW.trod_int Try.underlying25 g4
  simp at e0 e1 e2 e3 e4
  subst e0 e1 e2 e3 e4
  obtain ⟨l0, u0⟩ := bounds_u32 w0
  obtain ⟨l1, u1⟩ := bounds_u32 w1
  obtain ⟨l2, u2⟩ := bounds_u8 w2
  obtain ⟨l3, u3⟩ := bounds_u16 w3
  obtain ⟨l4, u4⟩ := bounds_u16 w4
  obtain ⟨x0, rfl⟩ := Int.eq_ofNat_of_zero_le l0
  obtain ⟨x1, rfl⟩ := Int.eq_ofNat_of_zero_le l1
  obtain ⟨x2, rfl⟩ := Int.eq_ofNat_of_zero_le l2
  obtain ⟨x3, rfl⟩ := Int.eq_ofNat_of_zero_le l3
  obtain ⟨x4, rfl⟩ := Int.eq_ofNat_of_zero_le l4
  refine ⟨x0, x1, x2, x3, x4, by omega, by omega, by omega, by omega, by omega, rfl, rfl, fun W' sp => ?_⟩
  exact shut_agg5 (n := 1) (y0 := (.lit (.int .u32 x0), [])) (y1 := (.lit (.int .u32 x1), [])) (y2 := (.lit (.int .u8 x2), [])) (y3 := (.lit (.int .u16 x3), [])) (y4 := (.lit (.int .u16 x4), [])) Try.underlying29 (by kernel_rfl) cellsHdr
    (by simp [DataW.trod, Try.underlying22, w0]) (by simp [DataW.trod, Try.underlying22, w1]) (by simp [DataW.trod, Try.underlying5, w2]) (by simp [DataW.trod, Try.underlying25, w3]) (by simp [DataW.trod, Try.underlying25, w4])
end Go.Proofs.Ytggcbklififcgab
