/- Texts joined, in their order: E12, E13, F1, F2, F3, F4, F5, P4. -/
import Derived.Test.YtggcbklififcgabGEncFields9
import Derived.Test.YtggcbklififcgabGEncFields0
import Derived.Test.YtggcbklififcgabGEncFields8
/- The set of a prefix; what Prefix and Range refuse. -/
namespace Go.Proofs.Ytggcbklififcgab
open Go.RowKit
set_option linter.unusedVariables false

set_option maxRecDepth 100000 in
set_option maxHeartbeats 4000000 in
theorem prefixD_any {Z : Nat → Prop} {p most : Nat} {W : World} {ns : List Nd} (hS : Sta Z p W most ns) (A k : Nat) (hA : A < 4294967296) (hk : k ≤ 32) (hr : rightB A (k : Nat) = true) :
    Calls Try.prog 10 #[.pointer (some ⟨p, 0, none⟩), .int .i64 0, pv A (k : Nat)] W (Got2 Z p most (cF most ns (fl A A 0 0 0 0 k)) W) := by
  have S0 := Lib.hid hS
  have CR := Lib.hid (fun w => cright_any A (k : Nat) hA w)
  rw [hr] at CR
  have CF := Lib.hid (fun w => first_at A A 0 0 0 ⟨by omega, by omega, by omega, by omega, by omega⟩ 0 k (by omega) w)
  have RI := Lib.hid (fl_rise A A 0 0 0 0 k (by omega))
  obtain ⟨l, hl⟩ : ∃ l, fl A A 0 0 0 0 k = l := ⟨_, rfl⟩
  rw [hl] at CF RI ⊢
  have CC := Lib.hid (fun (V w : World) (Z' : Nat → Prop) (base : Nat) (v : Value) (h : Sta Z' p w most ns) (hL : LitAt V base v l) (hH : Hold Z' V w) (hz : ∀ g, base ≤ g → g < V.heap.size → Z' g) => sCubeAt h RI.out hL hH hz)
  obtain ⟨R, hR⟩ : ∃ R, cF most ns l = R := ⟨_, rfl⟩
  rw [hR] at CC ⊢
  unfold Got2 at CC ⊢
  obtain ⟨r, hrr⟩ : ∃ r : Int, ((rv R.1 : Nat) : Int) = r := ⟨_, rfl⟩
  obtain ⟨er', her⟩ : ∃ x : Int, er R.1 = x := ⟨_, rfl⟩
  rw [hrr, her] at CC ⊢
  clear hR hrr her hS hr hl
  go_enter Try.func10, Try.ntmps10
  go_upto_region 5 with fail
  refine at_code (S := fun w => Blk w W.heap.size [.int .u32 (A : Nat), .int .i64 (k : Nat)] ∧ Below W.heap.size W w) ⟨Blk.new _ _ _, bel_al (Below.refl _ _) _⟩ (fun W1 hW => ?_)
  obtain ⟨hX, hb⟩ := hW
  obtain ⟨x_0, x_1⟩ : _ ∧ _ := ⟨hX.1 0 _ rfl, hX.1 1 _ rfl⟩
  have X1 := Lib.hid hX
  have B1 := Lib.hid hb
  clear hX hb
  go_wp2_with fail
  refine (CR.out _).mono ?_
  rintro e w2 ⟨rfl, hb⟩
  have X2 := X1.out.on hb
  have B2 := Lib.hid (bel_on' B1.out hb)
  clear x_0 x_1 X1 B1 hb CR
  obtain ⟨x_0, x_1⟩ : _ ∧ _ := ⟨X2.1 0 _ rfl, X2.1 1 _ rfl⟩
  clear X2
  go_wp2_with fail
  refine (CF.out _).mono ?_
  rintro e w3 ⟨v, rfl, hL, hb⟩
  have hb3 := bel_on' B2.out hb
  have C2 := Lib.hid (CC.out w3 w3 (fun k => Z k ∨ (W.heap.size ≤ k ∧ k < w3.heap.size)) W.heap.size v (S0.out.grow hb3 (fun k hk => hk)) (hL.base B2.out.size) (Keep.refl _ _) (fun g h1 h2 => Or.inr ⟨h1, h2⟩))
  have B3 := Lib.hid hb3
  clear hb hb3 hL x_0 x_1 B2 CF CC S0
  go_wp2_with fail
  refine C2.out.mono ?_
  rintro e w4 ⟨rfl, hS, hH⟩
  have S3 := Lib.hid (hS.less (fun k hk => Or.inl hk) : Sta Z p w4 most R.2)
  have H3 := Lib.hid ((Hold.of B3.out).trans (hH.less (fun k hk => Or.inl hk)) : Hold Z W w4)
  clear hS hH
  go_wp2
  go_ret2
  exact ⟨rfl, S3.out, H3.out⟩
set_option maxHeartbeats 1000000 in
theorem prefixD_bad (p : Nat) (A : Nat) (n : Int) (hA : A < 4294967296) (hr : rightB A n = false) (W : World) :
    Calls Try.prog 10 #[.pointer (some ⟨p, 0, none⟩), .int .i64 0, pv A n] W fun e w' => e = .returned (.tuple #[.int .i64 0, .int .i64 13]) ∧ Below W.heap.size W w' := by
  have CR := Lib.hid (fun w => cright_any A n hA w)
  rw [hr] at CR
  clear hr
  go_enter Try.func10, Try.ntmps10
  go_upto_region 5 with fail
  refine at_code (S := fun w => Blk w W.heap.size [.int .u32 (A : Nat), .int .i64 n] ∧ Below W.heap.size W w) ⟨Blk.new _ _ _, bel_al (Below.refl _ _) _⟩ (fun W1 hW => ?_)
  obtain ⟨hX, hb⟩ := hW
  obtain ⟨x_0, x_1⟩ : _ ∧ _ := ⟨hX.1 0 _ rfl, hX.1 1 _ rfl⟩
  have B1 := Lib.hid hb
  clear hX hb
  go_wp2_with fail
  refine (CR.out _).mono ?_
  rintro e w2 ⟨rfl, hb⟩
  have B2 := Lib.hid (bel_on' B1.out hb)
  clear hb CR x_0 x_1 B1
  go_wp2
  go_ret2
  exact ⟨rfl, B2.out⟩
set_option maxRecDepth 100000 in
set_option maxHeartbeats 4000000 in
theorem prefixS_any {Z : Nat → Prop} {p most : Nat} {W : World} {ns : List Nd} (hS : Sta Z p W most ns) (A k : Nat) (hA : A < 4294967296) (hk : k ≤ 32) (hr : rightB A (k : Nat) = true) :
    Calls Try.prog 10 #[.pointer (some ⟨p, 0, none⟩), .int .i64 32, pv A (k : Nat)] W (Got2 Z p most (cF most ns (fl A A 0 0 0 32 k)) W) := by
  have S0 := Lib.hid hS
  have CR := Lib.hid (fun w => cright_any A (k : Nat) hA w)
  rw [hr] at CR
  have CF := Lib.hid (fun w => first_at A A 0 0 0 ⟨by omega, by omega, by omega, by omega, by omega⟩ 32 k (by omega) w)
  have RI := Lib.hid (fl_rise A A 0 0 0 32 k (by omega))
  obtain ⟨l, hl⟩ : ∃ l, fl A A 0 0 0 32 k = l := ⟨_, rfl⟩
  rw [hl] at CF RI ⊢
  have CC := Lib.hid (fun (V w : World) (Z' : Nat → Prop) (base : Nat) (v : Value) (h : Sta Z' p w most ns) (hL : LitAt V base v l) (hH : Hold Z' V w) (hz : ∀ g, base ≤ g → g < V.heap.size → Z' g) => sCubeAt h RI.out hL hH hz)
  obtain ⟨R, hR⟩ : ∃ R, cF most ns l = R := ⟨_, rfl⟩
  rw [hR] at CC ⊢
  unfold Got2 at CC ⊢
  obtain ⟨r, hrr⟩ : ∃ r : Int, ((rv R.1 : Nat) : Int) = r := ⟨_, rfl⟩
  obtain ⟨er', her⟩ : ∃ x : Int, er R.1 = x := ⟨_, rfl⟩
  rw [hrr, her] at CC ⊢
  clear hR hrr her hS hr hl
  go_enter Try.func10, Try.ntmps10
  go_upto_region 5 with fail
  refine at_code (S := fun w => Blk w W.heap.size [.int .u32 (A : Nat), .int .i64 (k : Nat)] ∧ Below W.heap.size W w) ⟨Blk.new _ _ _, bel_al (Below.refl _ _) _⟩ (fun W1 hW => ?_)
  obtain ⟨hX, hb⟩ := hW
  obtain ⟨x_0, x_1⟩ : _ ∧ _ := ⟨hX.1 0 _ rfl, hX.1 1 _ rfl⟩
  have X1 := Lib.hid hX
  have B1 := Lib.hid hb
  clear hX hb
  go_wp2_with fail
  refine (CR.out _).mono ?_
  rintro e w2 ⟨rfl, hb⟩
  have X2 := X1.out.on hb
  have B2 := Lib.hid (bel_on' B1.out hb)
  clear x_0 x_1 X1 B1 hb CR
  obtain ⟨x_0, x_1⟩ : _ ∧ _ := ⟨X2.1 0 _ rfl, X2.1 1 _ rfl⟩
  clear X2
  go_wp2_with fail
  refine (CF.out _).mono ?_
  rintro e w3 ⟨v, rfl, hL, hb⟩
  have hb3 := bel_on' B2.out hb
  have C2 := Lib.hid (CC.out w3 w3 (fun k => Z k ∨ (W.heap.size ≤ k ∧ k < w3.heap.size)) W.heap.size v (S0.out.grow hb3 (fun k hk => hk)) (hL.base B2.out.size) (Keep.refl _ _) (fun g h1 h2 => Or.inr ⟨h1, h2⟩))
  have B3 := Lib.hid hb3
  clear hb hb3 hL x_0 x_1 B2 CF CC S0
  go_wp2_with fail
  refine C2.out.mono ?_
  rintro e w4 ⟨rfl, hS, hH⟩
  have S3 := Lib.hid (hS.less (fun k hk => Or.inl hk) : Sta Z p w4 most R.2)
  have H3 := Lib.hid ((Hold.of B3.out).trans (hH.less (fun k hk => Or.inl hk)) : Hold Z W w4)
  clear hS hH
  go_wp2
  go_ret2
  exact ⟨rfl, S3.out, H3.out⟩
set_option maxHeartbeats 1000000 in
theorem prefixS_bad (p : Nat) (A : Nat) (n : Int) (hA : A < 4294967296) (hr : rightB A n = false) (W : World) :
    Calls Try.prog 10 #[.pointer (some ⟨p, 0, none⟩), .int .i64 32, pv A n] W fun e w' => e = .returned (.tuple #[.int .i64 0, .int .i64 13]) ∧ Below W.heap.size W w' := by
  have CR := Lib.hid (fun w => cright_any A n hA w)
  rw [hr] at CR
  clear hr
  go_enter Try.func10, Try.ntmps10
  go_upto_region 5 with fail
  refine at_code (S := fun w => Blk w W.heap.size [.int .u32 (A : Nat), .int .i64 n] ∧ Below W.heap.size W w) ⟨Blk.new _ _ _, bel_al (Below.refl _ _) _⟩ (fun W1 hW => ?_)
  obtain ⟨hX, hb⟩ := hW
  obtain ⟨x_0, x_1⟩ : _ ∧ _ := ⟨hX.1 0 _ rfl, hX.1 1 _ rfl⟩
  have B1 := Lib.hid hb
  clear hX hb
  go_wp2_with fail
  refine (CR.out _).mono ?_
  rintro e w2 ⟨rfl, hb⟩
  have B2 := Lib.hid (bel_on' B1.out hb)
  clear hb CR x_0 x_1 B1
  go_wp2
  go_ret2
  exact ⟨rfl, B2.out⟩
set_option maxHeartbeats 1000000 in
theorem prefix_field (p : Nat) (f : Int) (h0 : f ≠ 0) (h1 : f ≠ 32) (v : Value) (hv : ∃ a n, v = .agg #[.int .u32 a, .int .i64 n]) (W : World) :
    Calls Try.prog 10 #[.pointer (some ⟨p, 0, none⟩), .int .i64 f, v] W fun e w' => e = .returned (.tuple #[.int .i64 0, .int .i64 1]) ∧ Below W.heap.size W w' := by
  obtain ⟨a, n, rfl⟩ := hv
  have e0 : (f != 0) = true := by simp [h0]
  have e1 : (f != 32) = true := by simp [h1]
  go_enter Try.func10, Try.ntmps10
  go_upto_region 1 with fail
  refine at_code (S := fun w => Below W.heap.size W w) (bel_al (Below.refl _ _) _) (fun W1 hW => ?_)
  have B1 := Lib.hid hW
  clear hW
  go_wp2
  go_ret2
  exact ⟨rfl, B1.out⟩
set_option maxHeartbeats 1000000 in
theorem range_field (p : Nat) (f : Int) (h0 : f ≠ 72) (h1 : f ≠ 88) (lo hi : Nat) (W : World) :
    Calls Try.prog 15 #[.pointer (some ⟨p, 0, none⟩), .int .i64 f, .agg #[.int .u16 (lo : Nat), .int .u16 (hi : Nat)]] W fun e w' => e = .returned (.tuple #[.int .i64 0, .int .i64 1]) ∧ Below W.heap.size W w' := by
  have e0 : (f != 72) = true := by simp [h0]
  have e1 : (f != 88) = true := by simp [h1]
  go_enter Try.func15, Try.ntmps15
  go_upto_region 1 with fail
  refine at_code (S := fun w => Below W.heap.size W w) (bel_al (Below.refl _ _) _) (fun W1 hW => ?_)
  have B1 := Lib.hid hW
  clear hW
  go_wp2
  go_ret2
  exact ⟨rfl, B1.out⟩
set_option maxHeartbeats 1000000 in
theorem range_bounds (p : Nat) (f : Nat) (hf : f = 72 ∨ f = 88) (lo hi : Nat) (hgt : hi < lo) (W : World) :
    Calls Try.prog 15 #[.pointer (some ⟨p, 0, none⟩), .int .i64 (f : Nat), .agg #[.int .u16 (lo : Nat), .int .u16 (hi : Nat)]] W fun e w' => e = .returned (.tuple #[.int .i64 0, .int .i64 14]) ∧ Below W.heap.size W w' := by
  have hgt' : (hi : Int) < (lo : Int) := by omega
  go_enter Try.func15, Try.ntmps15
  go_upto_region 1 with fail
  refine at_code (S := fun w => Blk w W.heap.size [.int .u16 (lo : Nat), .int .u16 (hi : Nat)] ∧ Below W.heap.size W w) ⟨Blk.new _ _ _, bel_al (Below.refl _ _) _⟩ (fun W1 hW => ?_)
  obtain ⟨hX, hb⟩ := hW
  obtain ⟨x_0, x_1⟩ : _ ∧ _ := ⟨hX.1 0 _ rfl, hX.1 1 _ rfl⟩
  have B1 := Lib.hid hb
  clear hX hb
  rcases hf with rfl | rfl
  · go_wp2
    go_ret2
    exact ⟨rfl, B1.out⟩
  · go_wp2
    go_ret2
    exact ⟨rfl, B1.out⟩
end Go.Proofs.Ytggcbklififcgab
/- The document's fields. -/
namespace Go.Proofs.Ytggcbklififcgab
open Go.RowKit
set_option linter.unusedVariables false

set_option maxHeartbeats 1000000 in
theorem raddr_dst (d s q x y : Nat) (w : World) : Calls Try.prog 9 #[hv d s q x y, .int .i64 0] w fun e w' => e = .returned (.tuple #[.int .u32 (d : Nat), .bool true]) ∧ Below w.heap.size w w' := by
  go_enter Try.func9, Try.ntmps9
  go_wp2
  go_ret2
  exact ⟨rfl, bel_al (Below.refl _ _) _⟩
set_option maxHeartbeats 1000000 in
theorem raddr_src (d s q x y : Nat) (w : World) : Calls Try.prog 9 #[hv d s q x y, .int .i64 32] w fun e w' => e = .returned (.tuple #[.int .u32 (s : Nat), .bool true]) ∧ Below w.heap.size w w' := by
  go_enter Try.func9, Try.ntmps9
  go_wp2
  go_ret2
  exact ⟨rfl, bel_al (Below.refl _ _) _⟩
set_option maxHeartbeats 1000000 in
theorem raddr_no (d s q x y : Nat) (f : Int) (h0 : f ≠ 0) (h1 : f ≠ 32) (w : World) : Calls Try.prog 9 #[hv d s q x y, .int .i64 f] w fun e w' => e = .returned (.tuple #[.int .u32 ((0 : Nat) : Int), .bool false]) ∧ Below w.heap.size w w' := by
  have e0 : (f == 0) = false := by simp [h0]
  have e1 : (f == 32) = false := by simp [h1]
  go_enter Try.func9, Try.ntmps9
  go_wp2
  go_ret2
  exact ⟨rfl, bel_al (Below.refl _ _) _⟩
set_option maxHeartbeats 1000000 in
theorem rport_s (d s q x y : Nat) (w : World) : Calls Try.prog 14 #[hv d s q x y, .int .i64 72] w fun e w' => e = .returned (.tuple #[.int .u16 (x : Nat), .bool true]) ∧ Below w.heap.size w w' := by
  go_enter Try.func14, Try.ntmps14
  go_wp2
  go_ret2
  exact ⟨rfl, bel_al (Below.refl _ _) _⟩
set_option maxHeartbeats 1000000 in
theorem rport_d (d s q x y : Nat) (w : World) : Calls Try.prog 14 #[hv d s q x y, .int .i64 88] w fun e w' => e = .returned (.tuple #[.int .u16 (y : Nat), .bool true]) ∧ Below w.heap.size w w' := by
  go_enter Try.func14, Try.ntmps14
  go_wp2
  go_ret2
  exact ⟨rfl, bel_al (Below.refl _ _) _⟩
set_option maxHeartbeats 1000000 in
theorem rport_no (d s q x y : Nat) (f : Int) (h0 : f ≠ 72) (h1 : f ≠ 88) (w : World) : Calls Try.prog 14 #[hv d s q x y, .int .i64 f] w fun e w' => e = .returned (.tuple #[.int .u16 ((0 : Nat) : Int), .bool false]) ∧ Below w.heap.size w w' := by
  have e0 : (f == 72) = false := by simp [h0]
  have e1 : (f == 88) = false := by simp [h1]
  go_enter Try.func14, Try.ntmps14
  go_wp2
  go_ret2
  exact ⟨rfl, bel_al (Below.refl _ _) _⟩
theorem Blk.hold {Z : Nat → Prop} {W w' : World} {b : Nat} {cs : List Value} (h : Blk W b cs) (hH : Hold Z W w') (hz : Z b) : Blk w' b cs := ⟨fun i v hv => hH.cell hz (h.1 i v hv), fun i v hv => (hH.frozen hz (h.1 i v hv)).trans (h.2 i v hv)⟩
/-- Three blocks that a law's arguments lie in. -/
def Fx (W : World) (cp cr ch : List Value) (V : World) : Prop := Blk V W.heap.size cp ∧ Blk V (W.heap.size + 1) cr ∧ Blk V (W.heap.size + 2) ch ∧ Below W.heap.size W V ∧ W.heap.size + 3 ≤ V.heap.size
theorem Fx.on {W V V' : World} {cp cr ch : List Value} (h : Fx W cp cr ch V) (hb : Below V.heap.size V V') : Fx W cp cr ch V' := by
  obtain ⟨h1, h2, h3, h4, h5⟩ := h
  exact ⟨h1.on hb, h2.on hb, h3.on hb, bel_on' h4 hb, by have := hb.size; omega⟩
theorem Fx.hold {Z : Nat → Prop} {W V V' : World} {cp cr ch : List Value} (h : Fx W cp cr ch V) (hH : Hold Z V V') (hz : ∀ k, k < W.heap.size + 3 → Z k) : Fx W cp cr ch V' := by
  obtain ⟨h1, h2, h3, h4, h5⟩ := h
  exact ⟨h1.hold hH (hz _ (by omega)), h2.hold hH (hz _ (by omega)), h3.hold hH (hz _ (by omega)), h4.trans (hH.below (by omega) (fun k hk => hz k (by omega))), by have := hH.size; omega⟩
end Go.Proofs.Ytggcbklififcgab
/- EncFields's walk, way by way. -/
namespace Go.Proofs.Ytggcbklififcgab
open Go.RowKit
set_option linter.unusedVariables false

set_option maxRecDepth 100000 in
set_option maxHeartbeats 8000000 in
theorem ef_bad {PP PR : Nat → List Nd → Prop} (f : Int) (A : Nat) (n : Int) (lo hi d s q x y xa yb : Nat)  (W : World)
    (CA : Hid (∀ w, Calls Try.prog 9 #[hv d s q x y, .int .i64 f] w fun e w' => e = .returned (.tuple #[.int .u32 (xa : Nat), .bool true]) ∧ Below w.heap.size w w'))
    (CB : Hid (∀ w, Calls Try.prog 14 #[hv d s q x y, .int .i64 f] w fun e w' => e = .returned (.tuple #[.int .u16 (yb : Nat), .bool false]) ∧ Below w.heap.size w w'))
    (CPx : Hid (∀ Z p w, Sta Z p w 262144 [bot, top] → Calls Try.prog 10 #[.pointer (some ⟨p, 0, none⟩), .int .i64 f, pv A n] w fun e w' => ∃ (g : Nat) (ns1 : List Nd), e = .returned (.tuple #[.int .i64 (g : Nat), .int .i64 13]) ∧ Sta Z p w' 262144 ns1 ∧ Hold Z w w' ∧ PP g ns1))
    (CRg : Hid (∀ Z p w g ns1, PP g ns1 → Sta Z p w 262144 ns1 → Calls Try.prog 15 #[.pointer (some ⟨p, 0, none⟩), .int .i64 f, .agg #[.int .u16 (lo : Nat), .int .u16 (hi : Nat)]] w fun e w' => ∃ (g : Nat) (ns2 : List Nd), e = .returned (.tuple #[.int .i64 (g : Nat), .int .i64 1]) ∧ Sta Z p w' 262144 ns2 ∧ Hold Z w w' ∧ PR g ns2))
    (CRi : Hid (∀ w, Calls Try.prog 11 #[pv A n] w fun e w' => e = .returned (.bool false) ∧ Below w.heap.size w w')) :
    Calls Try.prog 3 #[.int .i64 f, pv A n, .agg #[.int .u16 (lo : Nat), .int .u16 (hi : Nat)], hv d s q x y] W fun e w' => e = .returned (.bool true) ∧ Below W.heap.size W w' := by
  have CN := Lib.hid (fun w => sNew 262144 (by omega) (by omega) w)
  have CW := Lib.hid (fun w => awake_any w)
  go_enter Try.func3, Try.ntmps3
  go_upto_region 1 with fail
  refine at_code (S := Fx W [.int .u32 (A : Nat), .int .i64 n] [.int .u16 (lo : Nat), .int .u16 (hi : Nat)] [.int .u32 (d : Nat), .int .u32 (s : Nat), .int .u8 (q : Nat), .int .u16 (x : Nat), .int .u16 (y : Nat)]) ⟨?_, ?_, ?_, bel_al (bel_al (bel_al (Below.refl _ _) _) _) _, by simp⟩ (fun W1 hW => ?_)
  · exact (Blk.new W _ [.int .u32 (A : Nat), .int .i64 n]).on (bel_al (bel_al (Below.refl _ _) _) _)
  · have k := Blk.new (W.alloc (.cells #[.int .u32 (A : Nat), .int .i64 n] 24)) 27 [.int .u16 (lo : Nat), .int .u16 (hi : Nat)]
    rw [World.size_alloc] at k
    exact k.on (bel_al (Below.refl _ _) _)
  · have k := Blk.new ((W.alloc (.cells #[.int .u32 (A : Nat), .int .i64 n] 24)).alloc (.cells #[.int .u16 (lo : Nat), .int .u16 (hi : Nat)] 27)) 29 [.int .u32 (d : Nat), .int .u32 (s : Nat), .int .u8 (q : Nat), .int .u16 (x : Nat), .int .u16 (y : Nat)]
    rw [World.size_alloc, World.size_alloc] at k
    exact k
  have X1 := Lib.hid hW
  clear hW
  go_wp2_with fail
  refine (CN.out _).mono ?_
  rintro e w2 ⟨p, rfl, hS, hb⟩
  obtain ⟨Z, hZ⟩ : ∃ Z : Nat → Prop, (fun k => k < W1.heap.size) = Z := ⟨_, rfl⟩
  rw [hZ] at hS
  have HZ : Hid (∀ k, k < W.heap.size + 3 → Z k) := Lib.hid (by rw [← hZ]; intro k hk; have := X1.out.2.2.2.2; show k < W1.heap.size; omega)
  have S2 := Lib.hid hS
  have X2 := Lib.hid (X1.out.on hb)
  clear hS hb CN hZ X1
  obtain ⟨h_0, h_1, h_2, h_3, h_4⟩ : _ ∧ _ ∧ _ ∧ _ ∧ _ := ⟨X2.out.2.2.1.1 0 _ rfl, X2.out.2.2.1.1 1 _ rfl, X2.out.2.2.1.1 2 _ rfl, X2.out.2.2.1.1 3 _ rfl, X2.out.2.2.1.1 4 _ rfl⟩
  go_wp2_with fail
  refine (CA.out _).mono ?_
  rintro e w3 ⟨rfl, hb⟩
  have S3 := Lib.hid (S2.out.on hb)
  have X3 := Lib.hid (X2.out.on hb)
  clear hb CA S2 X2
  clear h_0 h_1 h_2 h_3 h_4
  obtain ⟨p_0, p_1⟩ : _ ∧ _ := ⟨X3.out.1.1 0 _ rfl, X3.out.1.1 1 _ rfl⟩
  go_wp2_with fail
  refine (CPx.out Z p w3 S3.out).mono ?_
  rintro e w4 ⟨g, ns1, rfl, hS, hH, hP⟩
  have S4 := Lib.hid hS
  have X4 := Lib.hid (X3.out.hold hH HZ.out)
  have P4 := Lib.hid hP
  clear hS hH hP CPx S3 X3
  clear p_0 p_1
  obtain ⟨p_0, p_1⟩ : _ ∧ _ := ⟨X4.out.1.1 0 _ rfl, X4.out.1.1 1 _ rfl⟩
  go_wp2_with fail
  refine (CRi.out _).mono ?_
  rintro e w5 ⟨rfl, hb⟩
  have S5 := Lib.hid (S4.out.on hb)
  have X5 := Lib.hid (X4.out.on hb)
  clear hb CRi S4 X4
  clear p_0 p_1
  obtain ⟨h_0, h_1, h_2, h_3, h_4⟩ : _ ∧ _ ∧ _ ∧ _ ∧ _ := ⟨X5.out.2.2.1.1 0 _ rfl, X5.out.2.2.1.1 1 _ rfl, X5.out.2.2.1.1 2 _ rfl, X5.out.2.2.1.1 3 _ rfl, X5.out.2.2.1.1 4 _ rfl⟩
  go_wp2_with fail
  refine (CB.out _).mono ?_
  rintro e w8 ⟨rfl, hb⟩
  have S8 := Lib.hid (S5.out.on hb)
  have X8 := Lib.hid (X5.out.on hb)
  clear hb CB S5 X5
  clear h_0 h_1 h_2 h_3 h_4
  obtain ⟨r_0, r_1⟩ : _ ∧ _ := ⟨X8.out.2.1.1 0 _ rfl, X8.out.2.1.1 1 _ rfl⟩
  go_wp2_with fail
  refine (CRg.out Z p w8 g ns1 P4.out S8.out).mono ?_
  rintro e w9 ⟨g2, ns2, rfl, hS, hH, hR⟩
  have S9 := Lib.hid hS
  have X9 := Lib.hid (X8.out.hold hH HZ.out)
  have R9 := Lib.hid hR
  clear hS hH hR CRg S8 X8 P4
  clear r_0 r_1
  obtain ⟨r_0, r_1⟩ : _ ∧ _ := ⟨X9.out.2.1.1 0 _ rfl, X9.out.2.1.1 1 _ rfl⟩
  obtain ⟨h_0, h_1, h_2, h_3, h_4⟩ : _ ∧ _ ∧ _ ∧ _ ∧ _ := ⟨X9.out.2.2.1.1 0 _ rfl, X9.out.2.2.1.1 1 _ rfl, X9.out.2.2.1.1 2 _ rfl, X9.out.2.2.1.1 3 _ rfl, X9.out.2.2.1.1 4 _ rfl⟩
  go_wp2_with fail
  refine (CW.out _).mono ?_
  rintro e wa ⟨rfl, hbx⟩
  have FIN := Lib.hid (bel_on' X9.out.2.2.2.1 hbx)
  clear hbx
  go_wp2
  go_ret
  exact ⟨rfl, FIN.out⟩
end Go.Proofs.Ytggcbklififcgab
/- EncFields's walk, way by way. -/
namespace Go.Proofs.Ytggcbklififcgab
open Go.RowKit
set_option linter.unusedVariables false

set_option maxRecDepth 100000 in
set_option maxHeartbeats 8000000 in
theorem ef_pre {PP PR : Nat → List Nd → Prop} (f : Int) (A : Nat) (n : Int) (lo hi d s q x y xa yb : Nat) (T : Bool) (W : World)
    (CA : Hid (∀ w, Calls Try.prog 9 #[hv d s q x y, .int .i64 f] w fun e w' => e = .returned (.tuple #[.int .u32 (xa : Nat), .bool true]) ∧ Below w.heap.size w w'))
    (CB : Hid (∀ w, Calls Try.prog 14 #[hv d s q x y, .int .i64 f] w fun e w' => e = .returned (.tuple #[.int .u16 (yb : Nat), .bool false]) ∧ Below w.heap.size w w'))
    (CPx : Hid (∀ Z p w, Sta Z p w 262144 [bot, top] → Calls Try.prog 10 #[.pointer (some ⟨p, 0, none⟩), .int .i64 f, pv A n] w fun e w' => ∃ (g : Nat) (ns1 : List Nd), e = .returned (.tuple #[.int .i64 (g : Nat), .int .i64 0]) ∧ Sta Z p w' 262144 ns1 ∧ Hold Z w w' ∧ PP g ns1))
    (CRg : Hid (∀ Z p w g ns1, PP g ns1 → Sta Z p w 262144 ns1 → Calls Try.prog 15 #[.pointer (some ⟨p, 0, none⟩), .int .i64 f, .agg #[.int .u16 (lo : Nat), .int .u16 (hi : Nat)]] w fun e w' => ∃ (g : Nat) (ns2 : List Nd), e = .returned (.tuple #[.int .i64 (g : Nat), .int .i64 1]) ∧ Sta Z p w' 262144 ns2 ∧ Hold Z w w' ∧ PR g ns2))
    (CRi : Hid (∀ w, Calls Try.prog 11 #[pv A n] w fun e w' => e = .returned (.bool true) ∧ Below w.heap.size w w'))
    (CIn : Hid (∀ Z p w g ns1, PP g ns1 → Sta Z p w 262144 ns1 → Calls Try.prog 12 #[.pointer (some ⟨p, 0, none⟩), .int .i64 (g : Nat), hv d s q x y] w fun e w' => e = .returned (.bool T) ∧ Below w.heap.size w w'))
    (CHa : Hid (∀ w, Calls Try.prog 13 #[pv A n, .int .u32 (xa : Nat)] w fun e w' => e = .returned (.bool T) ∧ Below w.heap.size w w')) :
    Calls Try.prog 3 #[.int .i64 f, pv A n, .agg #[.int .u16 (lo : Nat), .int .u16 (hi : Nat)], hv d s q x y] W fun e w' => e = .returned (.bool true) ∧ Below W.heap.size W w' := by
  have CN := Lib.hid (fun w => sNew 262144 (by omega) (by omega) w)
  have CW := Lib.hid (fun w => awake_any w)
  go_enter Try.func3, Try.ntmps3
  go_upto_region 1 with fail
  refine at_code (S := Fx W [.int .u32 (A : Nat), .int .i64 n] [.int .u16 (lo : Nat), .int .u16 (hi : Nat)] [.int .u32 (d : Nat), .int .u32 (s : Nat), .int .u8 (q : Nat), .int .u16 (x : Nat), .int .u16 (y : Nat)]) ⟨?_, ?_, ?_, bel_al (bel_al (bel_al (Below.refl _ _) _) _) _, by simp⟩ (fun W1 hW => ?_)
  · exact (Blk.new W _ [.int .u32 (A : Nat), .int .i64 n]).on (bel_al (bel_al (Below.refl _ _) _) _)
  · have k := Blk.new (W.alloc (.cells #[.int .u32 (A : Nat), .int .i64 n] 24)) 27 [.int .u16 (lo : Nat), .int .u16 (hi : Nat)]
    rw [World.size_alloc] at k
    exact k.on (bel_al (Below.refl _ _) _)
  · have k := Blk.new ((W.alloc (.cells #[.int .u32 (A : Nat), .int .i64 n] 24)).alloc (.cells #[.int .u16 (lo : Nat), .int .u16 (hi : Nat)] 27)) 29 [.int .u32 (d : Nat), .int .u32 (s : Nat), .int .u8 (q : Nat), .int .u16 (x : Nat), .int .u16 (y : Nat)]
    rw [World.size_alloc, World.size_alloc] at k
    exact k
  have X1 := Lib.hid hW
  clear hW
  go_wp2_with fail
  refine (CN.out _).mono ?_
  rintro e w2 ⟨p, rfl, hS, hb⟩
  obtain ⟨Z, hZ⟩ : ∃ Z : Nat → Prop, (fun k => k < W1.heap.size) = Z := ⟨_, rfl⟩
  rw [hZ] at hS
  have HZ : Hid (∀ k, k < W.heap.size + 3 → Z k) := Lib.hid (by rw [← hZ]; intro k hk; have := X1.out.2.2.2.2; show k < W1.heap.size; omega)
  have S2 := Lib.hid hS
  have X2 := Lib.hid (X1.out.on hb)
  clear hS hb CN hZ X1
  obtain ⟨h_0, h_1, h_2, h_3, h_4⟩ : _ ∧ _ ∧ _ ∧ _ ∧ _ := ⟨X2.out.2.2.1.1 0 _ rfl, X2.out.2.2.1.1 1 _ rfl, X2.out.2.2.1.1 2 _ rfl, X2.out.2.2.1.1 3 _ rfl, X2.out.2.2.1.1 4 _ rfl⟩
  go_wp2_with fail
  refine (CA.out _).mono ?_
  rintro e w3 ⟨rfl, hb⟩
  have S3 := Lib.hid (S2.out.on hb)
  have X3 := Lib.hid (X2.out.on hb)
  clear hb CA S2 X2
  clear h_0 h_1 h_2 h_3 h_4
  obtain ⟨p_0, p_1⟩ : _ ∧ _ := ⟨X3.out.1.1 0 _ rfl, X3.out.1.1 1 _ rfl⟩
  go_wp2_with fail
  refine (CPx.out Z p w3 S3.out).mono ?_
  rintro e w4 ⟨g, ns1, rfl, hS, hH, hP⟩
  have S4 := Lib.hid hS
  have X4 := Lib.hid (X3.out.hold hH HZ.out)
  have P4 := Lib.hid hP
  clear hS hH hP CPx S3 X3
  clear p_0 p_1
  obtain ⟨p_0, p_1⟩ : _ ∧ _ := ⟨X4.out.1.1 0 _ rfl, X4.out.1.1 1 _ rfl⟩
  go_wp2_with fail
  refine (CRi.out _).mono ?_
  rintro e w5 ⟨rfl, hb⟩
  have S5 := Lib.hid (S4.out.on hb)
  have X5 := Lib.hid (X4.out.on hb)
  clear hb CRi S4 X4
  clear p_0 p_1
  obtain ⟨p_0, p_1⟩ : _ ∧ _ := ⟨X5.out.1.1 0 _ rfl, X5.out.1.1 1 _ rfl⟩
  obtain ⟨h_0, h_1, h_2, h_3, h_4⟩ : _ ∧ _ ∧ _ ∧ _ ∧ _ := ⟨X5.out.2.2.1.1 0 _ rfl, X5.out.2.2.1.1 1 _ rfl, X5.out.2.2.1.1 2 _ rfl, X5.out.2.2.1.1 3 _ rfl, X5.out.2.2.1.1 4 _ rfl⟩
  go_wp2_with fail
  refine wp_region_noPanic ?_
  refine wp_region_along (S := fun w' => Below w5.heap.size w5 w' ∧ ∀ b o, (w5.cell? ⟨b, o, none⟩).isSome = true → w'.cell? ⟨b, o, none⟩ = w5.cell? ⟨b, o, none⟩) ([(0, true), (1, true), (2, true), (3, true), (4, true), (5, true), (7, true), (8, true), (6, false), (9, false), (10, true), (11, true), (12, true)]) (by kernel_rfl) (by as_aux_lemma => kernel_rfl) (by kernel_rfl) (by kernel_rfl) (by as_aux_lemma => kernel_rfl) (by as_aux_lemma => kernel_rfl) (fun _ _ _ _ _ h => h) (below_kb (Below.refl _ _).drew) (fun hH => ?_)
  simp only [stepsOf, pickOp]
  iterate 8 (first | (refine along_skip (by rfl) ?_; try simp only [Act.put, List.setIfInBounds_toArray, List.set_cons_zero, List.set_cons_succ]) | (refine along_pure ?_ (by rfl) (fun w hSw => ?_) ?_; rotate_left; ((try dsimp only at hSw); go_simp; try with_reducible rfl); try simp only [Act.put, List.setIfInBounds_toArray, List.set_cons_zero, List.set_cons_succ]))
  refine along_bar (fun K hK => ?_)
  go_simp
  refine (CIn.out Z p w5.drew g ns1 P4.out (S5.out.on (Below.refl _ _).drew)).mono ?_
  rintro e w6 ⟨rfl, hbx⟩
  try go_wp2_with fail
  refine hK.out _ _ (below_kb (below_on hH.1 hbx)) (fun hH' => ?_)
  clear hK K hH
  have hH := hH'
  clear hH'
  clear hbx
  try simp only [Act.put, List.setIfInBounds_toArray, List.set_cons_zero, List.set_cons_succ]
  refine along_bar (fun K hK => ?_)
  go_simp
  refine (CHa.out _).mono ?_
  rintro e w7 ⟨rfl, hbx⟩
  try go_wp2_with fail
  refine hK.out _ _ (below_kb (below_on hH.1 hbx)) (fun hH' => ?_)
  clear hK K hH
  have hH := hH'
  clear hH'
  clear hbx
  try simp only [Act.put, List.setIfInBounds_toArray, List.set_cons_zero, List.set_cons_succ]
  iterate 3 (first | (refine along_skip (by rfl) ?_; try simp only [Act.put, List.setIfInBounds_toArray, List.set_cons_zero, List.set_cons_succ]) | (refine along_pure ?_ (by rfl) (fun w hSw => ?_) ?_; rotate_left; ((try dsimp only at hSw); go_simp; try with_reducible rfl); try simp only [Act.put, List.setIfInBounds_toArray, List.set_cons_zero, List.set_cons_succ]))
  refine along_end (NoPanic.normal ?_)
  have S7 := Lib.hid (S5.out.on hH.1)
  have X7 := Lib.hid (X5.out.on hH.1)
  clear hH S5 X5 CIn CHa p_0 p_1 h_0 h_1 h_2 h_3 h_4
  have hTT : (T != T) = false := by cases T <;> rfl
  obtain ⟨h_0, h_1, h_2, h_3, h_4⟩ : _ ∧ _ ∧ _ ∧ _ ∧ _ := ⟨X7.out.2.2.1.1 0 _ rfl, X7.out.2.2.1.1 1 _ rfl, X7.out.2.2.1.1 2 _ rfl, X7.out.2.2.1.1 3 _ rfl, X7.out.2.2.1.1 4 _ rfl⟩
  go_wp2_with fail
  refine (CB.out _).mono ?_
  rintro e w8 ⟨rfl, hb⟩
  have S8 := Lib.hid (S7.out.on hb)
  have X8 := Lib.hid (X7.out.on hb)
  clear hb CB S7 X7
  clear h_0 h_1 h_2 h_3 h_4
  obtain ⟨r_0, r_1⟩ : _ ∧ _ := ⟨X8.out.2.1.1 0 _ rfl, X8.out.2.1.1 1 _ rfl⟩
  go_wp2_with fail
  refine (CRg.out Z p w8 g ns1 P4.out S8.out).mono ?_
  rintro e w9 ⟨g2, ns2, rfl, hS, hH, hR⟩
  have S9 := Lib.hid hS
  have X9 := Lib.hid (X8.out.hold hH HZ.out)
  have R9 := Lib.hid hR
  clear hS hH hR CRg S8 X8 P4
  clear r_0 r_1
  obtain ⟨r_0, r_1⟩ : _ ∧ _ := ⟨X9.out.2.1.1 0 _ rfl, X9.out.2.1.1 1 _ rfl⟩
  obtain ⟨h_0, h_1, h_2, h_3, h_4⟩ : _ ∧ _ ∧ _ ∧ _ ∧ _ := ⟨X9.out.2.2.1.1 0 _ rfl, X9.out.2.2.1.1 1 _ rfl, X9.out.2.2.1.1 2 _ rfl, X9.out.2.2.1.1 3 _ rfl, X9.out.2.2.1.1 4 _ rfl⟩
  go_wp2_with fail
  refine (CW.out _).mono ?_
  rintro e wa ⟨rfl, hbx⟩
  have FIN := Lib.hid (bel_on' X9.out.2.2.2.1 hbx)
  clear hbx
  go_wp2
  go_ret
  exact ⟨rfl, FIN.out⟩
end Go.Proofs.Ytggcbklififcgab
/- EncFields's walk, way by way. -/
namespace Go.Proofs.Ytggcbklififcgab
open Go.RowKit
set_option linter.unusedVariables false

set_option maxRecDepth 100000 in
set_option maxHeartbeats 8000000 in
theorem ef_none {PP PR : Nat → List Nd → Prop} (f : Int) (A : Nat) (n : Int) (lo hi d s q x y xa yb : Nat)  (W : World)
    (CA : Hid (∀ w, Calls Try.prog 9 #[hv d s q x y, .int .i64 f] w fun e w' => e = .returned (.tuple #[.int .u32 (xa : Nat), .bool false]) ∧ Below w.heap.size w w'))
    (CB : Hid (∀ w, Calls Try.prog 14 #[hv d s q x y, .int .i64 f] w fun e w' => e = .returned (.tuple #[.int .u16 (yb : Nat), .bool false]) ∧ Below w.heap.size w w'))
    (CPx : Hid (∀ Z p w, Sta Z p w 262144 [bot, top] → Calls Try.prog 10 #[.pointer (some ⟨p, 0, none⟩), .int .i64 f, pv A n] w fun e w' => ∃ (g : Nat) (ns1 : List Nd), e = .returned (.tuple #[.int .i64 (g : Nat), .int .i64 1]) ∧ Sta Z p w' 262144 ns1 ∧ Hold Z w w' ∧ PP g ns1))
    (CRg : Hid (∀ Z p w g ns1, PP g ns1 → Sta Z p w 262144 ns1 → Calls Try.prog 15 #[.pointer (some ⟨p, 0, none⟩), .int .i64 f, .agg #[.int .u16 (lo : Nat), .int .u16 (hi : Nat)]] w fun e w' => ∃ (g : Nat) (ns2 : List Nd), e = .returned (.tuple #[.int .i64 (g : Nat), .int .i64 1]) ∧ Sta Z p w' 262144 ns2 ∧ Hold Z w w' ∧ PR g ns2)) :
    Calls Try.prog 3 #[.int .i64 f, pv A n, .agg #[.int .u16 (lo : Nat), .int .u16 (hi : Nat)], hv d s q x y] W fun e w' => e = .returned (.bool true) ∧ Below W.heap.size W w' := by
  have CN := Lib.hid (fun w => sNew 262144 (by omega) (by omega) w)
  have CW := Lib.hid (fun w => awake_any w)
  go_enter Try.func3, Try.ntmps3
  go_upto_region 1 with fail
  refine at_code (S := Fx W [.int .u32 (A : Nat), .int .i64 n] [.int .u16 (lo : Nat), .int .u16 (hi : Nat)] [.int .u32 (d : Nat), .int .u32 (s : Nat), .int .u8 (q : Nat), .int .u16 (x : Nat), .int .u16 (y : Nat)]) ⟨?_, ?_, ?_, bel_al (bel_al (bel_al (Below.refl _ _) _) _) _, by simp⟩ (fun W1 hW => ?_)
  · exact (Blk.new W _ [.int .u32 (A : Nat), .int .i64 n]).on (bel_al (bel_al (Below.refl _ _) _) _)
  · have k := Blk.new (W.alloc (.cells #[.int .u32 (A : Nat), .int .i64 n] 24)) 27 [.int .u16 (lo : Nat), .int .u16 (hi : Nat)]
    rw [World.size_alloc] at k
    exact k.on (bel_al (Below.refl _ _) _)
  · have k := Blk.new ((W.alloc (.cells #[.int .u32 (A : Nat), .int .i64 n] 24)).alloc (.cells #[.int .u16 (lo : Nat), .int .u16 (hi : Nat)] 27)) 29 [.int .u32 (d : Nat), .int .u32 (s : Nat), .int .u8 (q : Nat), .int .u16 (x : Nat), .int .u16 (y : Nat)]
    rw [World.size_alloc, World.size_alloc] at k
    exact k
  have X1 := Lib.hid hW
  clear hW
  go_wp2_with fail
  refine (CN.out _).mono ?_
  rintro e w2 ⟨p, rfl, hS, hb⟩
  obtain ⟨Z, hZ⟩ : ∃ Z : Nat → Prop, (fun k => k < W1.heap.size) = Z := ⟨_, rfl⟩
  rw [hZ] at hS
  have HZ : Hid (∀ k, k < W.heap.size + 3 → Z k) := Lib.hid (by rw [← hZ]; intro k hk; have := X1.out.2.2.2.2; show k < W1.heap.size; omega)
  have S2 := Lib.hid hS
  have X2 := Lib.hid (X1.out.on hb)
  clear hS hb CN hZ X1
  obtain ⟨h_0, h_1, h_2, h_3, h_4⟩ : _ ∧ _ ∧ _ ∧ _ ∧ _ := ⟨X2.out.2.2.1.1 0 _ rfl, X2.out.2.2.1.1 1 _ rfl, X2.out.2.2.1.1 2 _ rfl, X2.out.2.2.1.1 3 _ rfl, X2.out.2.2.1.1 4 _ rfl⟩
  go_wp2_with fail
  refine (CA.out _).mono ?_
  rintro e w3 ⟨rfl, hb⟩
  have S3 := Lib.hid (S2.out.on hb)
  have X3 := Lib.hid (X2.out.on hb)
  clear hb CA S2 X2
  clear h_0 h_1 h_2 h_3 h_4
  obtain ⟨p_0, p_1⟩ : _ ∧ _ := ⟨X3.out.1.1 0 _ rfl, X3.out.1.1 1 _ rfl⟩
  go_wp2_with fail
  refine (CPx.out Z p w3 S3.out).mono ?_
  rintro e w4 ⟨g, ns1, rfl, hS, hH, hP⟩
  have S4 := Lib.hid hS
  have X4 := Lib.hid (X3.out.hold hH HZ.out)
  have P4 := Lib.hid hP
  clear hS hH hP CPx S3 X3
  clear p_0 p_1
  obtain ⟨h_0, h_1, h_2, h_3, h_4⟩ : _ ∧ _ ∧ _ ∧ _ ∧ _ := ⟨X4.out.2.2.1.1 0 _ rfl, X4.out.2.2.1.1 1 _ rfl, X4.out.2.2.1.1 2 _ rfl, X4.out.2.2.1.1 3 _ rfl, X4.out.2.2.1.1 4 _ rfl⟩
  go_wp2_with fail
  refine (CB.out _).mono ?_
  rintro e w8 ⟨rfl, hb⟩
  have S8 := Lib.hid (S4.out.on hb)
  have X8 := Lib.hid (X4.out.on hb)
  clear hb CB S4 X4
  clear h_0 h_1 h_2 h_3 h_4
  obtain ⟨r_0, r_1⟩ : _ ∧ _ := ⟨X8.out.2.1.1 0 _ rfl, X8.out.2.1.1 1 _ rfl⟩
  go_wp2_with fail
  refine (CRg.out Z p w8 g ns1 P4.out S8.out).mono ?_
  rintro e w9 ⟨g2, ns2, rfl, hS, hH, hR⟩
  have S9 := Lib.hid hS
  have X9 := Lib.hid (X8.out.hold hH HZ.out)
  have R9 := Lib.hid hR
  clear hS hH hR CRg S8 X8 P4
  clear r_0 r_1
  obtain ⟨r_0, r_1⟩ : _ ∧ _ := ⟨X9.out.2.1.1 0 _ rfl, X9.out.2.1.1 1 _ rfl⟩
  obtain ⟨h_0, h_1, h_2, h_3, h_4⟩ : _ ∧ _ ∧ _ ∧ _ ∧ _ := ⟨X9.out.2.2.1.1 0 _ rfl, X9.out.2.2.1.1 1 _ rfl, X9.out.2.2.1.1 2 _ rfl, X9.out.2.2.1.1 3 _ rfl, X9.out.2.2.1.1 4 _ rfl⟩
  go_wp2_with fail
  refine (CW.out _).mono ?_
  rintro e wa ⟨rfl, hbx⟩
  have FIN := Lib.hid (bel_on' X9.out.2.2.2.1 hbx)
  clear hbx
  go_wp2
  go_ret
  exact ⟨rfl, FIN.out⟩
set_option maxRecDepth 100000 in
set_option maxHeartbeats 8000000 in
theorem ef_bounds {PP PR : Nat → List Nd → Prop} (f : Int) (A : Nat) (n : Int) (lo hi d s q x y xa yb : Nat) (hgt : (hi : Int) < (lo : Int)) (W : World)
    (CA : Hid (∀ w, Calls Try.prog 9 #[hv d s q x y, .int .i64 f] w fun e w' => e = .returned (.tuple #[.int .u32 (xa : Nat), .bool false]) ∧ Below w.heap.size w w'))
    (CB : Hid (∀ w, Calls Try.prog 14 #[hv d s q x y, .int .i64 f] w fun e w' => e = .returned (.tuple #[.int .u16 (yb : Nat), .bool true]) ∧ Below w.heap.size w w'))
    (CPx : Hid (∀ Z p w, Sta Z p w 262144 [bot, top] → Calls Try.prog 10 #[.pointer (some ⟨p, 0, none⟩), .int .i64 f, pv A n] w fun e w' => ∃ (g : Nat) (ns1 : List Nd), e = .returned (.tuple #[.int .i64 (g : Nat), .int .i64 1]) ∧ Sta Z p w' 262144 ns1 ∧ Hold Z w w' ∧ PP g ns1))
    (CRg : Hid (∀ Z p w g ns1, PP g ns1 → Sta Z p w 262144 ns1 → Calls Try.prog 15 #[.pointer (some ⟨p, 0, none⟩), .int .i64 f, .agg #[.int .u16 (lo : Nat), .int .u16 (hi : Nat)]] w fun e w' => ∃ (g : Nat) (ns2 : List Nd), e = .returned (.tuple #[.int .i64 (g : Nat), .int .i64 14]) ∧ Sta Z p w' 262144 ns2 ∧ Hold Z w w' ∧ PR g ns2)) :
    Calls Try.prog 3 #[.int .i64 f, pv A n, .agg #[.int .u16 (lo : Nat), .int .u16 (hi : Nat)], hv d s q x y] W fun e w' => e = .returned (.bool true) ∧ Below W.heap.size W w' := by
  have CN := Lib.hid (fun w => sNew 262144 (by omega) (by omega) w)
  have CW := Lib.hid (fun w => awake_any w)
  go_enter Try.func3, Try.ntmps3
  go_upto_region 1 with fail
  refine at_code (S := Fx W [.int .u32 (A : Nat), .int .i64 n] [.int .u16 (lo : Nat), .int .u16 (hi : Nat)] [.int .u32 (d : Nat), .int .u32 (s : Nat), .int .u8 (q : Nat), .int .u16 (x : Nat), .int .u16 (y : Nat)]) ⟨?_, ?_, ?_, bel_al (bel_al (bel_al (Below.refl _ _) _) _) _, by simp⟩ (fun W1 hW => ?_)
  · exact (Blk.new W _ [.int .u32 (A : Nat), .int .i64 n]).on (bel_al (bel_al (Below.refl _ _) _) _)
  · have k := Blk.new (W.alloc (.cells #[.int .u32 (A : Nat), .int .i64 n] 24)) 27 [.int .u16 (lo : Nat), .int .u16 (hi : Nat)]
    rw [World.size_alloc] at k
    exact k.on (bel_al (Below.refl _ _) _)
  · have k := Blk.new ((W.alloc (.cells #[.int .u32 (A : Nat), .int .i64 n] 24)).alloc (.cells #[.int .u16 (lo : Nat), .int .u16 (hi : Nat)] 27)) 29 [.int .u32 (d : Nat), .int .u32 (s : Nat), .int .u8 (q : Nat), .int .u16 (x : Nat), .int .u16 (y : Nat)]
    rw [World.size_alloc, World.size_alloc] at k
    exact k
  have X1 := Lib.hid hW
  clear hW
  go_wp2_with fail
  refine (CN.out _).mono ?_
  rintro e w2 ⟨p, rfl, hS, hb⟩
  obtain ⟨Z, hZ⟩ : ∃ Z : Nat → Prop, (fun k => k < W1.heap.size) = Z := ⟨_, rfl⟩
  rw [hZ] at hS
  have HZ : Hid (∀ k, k < W.heap.size + 3 → Z k) := Lib.hid (by rw [← hZ]; intro k hk; have := X1.out.2.2.2.2; show k < W1.heap.size; omega)
  have S2 := Lib.hid hS
  have X2 := Lib.hid (X1.out.on hb)
  clear hS hb CN hZ X1
  obtain ⟨h_0, h_1, h_2, h_3, h_4⟩ : _ ∧ _ ∧ _ ∧ _ ∧ _ := ⟨X2.out.2.2.1.1 0 _ rfl, X2.out.2.2.1.1 1 _ rfl, X2.out.2.2.1.1 2 _ rfl, X2.out.2.2.1.1 3 _ rfl, X2.out.2.2.1.1 4 _ rfl⟩
  go_wp2_with fail
  refine (CA.out _).mono ?_
  rintro e w3 ⟨rfl, hb⟩
  have S3 := Lib.hid (S2.out.on hb)
  have X3 := Lib.hid (X2.out.on hb)
  clear hb CA S2 X2
  clear h_0 h_1 h_2 h_3 h_4
  obtain ⟨p_0, p_1⟩ : _ ∧ _ := ⟨X3.out.1.1 0 _ rfl, X3.out.1.1 1 _ rfl⟩
  go_wp2_with fail
  refine (CPx.out Z p w3 S3.out).mono ?_
  rintro e w4 ⟨g, ns1, rfl, hS, hH, hP⟩
  have S4 := Lib.hid hS
  have X4 := Lib.hid (X3.out.hold hH HZ.out)
  have P4 := Lib.hid hP
  clear hS hH hP CPx S3 X3
  clear p_0 p_1
  obtain ⟨h_0, h_1, h_2, h_3, h_4⟩ : _ ∧ _ ∧ _ ∧ _ ∧ _ := ⟨X4.out.2.2.1.1 0 _ rfl, X4.out.2.2.1.1 1 _ rfl, X4.out.2.2.1.1 2 _ rfl, X4.out.2.2.1.1 3 _ rfl, X4.out.2.2.1.1 4 _ rfl⟩
  go_wp2_with fail
  refine (CB.out _).mono ?_
  rintro e w8 ⟨rfl, hb⟩
  have S8 := Lib.hid (S4.out.on hb)
  have X8 := Lib.hid (X4.out.on hb)
  clear hb CB S4 X4
  clear h_0 h_1 h_2 h_3 h_4
  obtain ⟨r_0, r_1⟩ : _ ∧ _ := ⟨X8.out.2.1.1 0 _ rfl, X8.out.2.1.1 1 _ rfl⟩
  go_wp2_with fail
  refine (CRg.out Z p w8 g ns1 P4.out S8.out).mono ?_
  rintro e w9 ⟨g2, ns2, rfl, hS, hH, hR⟩
  have S9 := Lib.hid hS
  have X9 := Lib.hid (X8.out.hold hH HZ.out)
  have R9 := Lib.hid hR
  clear hS hH hR CRg S8 X8 P4
  clear r_0 r_1
  obtain ⟨r_0, r_1⟩ : _ ∧ _ := ⟨X9.out.2.1.1 0 _ rfl, X9.out.2.1.1 1 _ rfl⟩
  obtain ⟨h_0, h_1, h_2, h_3, h_4⟩ : _ ∧ _ ∧ _ ∧ _ ∧ _ := ⟨X9.out.2.2.1.1 0 _ rfl, X9.out.2.2.1.1 1 _ rfl, X9.out.2.2.1.1 2 _ rfl, X9.out.2.2.1.1 3 _ rfl, X9.out.2.2.1.1 4 _ rfl⟩
  go_wp2_with fail
  refine (CW.out _).mono ?_
  rintro e wa ⟨rfl, hbx⟩
  have FIN := Lib.hid (bel_on' X9.out.2.2.2.1 hbx)
  clear hbx
  go_wp2
  go_ret
  exact ⟨rfl, FIN.out⟩
end Go.Proofs.Ytggcbklififcgab
/- EncFields's walk, way by way. -/
namespace Go.Proofs.Ytggcbklififcgab
open Go.RowKit
set_option linter.unusedVariables false

set_option maxRecDepth 100000 in
set_option maxHeartbeats 8000000 in
theorem ef_in {PP PR : Nat → List Nd → Prop} (f : Int) (A : Nat) (n : Int) (lo hi d s q x y xa yb : Nat) (hle : ¬ (hi : Int) < (lo : Int)) (h1 : (lo : Int) ≤ (yb : Int)) (h2 : (yb : Int) ≤ (hi : Int)) (W : World)
    (CA : Hid (∀ w, Calls Try.prog 9 #[hv d s q x y, .int .i64 f] w fun e w' => e = .returned (.tuple #[.int .u32 (xa : Nat), .bool false]) ∧ Below w.heap.size w w'))
    (CB : Hid (∀ w, Calls Try.prog 14 #[hv d s q x y, .int .i64 f] w fun e w' => e = .returned (.tuple #[.int .u16 (yb : Nat), .bool true]) ∧ Below w.heap.size w w'))
    (CPx : Hid (∀ Z p w, Sta Z p w 262144 [bot, top] → Calls Try.prog 10 #[.pointer (some ⟨p, 0, none⟩), .int .i64 f, pv A n] w fun e w' => ∃ (g : Nat) (ns1 : List Nd), e = .returned (.tuple #[.int .i64 (g : Nat), .int .i64 1]) ∧ Sta Z p w' 262144 ns1 ∧ Hold Z w w' ∧ PP g ns1))
    (CRg : Hid (∀ Z p w g ns1, PP g ns1 → Sta Z p w 262144 ns1 → Calls Try.prog 15 #[.pointer (some ⟨p, 0, none⟩), .int .i64 f, .agg #[.int .u16 (lo : Nat), .int .u16 (hi : Nat)]] w fun e w' => ∃ (g : Nat) (ns2 : List Nd), e = .returned (.tuple #[.int .i64 (g : Nat), .int .i64 0]) ∧ Sta Z p w' 262144 ns2 ∧ Hold Z w w' ∧ PR g ns2))
    (CIn : Hid (∀ Z p w g ns2, PR g ns2 → Sta Z p w 262144 ns2 → Calls Try.prog 12 #[.pointer (some ⟨p, 0, none⟩), .int .i64 (g : Nat), hv d s q x y] w fun e w' => e = .returned (.bool true) ∧ Below w.heap.size w w')) :
    Calls Try.prog 3 #[.int .i64 f, pv A n, .agg #[.int .u16 (lo : Nat), .int .u16 (hi : Nat)], hv d s q x y] W fun e w' => e = .returned (.bool true) ∧ Below W.heap.size W w' := by
  have CN := Lib.hid (fun w => sNew 262144 (by omega) (by omega) w)
  have CW := Lib.hid (fun w => awake_any w)
  go_enter Try.func3, Try.ntmps3
  go_upto_region 1 with fail
  refine at_code (S := Fx W [.int .u32 (A : Nat), .int .i64 n] [.int .u16 (lo : Nat), .int .u16 (hi : Nat)] [.int .u32 (d : Nat), .int .u32 (s : Nat), .int .u8 (q : Nat), .int .u16 (x : Nat), .int .u16 (y : Nat)]) ⟨?_, ?_, ?_, bel_al (bel_al (bel_al (Below.refl _ _) _) _) _, by simp⟩ (fun W1 hW => ?_)
  · exact (Blk.new W _ [.int .u32 (A : Nat), .int .i64 n]).on (bel_al (bel_al (Below.refl _ _) _) _)
  · have k := Blk.new (W.alloc (.cells #[.int .u32 (A : Nat), .int .i64 n] 24)) 27 [.int .u16 (lo : Nat), .int .u16 (hi : Nat)]
    rw [World.size_alloc] at k
    exact k.on (bel_al (Below.refl _ _) _)
  · have k := Blk.new ((W.alloc (.cells #[.int .u32 (A : Nat), .int .i64 n] 24)).alloc (.cells #[.int .u16 (lo : Nat), .int .u16 (hi : Nat)] 27)) 29 [.int .u32 (d : Nat), .int .u32 (s : Nat), .int .u8 (q : Nat), .int .u16 (x : Nat), .int .u16 (y : Nat)]
    rw [World.size_alloc, World.size_alloc] at k
    exact k
  have X1 := Lib.hid hW
  clear hW
  go_wp2_with fail
  refine (CN.out _).mono ?_
  rintro e w2 ⟨p, rfl, hS, hb⟩
  obtain ⟨Z, hZ⟩ : ∃ Z : Nat → Prop, (fun k => k < W1.heap.size) = Z := ⟨_, rfl⟩
  rw [hZ] at hS
  have HZ : Hid (∀ k, k < W.heap.size + 3 → Z k) := Lib.hid (by rw [← hZ]; intro k hk; have := X1.out.2.2.2.2; show k < W1.heap.size; omega)
  have S2 := Lib.hid hS
  have X2 := Lib.hid (X1.out.on hb)
  clear hS hb CN hZ X1
  obtain ⟨h_0, h_1, h_2, h_3, h_4⟩ : _ ∧ _ ∧ _ ∧ _ ∧ _ := ⟨X2.out.2.2.1.1 0 _ rfl, X2.out.2.2.1.1 1 _ rfl, X2.out.2.2.1.1 2 _ rfl, X2.out.2.2.1.1 3 _ rfl, X2.out.2.2.1.1 4 _ rfl⟩
  go_wp2_with fail
  refine (CA.out _).mono ?_
  rintro e w3 ⟨rfl, hb⟩
  have S3 := Lib.hid (S2.out.on hb)
  have X3 := Lib.hid (X2.out.on hb)
  clear hb CA S2 X2
  clear h_0 h_1 h_2 h_3 h_4
  obtain ⟨p_0, p_1⟩ : _ ∧ _ := ⟨X3.out.1.1 0 _ rfl, X3.out.1.1 1 _ rfl⟩
  go_wp2_with fail
  refine (CPx.out Z p w3 S3.out).mono ?_
  rintro e w4 ⟨g, ns1, rfl, hS, hH, hP⟩
  have S4 := Lib.hid hS
  have X4 := Lib.hid (X3.out.hold hH HZ.out)
  have P4 := Lib.hid hP
  clear hS hH hP CPx S3 X3
  clear p_0 p_1
  obtain ⟨h_0, h_1, h_2, h_3, h_4⟩ : _ ∧ _ ∧ _ ∧ _ ∧ _ := ⟨X4.out.2.2.1.1 0 _ rfl, X4.out.2.2.1.1 1 _ rfl, X4.out.2.2.1.1 2 _ rfl, X4.out.2.2.1.1 3 _ rfl, X4.out.2.2.1.1 4 _ rfl⟩
  go_wp2_with fail
  refine (CB.out _).mono ?_
  rintro e w8 ⟨rfl, hb⟩
  have S8 := Lib.hid (S4.out.on hb)
  have X8 := Lib.hid (X4.out.on hb)
  clear hb CB S4 X4
  clear h_0 h_1 h_2 h_3 h_4
  obtain ⟨r_0, r_1⟩ : _ ∧ _ := ⟨X8.out.2.1.1 0 _ rfl, X8.out.2.1.1 1 _ rfl⟩
  go_wp2_with fail
  refine (CRg.out Z p w8 g ns1 P4.out S8.out).mono ?_
  rintro e w9 ⟨g2, ns2, rfl, hS, hH, hR⟩
  have S9 := Lib.hid hS
  have X9 := Lib.hid (X8.out.hold hH HZ.out)
  have R9 := Lib.hid hR
  clear hS hH hR CRg S8 X8 P4
  clear r_0 r_1
  obtain ⟨r_0, r_1⟩ : _ ∧ _ := ⟨X9.out.2.1.1 0 _ rfl, X9.out.2.1.1 1 _ rfl⟩
  obtain ⟨h_0, h_1, h_2, h_3, h_4⟩ : _ ∧ _ ∧ _ ∧ _ ∧ _ := ⟨X9.out.2.2.1.1 0 _ rfl, X9.out.2.2.1.1 1 _ rfl, X9.out.2.2.1.1 2 _ rfl, X9.out.2.2.1.1 3 _ rfl, X9.out.2.2.1.1 4 _ rfl⟩
  go_wp2_with fail
  refine wp_region_noPanic ?_
  refine wp_region_along (S := fun w' => Below w9.heap.size w9 w' ∧ ∀ b o, (w9.cell? ⟨b, o, none⟩).isSome = true → w'.cell? ⟨b, o, none⟩ = w9.cell? ⟨b, o, none⟩) ([(0, false), (1, true), (2, true), (3, true), (4, true), (5, true), (6, true), (7, true), (8, true), (10, true), (11, true), (12, true), (13, true), (9, false), (14, true), (15, true)] ++ ([(16, true), (17, true), (18, true), (19, true), (20, true), (21, true), (22, true)])) (by kernel_rfl) (by as_aux_lemma => kernel_rfl) (by kernel_rfl) (by kernel_rfl) (alongPre_append _ _ _ (by as_aux_lemma => kernel_rfl) (by as_aux_lemma => kernel_rfl)) (by as_aux_lemma => kernel_rfl) (fun _ _ _ _ _ h => h) (below_kb (Below.refl _ _).drew) (fun hH => ?_)
  simp only [List.cons_append, List.nil_append, stepsOf, pickOp]
  refine along_bar (fun K hK => ?_)
  go_simp
  refine (CW.out _).mono ?_
  rintro e wa ⟨rfl, hbx⟩
  try go_wp2_with fail
  refine hK.out _ _ (below_kb (below_on hH.1 hbx)) (fun hH' => ?_)
  clear hK K hH
  have hH := hH'
  clear hH'
  have Ba := Lib.hid hH.1
  clear hbx
  try simp only [Act.put, List.setIfInBounds_toArray, List.set_cons_zero, List.set_cons_succ]
  iterate 12 (first | (refine along_skip (by rfl) ?_; try simp only [Act.put, List.setIfInBounds_toArray, List.set_cons_zero, List.set_cons_succ]) | (refine along_pure ?_ (by rfl) (fun w hSw => ?_) ?_; rotate_left; ((try dsimp only at hSw); go_simp; try with_reducible rfl); try simp only [Act.put, List.setIfInBounds_toArray, List.set_cons_zero, List.set_cons_succ]))
  refine along_bar (fun K hK => ?_)
  go_simp
  refine (CIn.out Z p wa g2 ns2 R9.out (S9.out.on Ba.out)).mono ?_
  rintro e wb ⟨rfl, hbx⟩
  try go_wp2_with fail
  refine hK.out _ _ (below_kb (below_on hH.1 hbx)) (fun hH' => ?_)
  clear hK K hH
  have hH := hH'
  clear hH'
  clear hbx
  try simp only [Act.put, List.setIfInBounds_toArray, List.set_cons_zero, List.set_cons_succ]
  iterate 9 (first | (refine along_skip (by rfl) ?_; try simp only [Act.put, List.setIfInBounds_toArray, List.set_cons_zero, List.set_cons_succ]) | (refine along_pure ?_ (by rfl) (fun w hSw => ?_) ?_; rotate_left; ((try dsimp only at hSw); go_simp; try with_reducible rfl); try simp only [Act.put, List.setIfInBounds_toArray, List.set_cons_zero, List.set_cons_succ]))
  refine along_end (NoPanic.normal ?_)
  have FIN := Lib.hid (bel_on' X9.out.2.2.2.1 hH.1)
  clear hH
  go_wp2
  go_ret
  exact ⟨rfl, FIN.out⟩
end Go.Proofs.Ytggcbklififcgab
/- EncFields's walk, way by way. -/
namespace Go.Proofs.Ytggcbklififcgab
open Go.RowKit
set_option linter.unusedVariables false

set_option maxRecDepth 100000 in
set_option maxHeartbeats 8000000 in
theorem ef_low {PP PR : Nat → List Nd → Prop} (f : Int) (A : Nat) (n : Int) (lo hi d s q x y xa yb : Nat) (hle : ¬ (hi : Int) < (lo : Int)) (h1 : decide (lo ≤ yb) = false) (W : World)
    (CA : Hid (∀ w, Calls Try.prog 9 #[hv d s q x y, .int .i64 f] w fun e w' => e = .returned (.tuple #[.int .u32 (xa : Nat), .bool false]) ∧ Below w.heap.size w w'))
    (CB : Hid (∀ w, Calls Try.prog 14 #[hv d s q x y, .int .i64 f] w fun e w' => e = .returned (.tuple #[.int .u16 (yb : Nat), .bool true]) ∧ Below w.heap.size w w'))
    (CPx : Hid (∀ Z p w, Sta Z p w 262144 [bot, top] → Calls Try.prog 10 #[.pointer (some ⟨p, 0, none⟩), .int .i64 f, pv A n] w fun e w' => ∃ (g : Nat) (ns1 : List Nd), e = .returned (.tuple #[.int .i64 (g : Nat), .int .i64 1]) ∧ Sta Z p w' 262144 ns1 ∧ Hold Z w w' ∧ PP g ns1))
    (CRg : Hid (∀ Z p w g ns1, PP g ns1 → Sta Z p w 262144 ns1 → Calls Try.prog 15 #[.pointer (some ⟨p, 0, none⟩), .int .i64 f, .agg #[.int .u16 (lo : Nat), .int .u16 (hi : Nat)]] w fun e w' => ∃ (g : Nat) (ns2 : List Nd), e = .returned (.tuple #[.int .i64 (g : Nat), .int .i64 0]) ∧ Sta Z p w' 262144 ns2 ∧ Hold Z w w' ∧ PR g ns2))
    (CIn : Hid (∀ Z p w g ns2, PR g ns2 → Sta Z p w 262144 ns2 → Calls Try.prog 12 #[.pointer (some ⟨p, 0, none⟩), .int .i64 (g : Nat), hv d s q x y] w fun e w' => e = .returned (.bool false) ∧ Below w.heap.size w w')) :
    Calls Try.prog 3 #[.int .i64 f, pv A n, .agg #[.int .u16 (lo : Nat), .int .u16 (hi : Nat)], hv d s q x y] W fun e w' => e = .returned (.bool true) ∧ Below W.heap.size W w' := by
  have CN := Lib.hid (fun w => sNew 262144 (by omega) (by omega) w)
  have CW := Lib.hid (fun w => awake_any w)
  go_enter Try.func3, Try.ntmps3
  go_upto_region 1 with fail
  refine at_code (S := Fx W [.int .u32 (A : Nat), .int .i64 n] [.int .u16 (lo : Nat), .int .u16 (hi : Nat)] [.int .u32 (d : Nat), .int .u32 (s : Nat), .int .u8 (q : Nat), .int .u16 (x : Nat), .int .u16 (y : Nat)]) ⟨?_, ?_, ?_, bel_al (bel_al (bel_al (Below.refl _ _) _) _) _, by simp⟩ (fun W1 hW => ?_)
  · exact (Blk.new W _ [.int .u32 (A : Nat), .int .i64 n]).on (bel_al (bel_al (Below.refl _ _) _) _)
  · have k := Blk.new (W.alloc (.cells #[.int .u32 (A : Nat), .int .i64 n] 24)) 27 [.int .u16 (lo : Nat), .int .u16 (hi : Nat)]
    rw [World.size_alloc] at k
    exact k.on (bel_al (Below.refl _ _) _)
  · have k := Blk.new ((W.alloc (.cells #[.int .u32 (A : Nat), .int .i64 n] 24)).alloc (.cells #[.int .u16 (lo : Nat), .int .u16 (hi : Nat)] 27)) 29 [.int .u32 (d : Nat), .int .u32 (s : Nat), .int .u8 (q : Nat), .int .u16 (x : Nat), .int .u16 (y : Nat)]
    rw [World.size_alloc, World.size_alloc] at k
    exact k
  have X1 := Lib.hid hW
  clear hW
  go_wp2_with fail
  refine (CN.out _).mono ?_
  rintro e w2 ⟨p, rfl, hS, hb⟩
  obtain ⟨Z, hZ⟩ : ∃ Z : Nat → Prop, (fun k => k < W1.heap.size) = Z := ⟨_, rfl⟩
  rw [hZ] at hS
  have HZ : Hid (∀ k, k < W.heap.size + 3 → Z k) := Lib.hid (by rw [← hZ]; intro k hk; have := X1.out.2.2.2.2; show k < W1.heap.size; omega)
  have S2 := Lib.hid hS
  have X2 := Lib.hid (X1.out.on hb)
  clear hS hb CN hZ X1
  obtain ⟨h_0, h_1, h_2, h_3, h_4⟩ : _ ∧ _ ∧ _ ∧ _ ∧ _ := ⟨X2.out.2.2.1.1 0 _ rfl, X2.out.2.2.1.1 1 _ rfl, X2.out.2.2.1.1 2 _ rfl, X2.out.2.2.1.1 3 _ rfl, X2.out.2.2.1.1 4 _ rfl⟩
  go_wp2_with fail
  refine (CA.out _).mono ?_
  rintro e w3 ⟨rfl, hb⟩
  have S3 := Lib.hid (S2.out.on hb)
  have X3 := Lib.hid (X2.out.on hb)
  clear hb CA S2 X2
  clear h_0 h_1 h_2 h_3 h_4
  obtain ⟨p_0, p_1⟩ : _ ∧ _ := ⟨X3.out.1.1 0 _ rfl, X3.out.1.1 1 _ rfl⟩
  go_wp2_with fail
  refine (CPx.out Z p w3 S3.out).mono ?_
  rintro e w4 ⟨g, ns1, rfl, hS, hH, hP⟩
  have S4 := Lib.hid hS
  have X4 := Lib.hid (X3.out.hold hH HZ.out)
  have P4 := Lib.hid hP
  clear hS hH hP CPx S3 X3
  clear p_0 p_1
  obtain ⟨h_0, h_1, h_2, h_3, h_4⟩ : _ ∧ _ ∧ _ ∧ _ ∧ _ := ⟨X4.out.2.2.1.1 0 _ rfl, X4.out.2.2.1.1 1 _ rfl, X4.out.2.2.1.1 2 _ rfl, X4.out.2.2.1.1 3 _ rfl, X4.out.2.2.1.1 4 _ rfl⟩
  go_wp2_with fail
  refine (CB.out _).mono ?_
  rintro e w8 ⟨rfl, hb⟩
  have S8 := Lib.hid (S4.out.on hb)
  have X8 := Lib.hid (X4.out.on hb)
  clear hb CB S4 X4
  clear h_0 h_1 h_2 h_3 h_4
  obtain ⟨r_0, r_1⟩ : _ ∧ _ := ⟨X8.out.2.1.1 0 _ rfl, X8.out.2.1.1 1 _ rfl⟩
  go_wp2_with fail
  refine (CRg.out Z p w8 g ns1 P4.out S8.out).mono ?_
  rintro e w9 ⟨g2, ns2, rfl, hS, hH, hR⟩
  have S9 := Lib.hid hS
  have X9 := Lib.hid (X8.out.hold hH HZ.out)
  have R9 := Lib.hid hR
  clear hS hH hR CRg S8 X8 P4
  clear r_0 r_1
  obtain ⟨r_0, r_1⟩ : _ ∧ _ := ⟨X9.out.2.1.1 0 _ rfl, X9.out.2.1.1 1 _ rfl⟩
  obtain ⟨h_0, h_1, h_2, h_3, h_4⟩ : _ ∧ _ ∧ _ ∧ _ ∧ _ := ⟨X9.out.2.2.1.1 0 _ rfl, X9.out.2.2.1.1 1 _ rfl, X9.out.2.2.1.1 2 _ rfl, X9.out.2.2.1.1 3 _ rfl, X9.out.2.2.1.1 4 _ rfl⟩
  go_wp2_with fail
  refine wp_region_noPanic ?_
  refine wp_region_along (S := fun w' => Below w9.heap.size w9 w' ∧ ∀ b o, (w9.cell? ⟨b, o, none⟩).isSome = true → w'.cell? ⟨b, o, none⟩ = w9.cell? ⟨b, o, none⟩) ([(0, false), (1, true), (2, true), (3, true), (4, true), (5, true), (6, true), (7, true), (8, true), (10, true), (11, true), (12, true), (13, true), (9, false), (14, true), (15, true)] ++ ([(16, true), (17, true), (18, true), (19, true), (20, true), (21, true), (22, true)])) (by kernel_rfl) (by as_aux_lemma => kernel_rfl) (by kernel_rfl) (by kernel_rfl) (alongPre_append _ _ _ (by as_aux_lemma => kernel_rfl) (by as_aux_lemma => kernel_rfl)) (by as_aux_lemma => kernel_rfl) (fun _ _ _ _ _ h => h) (below_kb (Below.refl _ _).drew) (fun hH => ?_)
  simp only [List.cons_append, List.nil_append, stepsOf, pickOp]
  refine along_bar (fun K hK => ?_)
  go_simp
  refine (CW.out _).mono ?_
  rintro e wa ⟨rfl, hbx⟩
  try go_wp2_with fail
  refine hK.out _ _ (below_kb (below_on hH.1 hbx)) (fun hH' => ?_)
  clear hK K hH
  have hH := hH'
  clear hH'
  have Ba := Lib.hid hH.1
  clear hbx
  try simp only [Act.put, List.setIfInBounds_toArray, List.set_cons_zero, List.set_cons_succ]
  iterate 12 (first | (refine along_skip (by rfl) ?_; try simp only [Act.put, List.setIfInBounds_toArray, List.set_cons_zero, List.set_cons_succ]) | (refine along_pure ?_ (by rfl) (fun w hSw => ?_) ?_; rotate_left; ((try dsimp only at hSw); go_simp; try with_reducible rfl); try simp only [Act.put, List.setIfInBounds_toArray, List.set_cons_zero, List.set_cons_succ]))
  refine along_bar (fun K hK => ?_)
  go_simp
  refine (CIn.out Z p wa g2 ns2 R9.out (S9.out.on Ba.out)).mono ?_
  rintro e wb ⟨rfl, hbx⟩
  try go_wp2_with fail
  refine hK.out _ _ (below_kb (below_on hH.1 hbx)) (fun hH' => ?_)
  clear hK K hH
  have hH := hH'
  clear hH'
  clear hbx
  try simp only [Act.put, List.setIfInBounds_toArray, List.set_cons_zero, List.set_cons_succ]
  iterate 9 (first | (refine along_skip (by rfl) ?_; try simp only [Act.put, List.setIfInBounds_toArray, List.set_cons_zero, List.set_cons_succ]) | (refine along_pure ?_ (by rfl) (fun w hSw => ?_) ?_; rotate_left; ((try dsimp only at hSw); go_simp; try with_reducible rfl); try simp only [Act.put, List.setIfInBounds_toArray, List.set_cons_zero, List.set_cons_succ]))
  refine along_end (NoPanic.normal ?_)
  have FIN := Lib.hid (bel_on' X9.out.2.2.2.1 hH.1)
  clear hH
  go_wp2
  go_ret
  exact ⟨rfl, FIN.out⟩
set_option maxRecDepth 100000 in
set_option maxHeartbeats 8000000 in
theorem ef_high {PP PR : Nat → List Nd → Prop} (f : Int) (A : Nat) (n : Int) (lo hi d s q x y xa yb : Nat) (hle : ¬ (hi : Int) < (lo : Int)) (h1 : (lo : Int) ≤ (yb : Int)) (h2 : decide (yb ≤ hi) = false) (W : World)
    (CA : Hid (∀ w, Calls Try.prog 9 #[hv d s q x y, .int .i64 f] w fun e w' => e = .returned (.tuple #[.int .u32 (xa : Nat), .bool false]) ∧ Below w.heap.size w w'))
    (CB : Hid (∀ w, Calls Try.prog 14 #[hv d s q x y, .int .i64 f] w fun e w' => e = .returned (.tuple #[.int .u16 (yb : Nat), .bool true]) ∧ Below w.heap.size w w'))
    (CPx : Hid (∀ Z p w, Sta Z p w 262144 [bot, top] → Calls Try.prog 10 #[.pointer (some ⟨p, 0, none⟩), .int .i64 f, pv A n] w fun e w' => ∃ (g : Nat) (ns1 : List Nd), e = .returned (.tuple #[.int .i64 (g : Nat), .int .i64 1]) ∧ Sta Z p w' 262144 ns1 ∧ Hold Z w w' ∧ PP g ns1))
    (CRg : Hid (∀ Z p w g ns1, PP g ns1 → Sta Z p w 262144 ns1 → Calls Try.prog 15 #[.pointer (some ⟨p, 0, none⟩), .int .i64 f, .agg #[.int .u16 (lo : Nat), .int .u16 (hi : Nat)]] w fun e w' => ∃ (g : Nat) (ns2 : List Nd), e = .returned (.tuple #[.int .i64 (g : Nat), .int .i64 0]) ∧ Sta Z p w' 262144 ns2 ∧ Hold Z w w' ∧ PR g ns2))
    (CIn : Hid (∀ Z p w g ns2, PR g ns2 → Sta Z p w 262144 ns2 → Calls Try.prog 12 #[.pointer (some ⟨p, 0, none⟩), .int .i64 (g : Nat), hv d s q x y] w fun e w' => e = .returned (.bool false) ∧ Below w.heap.size w w')) :
    Calls Try.prog 3 #[.int .i64 f, pv A n, .agg #[.int .u16 (lo : Nat), .int .u16 (hi : Nat)], hv d s q x y] W fun e w' => e = .returned (.bool true) ∧ Below W.heap.size W w' := by
  have CN := Lib.hid (fun w => sNew 262144 (by omega) (by omega) w)
  have CW := Lib.hid (fun w => awake_any w)
  go_enter Try.func3, Try.ntmps3
  go_upto_region 1 with fail
  refine at_code (S := Fx W [.int .u32 (A : Nat), .int .i64 n] [.int .u16 (lo : Nat), .int .u16 (hi : Nat)] [.int .u32 (d : Nat), .int .u32 (s : Nat), .int .u8 (q : Nat), .int .u16 (x : Nat), .int .u16 (y : Nat)]) ⟨?_, ?_, ?_, bel_al (bel_al (bel_al (Below.refl _ _) _) _) _, by simp⟩ (fun W1 hW => ?_)
  · exact (Blk.new W _ [.int .u32 (A : Nat), .int .i64 n]).on (bel_al (bel_al (Below.refl _ _) _) _)
  · have k := Blk.new (W.alloc (.cells #[.int .u32 (A : Nat), .int .i64 n] 24)) 27 [.int .u16 (lo : Nat), .int .u16 (hi : Nat)]
    rw [World.size_alloc] at k
    exact k.on (bel_al (Below.refl _ _) _)
  · have k := Blk.new ((W.alloc (.cells #[.int .u32 (A : Nat), .int .i64 n] 24)).alloc (.cells #[.int .u16 (lo : Nat), .int .u16 (hi : Nat)] 27)) 29 [.int .u32 (d : Nat), .int .u32 (s : Nat), .int .u8 (q : Nat), .int .u16 (x : Nat), .int .u16 (y : Nat)]
    rw [World.size_alloc, World.size_alloc] at k
    exact k
  have X1 := Lib.hid hW
  clear hW
  go_wp2_with fail
  refine (CN.out _).mono ?_
  rintro e w2 ⟨p, rfl, hS, hb⟩
  obtain ⟨Z, hZ⟩ : ∃ Z : Nat → Prop, (fun k => k < W1.heap.size) = Z := ⟨_, rfl⟩
  rw [hZ] at hS
  have HZ : Hid (∀ k, k < W.heap.size + 3 → Z k) := Lib.hid (by rw [← hZ]; intro k hk; have := X1.out.2.2.2.2; show k < W1.heap.size; omega)
  have S2 := Lib.hid hS
  have X2 := Lib.hid (X1.out.on hb)
  clear hS hb CN hZ X1
  obtain ⟨h_0, h_1, h_2, h_3, h_4⟩ : _ ∧ _ ∧ _ ∧ _ ∧ _ := ⟨X2.out.2.2.1.1 0 _ rfl, X2.out.2.2.1.1 1 _ rfl, X2.out.2.2.1.1 2 _ rfl, X2.out.2.2.1.1 3 _ rfl, X2.out.2.2.1.1 4 _ rfl⟩
  go_wp2_with fail
  refine (CA.out _).mono ?_
  rintro e w3 ⟨rfl, hb⟩
  have S3 := Lib.hid (S2.out.on hb)
  have X3 := Lib.hid (X2.out.on hb)
  clear hb CA S2 X2
  clear h_0 h_1 h_2 h_3 h_4
  obtain ⟨p_0, p_1⟩ : _ ∧ _ := ⟨X3.out.1.1 0 _ rfl, X3.out.1.1 1 _ rfl⟩
  go_wp2_with fail
  refine (CPx.out Z p w3 S3.out).mono ?_
  rintro e w4 ⟨g, ns1, rfl, hS, hH, hP⟩
  have S4 := Lib.hid hS
  have X4 := Lib.hid (X3.out.hold hH HZ.out)
  have P4 := Lib.hid hP
  clear hS hH hP CPx S3 X3
  clear p_0 p_1
  obtain ⟨h_0, h_1, h_2, h_3, h_4⟩ : _ ∧ _ ∧ _ ∧ _ ∧ _ := ⟨X4.out.2.2.1.1 0 _ rfl, X4.out.2.2.1.1 1 _ rfl, X4.out.2.2.1.1 2 _ rfl, X4.out.2.2.1.1 3 _ rfl, X4.out.2.2.1.1 4 _ rfl⟩
  go_wp2_with fail
  refine (CB.out _).mono ?_
  rintro e w8 ⟨rfl, hb⟩
  have S8 := Lib.hid (S4.out.on hb)
  have X8 := Lib.hid (X4.out.on hb)
  clear hb CB S4 X4
  clear h_0 h_1 h_2 h_3 h_4
  obtain ⟨r_0, r_1⟩ : _ ∧ _ := ⟨X8.out.2.1.1 0 _ rfl, X8.out.2.1.1 1 _ rfl⟩
  go_wp2_with fail
  refine (CRg.out Z p w8 g ns1 P4.out S8.out).mono ?_
  rintro e w9 ⟨g2, ns2, rfl, hS, hH, hR⟩
  have S9 := Lib.hid hS
  have X9 := Lib.hid (X8.out.hold hH HZ.out)
  have R9 := Lib.hid hR
  clear hS hH hR CRg S8 X8 P4
  clear r_0 r_1
  obtain ⟨r_0, r_1⟩ : _ ∧ _ := ⟨X9.out.2.1.1 0 _ rfl, X9.out.2.1.1 1 _ rfl⟩
  obtain ⟨h_0, h_1, h_2, h_3, h_4⟩ : _ ∧ _ ∧ _ ∧ _ ∧ _ := ⟨X9.out.2.2.1.1 0 _ rfl, X9.out.2.2.1.1 1 _ rfl, X9.out.2.2.1.1 2 _ rfl, X9.out.2.2.1.1 3 _ rfl, X9.out.2.2.1.1 4 _ rfl⟩
  go_wp2_with fail
  refine wp_region_noPanic ?_
  refine wp_region_along (S := fun w' => Below w9.heap.size w9 w' ∧ ∀ b o, (w9.cell? ⟨b, o, none⟩).isSome = true → w'.cell? ⟨b, o, none⟩ = w9.cell? ⟨b, o, none⟩) ([(0, false), (1, true), (2, true), (3, true), (4, true), (5, true), (6, true), (7, true), (8, true), (10, true), (11, true), (12, true), (13, true), (9, false), (14, true), (15, true)] ++ ([(16, true), (17, true), (18, true), (19, true), (20, true), (21, true), (22, true)])) (by kernel_rfl) (by as_aux_lemma => kernel_rfl) (by kernel_rfl) (by kernel_rfl) (alongPre_append _ _ _ (by as_aux_lemma => kernel_rfl) (by as_aux_lemma => kernel_rfl)) (by as_aux_lemma => kernel_rfl) (fun _ _ _ _ _ h => h) (below_kb (Below.refl _ _).drew) (fun hH => ?_)
  simp only [List.cons_append, List.nil_append, stepsOf, pickOp]
  refine along_bar (fun K hK => ?_)
  go_simp
  refine (CW.out _).mono ?_
  rintro e wa ⟨rfl, hbx⟩
  try go_wp2_with fail
  refine hK.out _ _ (below_kb (below_on hH.1 hbx)) (fun hH' => ?_)
  clear hK K hH
  have hH := hH'
  clear hH'
  have Ba := Lib.hid hH.1
  clear hbx
  try simp only [Act.put, List.setIfInBounds_toArray, List.set_cons_zero, List.set_cons_succ]
  iterate 12 (first | (refine along_skip (by rfl) ?_; try simp only [Act.put, List.setIfInBounds_toArray, List.set_cons_zero, List.set_cons_succ]) | (refine along_pure ?_ (by rfl) (fun w hSw => ?_) ?_; rotate_left; ((try dsimp only at hSw); go_simp; try with_reducible rfl); try simp only [Act.put, List.setIfInBounds_toArray, List.set_cons_zero, List.set_cons_succ]))
  refine along_bar (fun K hK => ?_)
  go_simp
  refine (CIn.out Z p wa g2 ns2 R9.out (S9.out.on Ba.out)).mono ?_
  rintro e wb ⟨rfl, hbx⟩
  try go_wp2_with fail
  refine hK.out _ _ (below_kb (below_on hH.1 hbx)) (fun hH' => ?_)
  clear hK K hH
  have hH := hH'
  clear hH'
  clear hbx
  try simp only [Act.put, List.setIfInBounds_toArray, List.set_cons_zero, List.set_cons_succ]
  iterate 9 (first | (refine along_skip (by rfl) ?_; try simp only [Act.put, List.setIfInBounds_toArray, List.set_cons_zero, List.set_cons_succ]) | (refine along_pure ?_ (by rfl) (fun w hSw => ?_) ?_; rotate_left; ((try dsimp only at hSw); go_simp; try with_reducible rfl); try simp only [Act.put, List.setIfInBounds_toArray, List.set_cons_zero, List.set_cons_succ]))
  refine along_end (NoPanic.normal ?_)
  have FIN := Lib.hid (bel_on' X9.out.2.2.2.1 hH.1)
  clear hH
  go_wp2
  go_ret
  exact ⟨rfl, FIN.out⟩
end Go.Proofs.Ytggcbklififcgab
/- Prefixes and ranges, by headers' fields. No program in sight. -/
namespace Go.Proofs.Ytggcbklififcgab
set_option linter.unusedVariables false

theorem allB_fl {d s p x y a n : Nat} {e : Env} : allB (fl d s p x y a n) e = true ↔ ∀ i, i < n → e (a + i) = bt d s p x y ((a + i : Nat) : Int) := by
  unfold allB fl
  rw [List.all_eq_true]
  constructor
  · intro h i hi
    have := h (a + i, bt d s p x y ((a + i : Nat) : Int)) (List.mem_map.2 ⟨i, List.mem_range.2 hi, rfl⟩)
    rw [beq_iff_eq] at this
    exact this
  · intro h q hq
    obtain ⟨i, hi, rfl⟩ := List.mem_map.1 hq
    rw [beq_iff_eq]
    exact h i (List.mem_range.1 hi)
theorem fl_dst {A k d s p x y : Nat} (hA : A < 4294967296) (hk : k ≤ 32) (h : HB d s p x y) : allB (fl A A 0 0 0 0 k) (hE d s p x y) = decide (d / sz k = A / sz k) := by
  have hh : HB A A 0 0 0 := ⟨hA, hA, by omega, by omega, by omega⟩
  rw [Bool.eq_iff_iff, allB_fl, decide_eq_true_eq]
  unfold sz
  rw [← bits_div (k := k) (n := 32 - k) (by rw [show k + (32 - k) = 32 by omega]; exact h.d) (by rw [show k + (32 - k) = 32 by omega]; exact hA)]
  refine forall_congr' fun i => forall_congr' fun hik => ?_
  rw [Nat.zero_add, show k + (32 - k) - 1 - i = 31 - i by omega]
  show bt d s p x y (i : Nat) = bt A A 0 0 0 (i : Nat) ↔ _
  rw [bt_dst h (by omega), bt_dst hh (by omega)]
theorem fl_src {A k d s p x y : Nat} (hA : A < 4294967296) (hk : k ≤ 32) (h : HB d s p x y) : allB (fl A A 0 0 0 32 k) (hE d s p x y) = decide (s / sz k = A / sz k) := by
  have hh : HB A A 0 0 0 := ⟨hA, hA, by omega, by omega, by omega⟩
  rw [Bool.eq_iff_iff, allB_fl, decide_eq_true_eq]
  unfold sz
  rw [← bits_div (k := k) (n := 32 - k) (by rw [show k + (32 - k) = 32 by omega]; exact h.s) (by rw [show k + (32 - k) = 32 by omega]; exact hA)]
  refine forall_congr' fun i => forall_congr' fun hik => ?_
  rw [show k + (32 - k) - 1 - i = 31 - i by omega]
  show bt d s p x y ((32 + i : Nat) : Int) = bt A A 0 0 0 ((32 + i : Nat) : Int) ↔ _
  rw [bt_src h (by omega), bt_src hh (by omega)]
theorem rg_sp {lo hi d s p x y : Nat} (hlo : lo < 65536) (hhi : hi < 65536) (h : HB d s p x y) : rgP 72 lo hi (hE d s p x y) = decide (lo ≤ x ∧ x ≤ hi) := by
  have hn := rn_le hlo hhi
  have hh : HB 0 0 0 lo lo := ⟨by omega, by omega, by omega, hlo, hlo⟩
  have hv := pval_val (hE d s p x y) 72 x (fun i hi => bt_sp h hi) (rn lo hi) hn
  rw [Bool.eq_iff_iff, decide_eq_true_eq, ← rs_port hlo hhi h.x hn (rn_div hlo hhi)]
  unfold rgP rsP bdP
  rw [hv, Bool.and_eq_true, Bool.and_eq_true, allB_fl, if_pos rfl, if_neg (by decide), decide_eq_true_eq, decide_eq_true_eq, and_assoc]
  refine and_congr_right fun _ => and_congr_right fun _ => ?_
  rw [← bits_div (k := 16 - rn lo hi) (n := rn lo hi) (by rw [show 16 - rn lo hi + rn lo hi = 16 by omega]; exact h.x) (by rw [show 16 - rn lo hi + rn lo hi = 16 by omega]; exact hlo)]
  refine forall_congr' fun i => forall_congr' fun hik => ?_
  rw [show 16 - rn lo hi + rn lo hi - 1 - i = 15 - i by omega]
  show bt d s p x y ((72 + i : Nat) : Int) = bt 0 0 0 lo lo ((72 + i : Nat) : Int) ↔ _
  rw [bt_sp h (by omega), bt_sp hh (by omega)]
theorem rg_dp {lo hi d s p x y : Nat} (hlo : lo < 65536) (hhi : hi < 65536) (h : HB d s p x y) : rgP 88 lo hi (hE d s p x y) = decide (lo ≤ y ∧ y ≤ hi) := by
  have hn := rn_le hlo hhi
  have hh : HB 0 0 0 lo lo := ⟨by omega, by omega, by omega, hlo, hlo⟩
  have hv := pval_val (hE d s p x y) 88 y (fun i hi => bt_dp h hi) (rn lo hi) hn
  rw [Bool.eq_iff_iff, decide_eq_true_eq, ← rs_port hlo hhi h.y hn (rn_div hlo hhi)]
  unfold rgP rsP bdP
  rw [hv, Bool.and_eq_true, Bool.and_eq_true, allB_fl, if_pos rfl, if_neg (by decide), decide_eq_true_eq, decide_eq_true_eq, and_assoc]
  refine and_congr_right fun _ => and_congr_right fun _ => ?_
  rw [← bits_div (k := 16 - rn lo hi) (n := rn lo hi) (by rw [show 16 - rn lo hi + rn lo hi = 16 by omega]; exact h.y) (by rw [show 16 - rn lo hi + rn lo hi = 16 by omega]; exact hlo)]
  refine forall_congr' fun i => forall_congr' fun hik => ?_
  rw [show 16 - rn lo hi + rn lo hi - 1 - i = 15 - i by omega]
  show bt d s p x y ((88 + i : Nat) : Int) = bt 0 0 0 lo lo ((88 + i : Nat) : Int) ↔ _
  rw [bt_dp h (by omega), bt_dp hh (by omega)]
end Go.Proofs.Ytggcbklififcgab
