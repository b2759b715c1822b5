/- Texts joined, in their order: E12, E13. -/
import Derived.Test.YtggcbklififcgabG780cc3c718
/- The set of a prefix; what Prefix and Range refuse. -/
namespace Go.Proofs.Ytggcbklififcgab
open Go.RowKit
set_option linter.unusedVariables false

set_option maxRecDepth 100000 in
set_option maxHeartbeats 4000000 in
theorem prefixD_any {Z : Nat → Prop} {p most : Nat} {W : World} {ns : List Nd} (hS : Sta Z p W most ns) (A k : Nat) (hA : A < 4294967296) (hk : k ≤ 32) (hr : rightB A (k : Nat) = true) :
    Calls Try.prog 10 #[.pointer (some ⟨p, 0, none⟩), .int .i64 0, pv A (k : Nat)] W (Got2 Z p most (cF most ns (fl A A 0 0 0 0 k)) W) := by
  have S0 := Lib.hid hS
  have CR := Lib.hid (fun w => cright_any A (k : Nat) hA w)
  rw [hr] at CR
  have CF := Lib.hid (fun w => first_at A A 0 0 0 ⟨by omega, by omega, by omega, by omega, by omega⟩ 0 k (by omega) w)
  have RI := Lib.hid (fl_rise A A 0 0 0 0 k (by omega))
  obtain ⟨l, hl⟩ : ∃ l, fl A A 0 0 0 0 k = l := ⟨_, rfl⟩
  rw [hl] at CF RI ⊢
  have CC := Lib.hid (fun (V w : World) (Z' : Nat → Prop) (base : Nat) (v : Value) (h : Sta Z' p w most ns) (hL : LitAt V base v l) (hH : Hold Z' V w) (hz : ∀ g, base ≤ g → g < V.heap.size → Z' g) => sCubeAt h RI.out hL hH hz)
  obtain ⟨R, hR⟩ : ∃ R, cF most ns l = R := ⟨_, rfl⟩
  rw [hR] at CC ⊢
  unfold Got2 at CC ⊢
  obtain ⟨r, hrr⟩ : ∃ r : Int, ((rv R.1 : Nat) : Int) = r := ⟨_, rfl⟩
  obtain ⟨er', her⟩ : ∃ x : Int, er R.1 = x := ⟨_, rfl⟩
  rw [hrr, her] at CC ⊢
  clear hR hrr her hS hr hl
  go_enter Try.func10, Try.ntmps10
  go_upto_region 5 with fail
  refine at_code (S := fun w => Blk w W.heap.size [.int .u32 (A : Nat), .int .i64 (k : Nat)] ∧ Below W.heap.size W w) ⟨Blk.new _ _ _, bel_al (Below.refl _ _) _⟩ (fun W1 hW => ?_)
  obtain ⟨hX, hb⟩ := hW
  obtain ⟨x_0, x_1⟩ : _ ∧ _ := ⟨hX.1 0 _ rfl, hX.1 1 _ rfl⟩
  have X1 := Lib.hid hX
  have B1 := Lib.hid hb
  clear hX hb
  go_wp2_with fail
  refine (CR.out _).mono ?_
  rintro e w2 ⟨rfl, hb⟩
  have X2 := X1.out.on hb
  have B2 := Lib.hid (bel_on' B1.out hb)
  clear x_0 x_1 X1 B1 hb CR
  obtain ⟨x_0, x_1⟩ : _ ∧ _ := ⟨X2.1 0 _ rfl, X2.1 1 _ rfl⟩
  clear X2
  go_wp2_with fail
  refine (CF.out _).mono ?_
  rintro e w3 ⟨v, rfl, hL, hb⟩
  have hb3 := bel_on' B2.out hb
  have C2 := Lib.hid (CC.out w3 w3 (fun k => Z k ∨ (W.heap.size ≤ k ∧ k < w3.heap.size)) W.heap.size v (S0.out.grow hb3 (fun k hk => hk)) (hL.base B2.out.size) (Keep.refl _ _) (fun g h1 h2 => Or.inr ⟨h1, h2⟩))
  have B3 := Lib.hid hb3
  clear hb hb3 hL x_0 x_1 B2 CF CC S0
  go_wp2_with fail
  refine C2.out.mono ?_
  rintro e w4 ⟨rfl, hS, hH⟩
  have S3 := Lib.hid (hS.less (fun k hk => Or.inl hk) : Sta Z p w4 most R.2)
  have H3 := Lib.hid ((Hold.of B3.out).trans (hH.less (fun k hk => Or.inl hk)) : Hold Z W w4)
  clear hS hH
  go_wp2
  go_ret2
  exact ⟨rfl, S3.out, H3.out⟩
set_option maxHeartbeats 1000000 in
theorem prefixD_bad (p : Nat) (A : Nat) (n : Int) (hA : A < 4294967296) (hr : rightB A n = false) (W : World) :
    Calls Try.prog 10 #[.pointer (some ⟨p, 0, none⟩), .int .i64 0, pv A n] W fun e w' => e = .returned (.tuple #[.int .i64 0, .int .i64 13]) ∧ Below W.heap.size W w' := by
  have CR := Lib.hid (fun w => cright_any A n hA w)
  rw [hr] at CR
  clear hr
  go_enter Try.func10, Try.ntmps10
  go_upto_region 5 with fail
  refine at_code (S := fun w => Blk w W.heap.size [.int .u32 (A : Nat), .int .i64 n] ∧ Below W.heap.size W w) ⟨Blk.new _ _ _, bel_al (Below.refl _ _) _⟩ (fun W1 hW => ?_)
  obtain ⟨hX, hb⟩ := hW
  obtain ⟨x_0, x_1⟩ : _ ∧ _ := ⟨hX.1 0 _ rfl, hX.1 1 _ rfl⟩
  have B1 := Lib.hid hb
  clear hX hb
  go_wp2_with fail
  refine (CR.out _).mono ?_
  rintro e w2 ⟨rfl, hb⟩
  have B2 := Lib.hid (bel_on' B1.out hb)
  clear hb CR x_0 x_1 B1
  go_wp2
  go_ret2
  exact ⟨rfl, B2.out⟩
set_option maxRecDepth 100000 in
set_option maxHeartbeats 4000000 in
theorem prefixS_any {Z : Nat → Prop} {p most : Nat} {W : World} {ns : List Nd} (hS : Sta Z p W most ns) (A k : Nat) (hA : A < 4294967296) (hk : k ≤ 32) (hr : rightB A (k : Nat) = true) :
    Calls Try.prog 10 #[.pointer (some ⟨p, 0, none⟩), .int .i64 32, pv A (k : Nat)] W (Got2 Z p most (cF most ns (fl A A 0 0 0 32 k)) W) := by
  have S0 := Lib.hid hS
  have CR := Lib.hid (fun w => cright_any A (k : Nat) hA w)
  rw [hr] at CR
  have CF := Lib.hid (fun w => first_at A A 0 0 0 ⟨by omega, by omega, by omega, by omega, by omega⟩ 32 k (by omega) w)
  have RI := Lib.hid (fl_rise A A 0 0 0 32 k (by omega))
  obtain ⟨l, hl⟩ : ∃ l, fl A A 0 0 0 32 k = l := ⟨_, rfl⟩
  rw [hl] at CF RI ⊢
  have CC := Lib.hid (fun (V w : World) (Z' : Nat → Prop) (base : Nat) (v : Value) (h : Sta Z' p w most ns) (hL : LitAt V base v l) (hH : Hold Z' V w) (hz : ∀ g, base ≤ g → g < V.heap.size → Z' g) => sCubeAt h RI.out hL hH hz)
  obtain ⟨R, hR⟩ : ∃ R, cF most ns l = R := ⟨_, rfl⟩
  rw [hR] at CC ⊢
  unfold Got2 at CC ⊢
  obtain ⟨r, hrr⟩ : ∃ r : Int, ((rv R.1 : Nat) : Int) = r := ⟨_, rfl⟩
  obtain ⟨er', her⟩ : ∃ x : Int, er R.1 = x := ⟨_, rfl⟩
  rw [hrr, her] at CC ⊢
  clear hR hrr her hS hr hl
  go_enter Try.func10, Try.ntmps10
  go_upto_region 5 with fail
  refine at_code (S := fun w => Blk w W.heap.size [.int .u32 (A : Nat), .int .i64 (k : Nat)] ∧ Below W.heap.size W w) ⟨Blk.new _ _ _, bel_al (Below.refl _ _) _⟩ (fun W1 hW => ?_)
  obtain ⟨hX, hb⟩ := hW
  obtain ⟨x_0, x_1⟩ : _ ∧ _ := ⟨hX.1 0 _ rfl, hX.1 1 _ rfl⟩
  have X1 := Lib.hid hX
  have B1 := Lib.hid hb
  clear hX hb
  go_wp2_with fail
  refine (CR.out _).mono ?_
  rintro e w2 ⟨rfl, hb⟩
  have X2 := X1.out.on hb
  have B2 := Lib.hid (bel_on' B1.out hb)
  clear x_0 x_1 X1 B1 hb CR
  obtain ⟨x_0, x_1⟩ : _ ∧ _ := ⟨X2.1 0 _ rfl, X2.1 1 _ rfl⟩
  clear X2
  go_wp2_with fail
  refine (CF.out _).mono ?_
  rintro e w3 ⟨v, rfl, hL, hb⟩
  have hb3 := bel_on' B2.out hb
  have C2 := Lib.hid (CC.out w3 w3 (fun k => Z k ∨ (W.heap.size ≤ k ∧ k < w3.heap.size)) W.heap.size v (S0.out.grow hb3 (fun k hk => hk)) (hL.base B2.out.size) (Keep.refl _ _) (fun g h1 h2 => Or.inr ⟨h1, h2⟩))
  have B3 := Lib.hid hb3
  clear hb hb3 hL x_0 x_1 B2 CF CC S0
  go_wp2_with fail
  refine C2.out.mono ?_
  rintro e w4 ⟨rfl, hS, hH⟩
  have S3 := Lib.hid (hS.less (fun k hk => Or.inl hk) : Sta Z p w4 most R.2)
  have H3 := Lib.hid ((Hold.of B3.out).trans (hH.less (fun k hk => Or.inl hk)) : Hold Z W w4)
  clear hS hH
  go_wp2
  go_ret2
  exact ⟨rfl, S3.out, H3.out⟩
set_option maxHeartbeats 1000000 in
theorem prefixS_bad (p : Nat) (A : Nat) (n : Int) (hA : A < 4294967296) (hr : rightB A n = false) (W : World) :
    Calls Try.prog 10 #[.pointer (some ⟨p, 0, none⟩), .int .i64 32, pv A n] W fun e w' => e = .returned (.tuple #[.int .i64 0, .int .i64 13]) ∧ Below W.heap.size W w' := by
  have CR := Lib.hid (fun w => cright_any A n hA w)
  rw [hr] at CR
  clear hr
  go_enter Try.func10, Try.ntmps10
  go_upto_region 5 with fail
  refine at_code (S := fun w => Blk w W.heap.size [.int .u32 (A : Nat), .int .i64 n] ∧ Below W.heap.size W w) ⟨Blk.new _ _ _, bel_al (Below.refl _ _) _⟩ (fun W1 hW => ?_)
  obtain ⟨hX, hb⟩ := hW
  obtain ⟨x_0, x_1⟩ : _ ∧ _ := ⟨hX.1 0 _ rfl, hX.1 1 _ rfl⟩
  have B1 := Lib.hid hb
  clear hX hb
  go_wp2_with fail
  refine (CR.out _).mono ?_
  rintro e w2 ⟨rfl, hb⟩
  have B2 := Lib.hid (bel_on' B1.out hb)
  clear hb CR x_0 x_1 B1
  go_wp2
  go_ret2
  exact ⟨rfl, B2.out⟩
set_option maxHeartbeats 1000000 in
theorem prefix_field (p : Nat) (f : Int) (h0 : f ≠ 0) (h1 : f ≠ 32) (v : Value) (hv : ∃ a n, v = .agg #[.int .u32 a, .int .i64 n]) (W : World) :
    Calls Try.prog 10 #[.pointer (some ⟨p, 0, none⟩), .int .i64 f, v] W fun e w' => e = .returned (.tuple #[.int .i64 0, .int .i64 1]) ∧ Below W.heap.size W w' := by
  obtain ⟨a, n, rfl⟩ := hv
  have e0 : (f != 0) = true := by simp [h0]
  have e1 : (f != 32) = true := by simp [h1]
  go_enter Try.func10, Try.ntmps10
  go_upto_region 1 with fail
  refine at_code (S := fun w => Below W.heap.size W w) (bel_al (Below.refl _ _) _) (fun W1 hW => ?_)
  have B1 := Lib.hid hW
  clear hW
  go_wp2
  go_ret2
  exact ⟨rfl, B1.out⟩
set_option maxHeartbeats 1000000 in
theorem range_field (p : Nat) (f : Int) (h0 : f ≠ 72) (h1 : f ≠ 88) (lo hi : Nat) (W : World) :
    Calls Try.prog 15 #[.pointer (some ⟨p, 0, none⟩), .int .i64 f, .agg #[.int .u16 (lo : Nat), .int .u16 (hi : Nat)]] W fun e w' => e = .returned (.tuple #[.int .i64 0, .int .i64 1]) ∧ Below W.heap.size W w' := by
  have e0 : (f != 72) = true := by simp [h0]
  have e1 : (f != 88) = true := by simp [h1]
  go_enter Try.func15, Try.ntmps15
  go_upto_region 1 with fail
  refine at_code (S := fun w => Below W.heap.size W w) (bel_al (Below.refl _ _) _) (fun W1 hW => ?_)
  have B1 := Lib.hid hW
  clear hW
  go_wp2
  go_ret2
  exact ⟨rfl, B1.out⟩
set_option maxHeartbeats 1000000 in
theorem range_bounds (p : Nat) (f : Nat) (hf : f = 72 ∨ f = 88) (lo hi : Nat) (hgt : hi < lo) (W : World) :
    Calls Try.prog 15 #[.pointer (some ⟨p, 0, none⟩), .int .i64 (f : Nat), .agg #[.int .u16 (lo : Nat), .int .u16 (hi : Nat)]] W fun e w' => e = .returned (.tuple #[.int .i64 0, .int .i64 14]) ∧ Below W.heap.size W w' := by
  have hgt' : (hi : Int) < (lo : Int) := by omega
  go_enter Try.func15, Try.ntmps15
  go_upto_region 1 with fail
  refine at_code (S := fun w => Blk w W.heap.size [.int .u16 (lo : Nat), .int .u16 (hi : Nat)] ∧ Below W.heap.size W w) ⟨Blk.new _ _ _, bel_al (Below.refl _ _) _⟩ (fun W1 hW => ?_)
  obtain ⟨hX, hb⟩ := hW
  obtain ⟨x_0, x_1⟩ : _ ∧ _ := ⟨hX.1 0 _ rfl, hX.1 1 _ rfl⟩
  have B1 := Lib.hid hb
  clear hX hb
  rcases hf with rfl | rfl
  · go_wp2
    go_ret2
    exact ⟨rfl, B1.out⟩
  · go_wp2
    go_ret2
    exact ⟨rfl, B1.out⟩
end Go.Proofs.Ytggcbklififcgab
/- The document's fields. -/
namespace Go.Proofs.Ytggcbklififcgab
open Go.RowKit
set_option linter.unusedVariables false

set_option maxHeartbeats 1000000 in
theorem raddr_dst (d s q x y : Nat) (w : World) : Calls Try.prog 9 #[hv d s q x y, .int .i64 0] w fun e w' => e = .returned (.tuple #[.int .u32 (d : Nat), .bool true]) ∧ Below w.heap.size w w' := by
  go_enter Try.func9, Try.ntmps9
  go_wp2
  go_ret2
  exact ⟨rfl, bel_al (Below.refl _ _) _⟩
set_option maxHeartbeats 1000000 in
theorem raddr_src (d s q x y : Nat) (w : World) : Calls Try.prog 9 #[hv d s q x y, .int .i64 32] w fun e w' => e = .returned (.tuple #[.int .u32 (s : Nat), .bool true]) ∧ Below w.heap.size w w' := by
  go_enter Try.func9, Try.ntmps9
  go_wp2
  go_ret2
  exact ⟨rfl, bel_al (Below.refl _ _) _⟩
set_option maxHeartbeats 1000000 in
theorem raddr_no (d s q x y : Nat) (f : Int) (h0 : f ≠ 0) (h1 : f ≠ 32) (w : World) : Calls Try.prog 9 #[hv d s q x y, .int .i64 f] w fun e w' => e = .returned (.tuple #[.int .u32 ((0 : Nat) : Int), .bool false]) ∧ Below w.heap.size w w' := by
  have e0 : (f == 0) = false := by simp [h0]
  have e1 : (f == 32) = false := by simp [h1]
  go_enter Try.func9, Try.ntmps9
  go_wp2
  go_ret2
  exact ⟨rfl, bel_al (Below.refl _ _) _⟩
set_option maxHeartbeats 1000000 in
theorem rport_s (d s q x y : Nat) (w : World) : Calls Try.prog 14 #[hv d s q x y, .int .i64 72] w fun e w' => e = .returned (.tuple #[.int .u16 (x : Nat), .bool true]) ∧ Below w.heap.size w w' := by
  go_enter Try.func14, Try.ntmps14
  go_wp2
  go_ret2
  exact ⟨rfl, bel_al (Below.refl _ _) _⟩
set_option maxHeartbeats 1000000 in
theorem rport_d (d s q x y : Nat) (w : World) : Calls Try.prog 14 #[hv d s q x y, .int .i64 88] w fun e w' => e = .returned (.tuple #[.int .u16 (y : Nat), .bool true]) ∧ Below w.heap.size w w' := by
  go_enter Try.func14, Try.ntmps14
  go_wp2
  go_ret2
  exact ⟨rfl, bel_al (Below.refl _ _) _⟩
set_option maxHeartbeats 1000000 in
theorem rport_no (d s q x y : Nat) (f : Int) (h0 : f ≠ 72) (h1 : f ≠ 88) (w : World) : Calls Try.prog 14 #[hv d s q x y, .int .i64 f] w fun e w' => e = .returned (.tuple #[.int .u16 ((0 : Nat) : Int), .bool false]) ∧ Below w.heap.size w w' := by
  have e0 : (f == 72) = false := by simp [h0]
  have e1 : (f == 88) = false := by simp [h1]
  go_enter Try.func14, Try.ntmps14
  go_wp2
  go_ret2
  exact ⟨rfl, bel_al (Below.refl _ _) _⟩
theorem Blk.hold {Z : Nat → Prop} {W w' : World} {b : Nat} {cs : List Value} (h : Blk W b cs) (hH : Hold Z W w') (hz : Z b) : Blk w' b cs := ⟨fun i v hv => hH.cell hz (h.1 i v hv), fun i v hv => (hH.frozen hz (h.1 i v hv)).trans (h.2 i v hv)⟩
/-- Three blocks that a law's arguments lie in. -/
def Fx (W : World) (cp cr ch : List Value) (V : World) : Prop := Blk V W.heap.size cp ∧ Blk V (W.heap.size + 1) cr ∧ Blk V (W.heap.size + 2) ch ∧ Below W.heap.size W V ∧ W.heap.size + 3 ≤ V.heap.size
theorem Fx.on {W V V' : World} {cp cr ch : List Value} (h : Fx W cp cr ch V) (hb : Below V.heap.size V V') : Fx W cp cr ch V' := by
  obtain ⟨h1, h2, h3, h4, h5⟩ := h
  exact ⟨h1.on hb, h2.on hb, h3.on hb, bel_on' h4 hb, by have := hb.size; omega⟩
theorem Fx.hold {Z : Nat → Prop} {W V V' : World} {cp cr ch : List Value} (h : Fx W cp cr ch V) (hH : Hold Z V V') (hz : ∀ k, k < W.heap.size + 3 → Z k) : Fx W cp cr ch V' := by
  obtain ⟨h1, h2, h3, h4, h5⟩ := h
  exact ⟨h1.hold hH (hz _ (by omega)), h2.hold hH (hz _ (by omega)), h3.hold hH (hz _ (by omega)), h4.trans (hH.below (by omega) (fun k hk => hz k (by omega))), by have := hH.size; omega⟩
end Go.Proofs.Ytggcbklififcgab
