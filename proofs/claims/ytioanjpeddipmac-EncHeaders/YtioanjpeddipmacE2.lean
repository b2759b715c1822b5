/- The set of a header. -/
import Derived.Test.YtioanjpeddipmacE1
namespace Go.Proofs.Ytioanjpeddipmac
open Go.RowKit
set_option linter.unusedVariables false

set_option maxHeartbeats 1000000 in
theorem cube_none (a : AL) (most : Nat) (ns : List Nd) (w : World) (h : Ar w a most ns) :
    Calls Try.prog 54 #[.pointer (some ⟨a.p, 0, none⟩), .slice none 0 0] w (Ans most (some 1, ns) w a) := by
  unfold Ans
  go_enter Try.func54, Try.ntmps54
  go_wp2_with fail
  go_loopw [6, 7] (fun fv iv wr => fv = .int .i64 1 ∧ iv = .int .i64 (-1) ∧ w = wr) (fun _ iv _ => 0)
  case atStart => exact ⟨rfl, rfl, rfl⟩
  case round =>
    obtain ⟨rfl, rfl, rfl⟩ := hrel
    go_wp2
    go_ret2
    exact ⟨rfl, a, h, Tr.refl _ _ _⟩
set_option maxRecDepth 100000 in
set_option maxHeartbeats 2000000 in
theorem header_any {Z : Nat → Prop} {p most : Nat} {W : World} {ns : List Nd} (h : Sta Z p W most ns) (d s q x y : Nat) (hh : HB d s q x y) :
    Calls Try.prog 21 #[.pointer (some ⟨p, 0, none⟩), hv d s q x y] W (Got2 Z p most (cF most ns (fl d s q x y 0 104)) W) := by
  have CF := Lib.hid (fun w => first_any d s q x y hh 0 104 (by omega) w)
  unfold LitRet at CF
  have S0 := Lib.hid h
  unfold Got2
  obtain ⟨R, hR⟩ : ∃ R, cF most ns (fl d s q x y 0 104) = R := ⟨_, rfl⟩
  have CC : Hid (∀ (Z' : Nat → Prop) (w : World) (h' : Sta Z' p w most ns) (b cap : Nat), LitC w b (natL (fl d s q x y 0 104)) → Z' b → Calls Try.prog 31 #[.pointer (some ⟨p, 0, none⟩), .slice (some ⟨b, 0, none⟩) 104 cap] w (Got2 Z' p most R w)) := fun Z' w h' b cap hl hb => by
    have k := sCube h' (fl d s q x y 0 104) (fl_rise d s q x y 0 104 (by omega)) b cap hl hb
    rw [fl_len, hR] at k
    exact k
  unfold Got2 at CC
  rw [hR]
  obtain ⟨r, hr⟩ : ∃ r : Int, ((rv R.1 : Nat) : Int) = r := ⟨_, rfl⟩
  obtain ⟨er', her⟩ : ∃ x : Int, er R.1 = x := ⟨_, rfl⟩
  rw [hr, her] at CC ⊢
  clear hR hr her h
  go_enter Try.func21, Try.ntmps21
  go_upto_region 3 with fail
  refine at_code (S := fun w => Blk w W.heap.size [.int .u32 (d : Nat), .int .u32 (s : Nat), .int .u8 (q : Nat), .int .u16 (x : Nat), .int .u16 (y : Nat)] ∧ Below W.heap.size W w) ⟨Blk.new _ _ _, bel_al (Below.refl _ _) _⟩ (fun W1 hW => ?_)
  obtain ⟨hX, hb⟩ := hW
  obtain ⟨x_0, x_1, x_2, x_3, x_4⟩ : _ ∧ _ ∧ _ ∧ _ ∧ _ := ⟨hX.1 0 _ rfl, hX.1 1 _ rfl, hX.1 2 _ rfl, hX.1 3 _ rfl, hX.1 4 _ rfl⟩
  have B1 := Lib.hid hb
  clear hX hb
  go_wp2_with fail
  refine (CF.out _).mono ?_
  rintro e w2 ⟨v, rfl, hb2, hO⟩
  rw [fl_len] at hO
  obtain ⟨g, cap, rfl, hg1, hg2, hL⟩ := litC_of hO (by rw [natL_len, fl_len]) (by omega)
  have hb3 : Below W.heap.size W w2 := bel_on' B1.out hb2
  have hS2 := S0.out.grow hb3 (Y := fun k => k = g) (fun k hk => by subst hk; exact ⟨by have := B1.out.size; omega, hg2⟩)
  have C2 := Lib.hid (CC.out _ w2 hS2 g cap hL (Or.inr rfl))
  have B2 := Lib.hid hb3
  clear hb2 hO hL hb3 hS2 CC CF x_0 x_1 x_2 x_3 x_4
  go_wp2_with fail
  refine C2.out.mono ?_
  rintro e w3 ⟨rfl, hS, hH⟩
  have S3 := Lib.hid (hS.less (fun k hk => Or.inl hk) : Sta Z p w3 most R.2)
  have H3 := Lib.hid ((Hold.of B2.out).trans (hH.less (fun k hk => Or.inl hk)) : Hold Z W w3)
  clear hS hH
  go_wp2
  go_ret2
  exact ⟨rfl, S3.out, H3.out⟩
end Go.Proofs.Ytioanjpeddipmac
