/- The document's Add to an empty list. -/
import Derived.Test.YtgcbngephokegaaP8
namespace Go.Proofs.Ytgcbngephokegaa
open Go.RowKit Go.Maps Go.MapKept Go.ChangeMaps Go.WideElems Go.Joins
set_option linter.unusedVariables false
set_option linter.unusedSimpArgs false

set_option maxRecDepth 100000 in
set_option maxHeartbeats 1000000 in
theorem radd_nil (W : World) (A k : Nat) (v : Int) (hA : A < 4294967296) (hk : k ≤ 32) (hr : rightB A (k : Nat) = true) :
    Calls Try.prog 12 #[.slice none 0 0, pv (A : Nat) (k : Nat), .int .i64 v] W fun e w' => ∃ u, e = .returned (.tuple #[u, .int .i64 0]) ∧ REnts w' W.heap.size u [(pth A k, v)] ∧ Below W.heap.size W w' := by
  have hrm : A % sz k = 0 := (of_decide_eq_true hr).2.2
  have HXC : Hid (ecell (pth A k, v) = [.int .u32 (A : Nat), .int .i64 (k : Nat), .int .i64 v]) := Lib.hid (by unfold ecell; rw [ad_right A k hA hk hrm, pth_len])
  have hC := Lib.hid (rright_any A (k : Nat) hA)
  rw [hr] at hC
  go_enter Try.func12, Try.ntmps12
  go_upto_region 1 with fail
  refine at_code (S := fun w1 => Blk w1 W.heap.size [.int .u32 (A : Nat), .int .i64 (k : Nat)] ∧ Below W.heap.size W w1) ⟨Blk.new _ _ _, bel_al (Below.refl _ _) _⟩ (fun W1 hW => ?_)
  have X1 := Lib.hid hW.1
  have B1 := Lib.hid hW.2
  have x_0 := hW.1.1 0 _ rfl
  have x_1 := hW.1.1 1 _ rfl
  clear hW
  go_wp2_with fail
  refine (hC.out W1).mono ?_
  rintro e w2 ⟨rfl, hb⟩
  have X2 := Lib.hid (X1.out.on hb)
  have B2 := Lib.hid (bel_on' B1.out hb)
  clear hb x_0 x_1 X1 B1 hC
  have x_0 := X2.out.1 0 _ rfl
  have x_1 := X2.out.1 1 _ rfl
  go_wp2_with fail
  clear x_0 x_1
  have BX0 : Hid (Blk (w2.alloc (.cells #[.int .u32 (A : Nat), .int .i64 (k : Nat), .int .i64 v] 93)) w2.heap.size [.int .u32 (A : Nat), .int .i64 (k : Nat), .int .i64 v]) := Lib.hid (Blk.new w2 93 [.int .u32 (A : Nat), .int .i64 (k : Nat), .int .i64 v])
  have BB0 : Hid (Below W.heap.size W (w2.alloc (.cells #[.int .u32 (A : Nat), .int .i64 (k : Nat), .int .i64 v] 93))) := Lib.hid (bel_al B2.out _)
  go_loopw [8] (fun jv wr => jv = .int .i64 0 ∧ Hid (Below W.heap.size W wr) ∧ Hid (Blk wr w2.heap.size [.int .u32 (A : Nat), .int .i64 (k : Nat), .int .i64 v])) (fun jv _ => 1 - (intOf jv).toNat)
  case atStart => exact ⟨rfl, BB0, BX0⟩
  case round =>
    obtain ⟨rfl, Bw, Xw⟩ := hrel
    clear BX0 BB0
    go_upto_region 5 with fail
    go_region
    all_goals
      go_upto_region 7 with fail
      go_region
      all_goals
        go_upto_region 11 with fail
        refine at_code (S := fun w => Below W.heap.size W w ∧ Blk w w2.heap.size [.int .u32 (A : Nat), .int .i64 (k : Nat), .int .i64 v]) ⟨by repeat (first | exact Bw.out | refine Below.drew ?_), Xw.out⟩ (fun wA h9 => ?_)
        have BA := Lib.hid h9.1
        have y_0 := h9.2.1 0 _ rfl
        have y_1 := h9.2.1 1 _ rfl
        have y_2 := h9.2.1 2 _ rfl
        clear h9 Bw Xw
        obtain ⟨i0, hi0, hz0, hz1, hz2⟩ := hinfo_parts infoREnt
        have hown1 := (row_nil wA W.heap.size 93 3).1
        have hszA := BA.out.size
        go_wp2_with (at_builtin; refine wpList_append_own _ rfl _ _ 34 rfl W.heap.size 93 i0 (.agg #[.int .u32 0, .int .i64 0, .int .i64 0]) 3 24 Try.underlying34 hi0 hz0 hz1 hz2 rfl (by decide) _ _ _ rfl (hown1.alloc _) ⟨wA.heap.size, 0, none⟩ 1 1 [.int .u32 (A : Nat), .int .i64 (k : Nat), .int .i64 v] rfl rfl ?c1 ?c2 ?c3 ?c4 ?c5 ?_)
        case c1 => exact fun i u hu => by rw [add_plain, Nat.zero_add]; exact (Blk.new wA 93 [.int .u32 (A : Nat), .int .i64 (k : Nat), .int .i64 v]).1 i u hu
        case c2 => intro x hx; simp at hx; rcases hx with rfl | rfl | rfl <;> rfl
        case c3 => unfold maxLen; omega
        case c4 => omega
        case c5 => simp; omega
        · intro v2 wB hown2 hgrow hnl2
          have BB := Lib.hid ((BA.out.alloc hszA _).grown hgrow (by simp; omega) (fun q e => (World.ownsRow.lt hown1 q e).1))
          have RF : Hid (REnts wB W.heap.size v2 [(pth A k, v)]) := Lib.hid (by
            unfold REnts
            rw [show ecells [(pth A k, v)] = ecell (pth A k, v) by simp [ecells], HXC.out]
            exact ⟨by simpa using hown2, ⟨fun e => absurd e hnl2, fun e => (by simp at e)⟩⟩)
          obtain ⟨g5, cap5, e5, hcap5⟩ : ∃ g cap, v2 = .slice (some ⟨g, 0, none⟩) 1 cap ∧ 1 ≤ cap := by
            rcases RF.out.1.2 with ⟨-, e⟩ | ⟨g1, c1, cur1, e, -, -, q3⟩
            · simp at e
            · exact ⟨g1, c1, e, q3.1⟩
          subst e5
          clear hgrow hnl2 hown2 hown1 BA hszA y_0 y_1 y_2 hi0 hz0 hz1 hz2
          go_wp2
          exact bodyPost_ret (v := .tuple #[.slice (some ⟨g5, 0, none⟩) 1 cap5, .int .i64 0]) (by simp [results, Try.results12, go_sem]) rfl ⟨_, rfl, RF.out, BB.out⟩
end Go.Proofs.Ytgcbngephokegaa
