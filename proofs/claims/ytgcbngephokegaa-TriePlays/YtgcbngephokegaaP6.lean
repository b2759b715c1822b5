/- The document's Add. -/
import Derived.Test.YtgcbngephokegaaP2
import Derived.Deep.RegionHeld3
namespace Go.Proofs.Ytgcbngephokegaa
open Go.RowKit Go.Maps Go.MapKept Go.ChangeMaps Go.WideElems Go.Joins
set_option linter.unusedVariables false
set_option linter.unusedSimpArgs false

def isAt (r : List Ent) (j A k : Nat) (v : Int) : Bool := (r[j]?.map (isB A (k : Nat) v)).getD false
def addK (r : List Ent) (j A k : Nat) (v : Int) : Int := if isAt r j A k v = true then 4 else 0
def addR (r : List Ent) (j A k : Nat) (v : Int) : List Ent := if isAt r j A k v = true then r else r.take j ++ (pth A k, v) :: r.drop j
theorem ecells_one (L : List Ent) : ∀ u ∈ ecells L, u.oneCell' = true := fun u hu => by
  unfold ecells at hu
  obtain ⟨x, -, hx⟩ := List.mem_flatMap.1 hu
  simp [ecell] at hx
  rcases hx with rfl | rfl | rfl <;> rfl
theorem ecells_len (L : List Ent) : (ecells L).length = L.length * 3 := by
  induction L with
  | nil => rfl
  | cons x L ih => show (ecell x ++ ecells L).length = _; rw [List.length_append, ih, List.length_cons]; show 3 + _ = _; omega
theorem take_get (r : List Ent) (j i : Nat) (u : Value) (h : (ecells (r.take j))[i]? = some u) : (ecells r)[i]? = some u := by
  have e : ecells r = ecells (r.take j) ++ ecells (r.drop j) := by rw [← ecells_app, List.take_append_drop]
  have hl : i < (ecells (r.take j)).length := by
    rcases Nat.lt_or_ge i (ecells (r.take j)).length with q | q
    · exact q
    · rw [List.getElem?_eq_none q] at h; cases h
  rw [e, List.getElem?_append_left hl]; exact h
theorem drop_get (r : List Ent) (j i : Nat) (hj : j ≤ r.length) (u : Value) (h : (ecells (r.drop j))[i]? = some u) : (ecells r)[j * 3 + i]? = some u := by
  have e : ecells r = ecells (r.take j) ++ ecells (r.drop j) := by rw [← ecells_app, List.take_append_drop]
  have hl : (ecells (r.take j)).length = j * 3 := by rw [ecells_len, List.length_take]; omega
  rw [e, List.getElem?_append_right (by omega), hl, Nat.add_sub_cancel_left]; exact h
set_option maxRecDepth 100000 in
set_option maxHeartbeats 8000000 in
theorem radd_right (W : World) (b0 : Nat) (l : Value) (r : List Ent) (A k : Nat) (v : Int) (hA : A < 4294967296) (hk : k ≤ 32) (hr : rightB A (k : Nat) = true) (hl : REnts W b0 l r) (hlen : r.length ≤ 100000) (hb0 : b0 ≤ W.heap.size) (hne : 0 < r.length) :
    Calls Try.prog 12 #[l, pv (A : Nat) (k : Nat), .int .i64 v] W fun e w' => ∃ j u, j ≤ r.length ∧ Hid (∀ i y, i < j → r[i]? = some y → befB (ad y.1) (y.1.length : Nat) y.2 A (k : Nat) v = true) ∧ Hid (∀ y, r[j]? = some y → befB (ad y.1) (y.1.length : Nat) y.2 A (k : Nat) v = false) ∧
      e = .returned (.tuple #[u, .int .i64 (addK r j A k v)]) ∧ REnts w' b0 u (addR r j A k v) ∧ Below W.heap.size W w' ∧ (u = l ∨ REnts w' W.heap.size u (addR r j A k v)) := by
  have hrm : A % sz k = 0 := (of_decide_eq_true hr).2.2
  have HXC : Hid (ecell (pth A k, v) = [.int .u32 (A : Nat), .int .i64 (k : Nat), .int .i64 v]) := Lib.hid (by unfold ecell; rw [ad_right A k hA hk hrm, pth_len])
  have hC := Lib.hid (rright_any A (k : Nat) hA)
  rw [hr] at hC
  have HL := Lib.hid hl
  have HB0 := Lib.hid hb0
  obtain ⟨g, cap0, el, -, -, -⟩ := Row.at hl hne
  subst el
  have HG : Hid (∀ w, Below W.heap.size W w → ∀ i u, (ecells r)[i]? = some u → w.cell? ⟨g, i, none⟩ = some u) := Lib.hid (fun w hb => by
    obtain ⟨g2, cap2, q1, -, -, q2⟩ := Row.at (show Row w b0 _ _ _ _ (ecells r) from Row.on hl hb) hne
    simp at q1
    obtain ⟨rfl, -⟩ := q1
    exact q2)
  have HCap : Hid (r.length ≤ cap0) := Lib.hid (by
    rcases hl.1.2 with ⟨e, -⟩ | ⟨g1, c1, cur1, e, -, -, q3⟩
    · cases e
    · cases e
      exact q3.1)
  clear hl hb0
  go_enter Try.func12, Try.ntmps12
  go_upto_region 1 with fail
  refine at_code (S := fun w1 => Blk w1 W.heap.size [.int .u32 (A : Nat), .int .i64 (k : Nat)] ∧ Below W.heap.size W w1) ⟨Blk.new _ _ _, bel_al (Below.refl _ _) _⟩ (fun W1 hW => ?_)
  have X1 := Lib.hid hW.1
  have B1 := Lib.hid hW.2
  have x_0 := hW.1.1 0 _ rfl
  have x_1 := hW.1.1 1 _ rfl
  clear hW
  go_wp2_with fail
  refine (hC.out W1).mono ?_
  rintro e w2 ⟨rfl, hb⟩
  have X2 := Lib.hid (X1.out.on hb)
  have B2 := Lib.hid (bel_on' B1.out hb)
  clear hb x_0 x_1 X1 B1 hC
  have x_0 := X2.out.1 0 _ rfl
  have x_1 := X2.out.1 1 _ rfl
  go_wp2_with fail
  clear x_0 x_1
  have BX0 : Hid (Blk (w2.alloc (.cells #[.int .u32 (A : Nat), .int .i64 (k : Nat), .int .i64 v] 93)) w2.heap.size [.int .u32 (A : Nat), .int .i64 (k : Nat), .int .i64 v]) := Lib.hid (Blk.new w2 93 [.int .u32 (A : Nat), .int .i64 (k : Nat), .int .i64 v])
  have BB0 : Hid (Below W.heap.size W (w2.alloc (.cells #[.int .u32 (A : Nat), .int .i64 (k : Nat), .int .i64 v] 93))) := Lib.hid (bel_al B2.out _)
  go_loopw [8] (fun jv wr => ∃ (j : Nat), jv = .int .i64 (j : Nat) ∧ j ≤ r.length ∧ Hid (∀ i y, i < j → r[i]? = some y → befB (ad y.1) (y.1.length : Nat) y.2 A (k : Nat) v = true) ∧ Hid (Below W.heap.size W wr) ∧ Hid (Blk wr w2.heap.size [.int .u32 (A : Nat), .int .i64 (k : Nat), .int .i64 v])) (fun jv _ => r.length - (intOf jv).toNat)
  case atStart => exact ⟨0, rfl, Nat.zero_le _, Lib.hid (fun i y h => by omega), BB0, BX0⟩
  case round =>
    obtain ⟨j, rfl, hj, HJ, Bw, Xw⟩ := hrel
    clear BX0 BB0
    have x_0 := Xw.out.1 0 _ rfl
    have x_1 := Xw.out.1 1 _ rfl
    have x_2 := Xw.out.1 2 _ rfl
    by_cases hjl : j < r.length
    · have hw1 : IntKind.i64.wrap ((j : Int) + 1) = ((j + 1 : Nat) : Int) := by rw [IntKind.wrap_i64]; omega
      obtain ⟨y, hy, -, -⟩ := drop_at hjl
      have HY := Lib.hid hy
      have hcell : Hid (∀ w, Below W.heap.size W w → w.cell? ⟨g, j * 3, none⟩ = some (.int .u32 (ad y.1 : Nat)) ∧ w.cell? ⟨g, j * 3 + 1, none⟩ = some (.int .i64 (y.1.length : Nat)) ∧ w.cell? ⟨g, j * 3 + 2, none⟩ = some (.int .i64 y.2)) := Lib.hid (fun w hb => by
        have hg := fun i (hi : i < 3) => flat_get ecell 3 r (fun _ _ => rfl) j i y hy hi
        refine ⟨HG.out w hb (j * 3) _ ?_, HG.out w hb (j * 3 + 1) _ ?_, HG.out w hb (j * 3 + 2) _ ?_⟩
        · have := hg 0 (by omega); rw [Nat.mul_comm] at this; exact this
        · have := hg 1 (by omega); rw [Nat.mul_comm] at this; exact this
        · have := hg 2 (by omega); rw [Nat.mul_comm] at this; exact this)
      obtain ⟨c0, c1, c2⟩ := hcell.out wr Bw.out
      have hbf := fun w => before_any (ad y.1) (y.1.length : Nat) y.2 A (k : Nat) v w
      obtain ⟨b, hb⟩ : ∃ b, befB (ad y.1) (y.1.length : Nat) y.2 A (k : Nat) v = b := ⟨_, rfl⟩
      rw [hb] at hbf
      have HBf := Lib.hid hbf
      have HBb := Lib.hid hb
      clear hbf hb hy
      go_upto_region 5 with fail
      go_region_held3 (fun w' => Below wr.heap.size wr w' ∧ ∀ b o, (wr.cell? ⟨b, o, none⟩).isSome = true → w'.cell? ⟨b, o, none⟩ = wr.cell? ⟨b, o, none⟩)
        ((refine ckeep ?_; repeat (first | exact Below.refl _ _ | assumption | exact And.left (by assumption) | refine Below.drew ?_ | refine cbelow_al ?_ _ | refine bel_on' ?_ (by assumption))))
        (first | (go_at_call 46; (with_reducible refine (HBf.out _).mono ?_); rintro e w' ⟨rfl, hb⟩))
      all_goals
        rename_i hH
        have B5 := Lib.hid (bel_on' Bw.out hH.1)
        have X5 := Lib.hid (Xw.out.on hH.1)
        clear hH x_0 x_1 x_2 c0 c1 c2 Bw Xw
        cases b with
        | true =>
          have HJ2 : Hid (∀ i y, i < j + 1 → r[i]? = some y → befB (ad y.1) (y.1.length : Nat) y.2 A (k : Nat) v = true) := Lib.hid (fun i z hi hz => by
            rcases Nat.lt_or_ge i j with q | q
            · exact HJ.out i z q hz
            · obtain rfl : i = j := by omega
              rw [HY.out] at hz
              cases hz
              exact HBb.out)
          go_wp2_with fail
          refine ⟨⟨j + 1, by first | rfl | rw [hw1], by omega, HJ2, B5, X5⟩, by simp [intOf] <;> omega⟩
        | false =>
          go_upto_region 7 with fail
          obtain ⟨c0, c1, c2⟩ := hcell.out w' B5.out
          have x_0 := X5.out.1 0 _ rfl
          have x_1 := X5.out.1 1 _ rfl
          have x_2 := X5.out.1 2 _ rfl
          have HA2 : Hid (∀ z, r[j]? = some z → befB (ad z.1) (z.1.length : Nat) z.2 A (k : Nat) v = false) := Lib.hid (fun z hz => by rw [HY.out] at hz; cases hz; exact HBb.out)
          obtain ⟨b1, b2, b3, hb⟩ : ∃ b1 b2 b3 : Bool, Hid ((((ad y.1 : Nat) : Int) == (A : Int)) = b1 ∧ (((y.1.length : Nat) : Int) == ((k : Nat) : Int)) = b2 ∧ (y.2 == v) = b3) := ⟨_, _, _, Lib.hid ⟨rfl, rfl, rfl⟩⟩
          have hB : isB A (k : Nat) v y = (b1 && (b2 && b3)) := by unfold isB; rw [hb.out.1, hb.out.2.1, hb.out.2.2]
          have HIA : Hid (isAt r j A k v = (b1 && (b2 && b3))) := Lib.hid (by unfold isAt; rw [HY.out]; exact hB)
          obtain ⟨hb1, hb2, hb3⟩ := hb.out
          have BZ := B5
          have XZ := X5
          clear hb hB B5 X5
          cases b1 <;> cases b2 <;> cases b3
          · go_region
            all_goals
              clear c0 c1 c2 x_0 x_1 x_2 hb1 hb2 hb3
              go_upto_region 9 with fail
              refine at_code (S := fun w => Below W.heap.size W w ∧ Blk w w2.heap.size [.int .u32 (A : Nat), .int .i64 (k : Nat), .int .i64 v]) ⟨by repeat (first | exact BZ.out | refine Below.drew ?_), XZ.out⟩ (fun W9 h9 => ?_)
              have B9 := Lib.hid h9.1
              have X9 := Lib.hid h9.2
              clear h9
              have hcap := HCap.out
              obtain ⟨i0, hi0, hz0, hz1, hz2⟩ := hinfo_parts infoREnt
              have hown0 := (row_nil W9 W.heap.size 93 3).1
              have hsz9 := B9.out.size
              have htl : (r.take j).length = j := by rw [List.length_take]; omega
              have hdl : (r.drop j).length = r.length - j := List.length_drop
              have HTL := Lib.hid htl
              have HDL := Lib.hid hdl
              clear htl hdl
              go_wp2_with (at_builtin; refine wpList_append_own _ rfl _ _ 34 rfl W.heap.size 93 i0 (.agg #[.int .u32 0, .int .i64 0, .int .i64 0]) 3 24 Try.underlying34 hi0 hz0 hz1 hz2 rfl (by decide) _ _ _ rfl hown0 ⟨g, 0, none⟩ j _ (ecells (r.take j)) rfl ?c0 ?c1 ?c2 ?c3 ?c4 ?c5 ?_)
              case c0 => rw [ecells_len, HTL.out]
              case c1 => exact fun i u hu => by rw [add_plain, Nat.zero_add]; exact HG.out W9 B9.out i u (take_get r j i u hu)
              case c2 => exact ecells_one _
              case c3 => unfold maxLen; omega
              case c4 => omega
              case c5 => omega
              · intro v1 wA hown1 hgrow hnl
                have BA := Lib.hid (B9.out.grown hgrow hsz9 (fun q e => (World.ownsRow.lt hown0 q e).1))
                have XA : Hid (Blk wA w2.heap.size [.int .u32 (A : Nat), .int .i64 (k : Nat), .int .i64 v]) := Lib.hid (Keep.blk ((Keep.refl (fun _ => False) W9).grown hgrow (fun q e => by cases e)) X9.out (fun q => q))
                clear hgrow hnl hown0 B9 X9 hsz9
                have y_0 := XA.out.1 0 _ rfl
                have y_1 := XA.out.1 1 _ rfl
                have y_2 := XA.out.1 2 _ rfl
                have hszA := BA.out.size
                go_wp2_with (at_builtin; refine wpList_append_own _ rfl _ _ 34 rfl W.heap.size 93 i0 (.agg #[.int .u32 0, .int .i64 0, .int .i64 0]) 3 24 Try.underlying34 hi0 hz0 hz1 hz2 rfl (by decide) _ _ _ rfl (hown1.alloc _) ⟨wA.heap.size, 0, none⟩ 1 1 [.int .u32 (A : Nat), .int .i64 (k : Nat), .int .i64 v] rfl rfl ?c1 ?c2 ?c3 ?c4 ?c5 ?_)
                case c1 => exact fun i u hu => by rw [add_plain, Nat.zero_add]; exact (Blk.new wA 93 [.int .u32 (A : Nat), .int .i64 (k : Nat), .int .i64 v]).1 i u hu
                case c2 => intro x hx; simp at hx; rcases hx with rfl | rfl | rfl <;> rfl
                case c3 => unfold maxLen; omega
                case c4 => omega
                case c5 => simp; omega
                · intro v2 wB hown2 hgrow hnl2
                  have BB := Lib.hid ((BA.out.alloc hszA _).grown hgrow (by simp; omega) (fun q e => (World.ownsRow.lt hown1 q e).1))
                  have NV := Lib.hid hnl2
                  clear hgrow hnl2 hown1 BA XA hszA y_0 y_1 y_2
                  have hszB := BB.out.size
                  go_wp2_with (at_builtin; refine wpList_append_own _ rfl _ _ 34 rfl W.heap.size 93 i0 (.agg #[.int .u32 0, .int .i64 0, .int .i64 0]) 3 24 Try.underlying34 hi0 hz0 hz1 hz2 rfl (by decide) _ _ _ rfl hown2 _ _ _ (ecells (r.drop j)) rfl ?c0 ?c1 ?c2 ?c3 ?c4 ?c5 ?_)
                  case c0 => rw [ecells_len, HDL.out]
                  case c1 => exact fun i u hu => by rw [add_plain]; have := HG.out wB BB.out (j * 3 + i) u (drop_get r j i hj u hu); simpa using this
                  case c2 => exact ecells_one _
                  case c3 => unfold maxLen; omega
                  case c4 => omega
                  case c5 => omega
                  · intro v3 wC hown3 hgrow hnl3
                    have BC := Lib.hid (BB.out.grown hgrow hszB (fun q e => (World.ownsRow.lt hown2 q e).1))
                    have RF : Hid (REnts wC W.heap.size v3 (addR r j A k v)) := Lib.hid (by
                      unfold addR REnts
                      rw [HIA.out, if_neg (by simp)]
                      have hle : (r.take j ++ (pth A k, v) :: r.drop j).length = 0 + j + 1 + (r.length - j) := by rw [List.length_append, List.length_cons, HTL.out, HDL.out]; omega
                      have hce : ecells (r.take j ++ (pth A k, v) :: r.drop j) = [] ++ ecells (r.take j) ++ [.int .u32 (A : Nat), .int .i64 (k : Nat), .int .i64 v] ++ ecells (r.drop j) := by
                        rw [ecells_app, show ecells ((pth A k, v) :: r.drop j) = ecell (pth A k, v) ++ ecells (r.drop j) from rfl, HXC.out]; simp
                      rw [hle, hce]
                      refine Row.base (base := W.heap.size) ⟨by simpa using hown3, ⟨fun e => ?_, fun e => by omega⟩⟩ (Nat.le_refl _)
                      exact absurd (hnl3.1 e).1 NV.out)
                    clear hgrow hnl3 hown3 hown2 hi0 hz0 hz1 hz2 BB hszB
                    go_wp2
                    exact bodyPost_ret (v := .tuple #[v3, .int .i64 0]) (by simp [results, Try.results12, go_sem]) rfl ⟨j, v3, hj, HJ, HA2, by unfold addK; rw [HIA.out]; rfl, Row.base RF.out HB0.out, BC.out, Or.inr RF.out⟩
          · go_region
            all_goals
              clear c0 c1 c2 x_0 x_1 x_2 hb1 hb2 hb3
              go_upto_region 9 with fail
              refine at_code (S := fun w => Below W.heap.size W w ∧ Blk w w2.heap.size [.int .u32 (A : Nat), .int .i64 (k : Nat), .int .i64 v]) ⟨by repeat (first | exact BZ.out | refine Below.drew ?_), XZ.out⟩ (fun W9 h9 => ?_)
              have B9 := Lib.hid h9.1
              have X9 := Lib.hid h9.2
              clear h9
              have hcap := HCap.out
              obtain ⟨i0, hi0, hz0, hz1, hz2⟩ := hinfo_parts infoREnt
              have hown0 := (row_nil W9 W.heap.size 93 3).1
              have hsz9 := B9.out.size
              have htl : (r.take j).length = j := by rw [List.length_take]; omega
              have hdl : (r.drop j).length = r.length - j := List.length_drop
              have HTL := Lib.hid htl
              have HDL := Lib.hid hdl
              clear htl hdl
              go_wp2_with (at_builtin; refine wpList_append_own _ rfl _ _ 34 rfl W.heap.size 93 i0 (.agg #[.int .u32 0, .int .i64 0, .int .i64 0]) 3 24 Try.underlying34 hi0 hz0 hz1 hz2 rfl (by decide) _ _ _ rfl hown0 ⟨g, 0, none⟩ j _ (ecells (r.take j)) rfl ?c0 ?c1 ?c2 ?c3 ?c4 ?c5 ?_)
              case c0 => rw [ecells_len, HTL.out]
              case c1 => exact fun i u hu => by rw [add_plain, Nat.zero_add]; exact HG.out W9 B9.out i u (take_get r j i u hu)
              case c2 => exact ecells_one _
              case c3 => unfold maxLen; omega
              case c4 => omega
              case c5 => omega
              · intro v1 wA hown1 hgrow hnl
                have BA := Lib.hid (B9.out.grown hgrow hsz9 (fun q e => (World.ownsRow.lt hown0 q e).1))
                have XA : Hid (Blk wA w2.heap.size [.int .u32 (A : Nat), .int .i64 (k : Nat), .int .i64 v]) := Lib.hid (Keep.blk ((Keep.refl (fun _ => False) W9).grown hgrow (fun q e => by cases e)) X9.out (fun q => q))
                clear hgrow hnl hown0 B9 X9 hsz9
                have y_0 := XA.out.1 0 _ rfl
                have y_1 := XA.out.1 1 _ rfl
                have y_2 := XA.out.1 2 _ rfl
                have hszA := BA.out.size
                go_wp2_with (at_builtin; refine wpList_append_own _ rfl _ _ 34 rfl W.heap.size 93 i0 (.agg #[.int .u32 0, .int .i64 0, .int .i64 0]) 3 24 Try.underlying34 hi0 hz0 hz1 hz2 rfl (by decide) _ _ _ rfl (hown1.alloc _) ⟨wA.heap.size, 0, none⟩ 1 1 [.int .u32 (A : Nat), .int .i64 (k : Nat), .int .i64 v] rfl rfl ?c1 ?c2 ?c3 ?c4 ?c5 ?_)
                case c1 => exact fun i u hu => by rw [add_plain, Nat.zero_add]; exact (Blk.new wA 93 [.int .u32 (A : Nat), .int .i64 (k : Nat), .int .i64 v]).1 i u hu
                case c2 => intro x hx; simp at hx; rcases hx with rfl | rfl | rfl <;> rfl
                case c3 => unfold maxLen; omega
                case c4 => omega
                case c5 => simp; omega
                · intro v2 wB hown2 hgrow hnl2
                  have BB := Lib.hid ((BA.out.alloc hszA _).grown hgrow (by simp; omega) (fun q e => (World.ownsRow.lt hown1 q e).1))
                  have NV := Lib.hid hnl2
                  clear hgrow hnl2 hown1 BA XA hszA y_0 y_1 y_2
                  have hszB := BB.out.size
                  go_wp2_with (at_builtin; refine wpList_append_own _ rfl _ _ 34 rfl W.heap.size 93 i0 (.agg #[.int .u32 0, .int .i64 0, .int .i64 0]) 3 24 Try.underlying34 hi0 hz0 hz1 hz2 rfl (by decide) _ _ _ rfl hown2 _ _ _ (ecells (r.drop j)) rfl ?c0 ?c1 ?c2 ?c3 ?c4 ?c5 ?_)
                  case c0 => rw [ecells_len, HDL.out]
                  case c1 => exact fun i u hu => by rw [add_plain]; have := HG.out wB BB.out (j * 3 + i) u (drop_get r j i hj u hu); simpa using this
                  case c2 => exact ecells_one _
                  case c3 => unfold maxLen; omega
                  case c4 => omega
                  case c5 => omega
                  · intro v3 wC hown3 hgrow hnl3
                    have BC := Lib.hid (BB.out.grown hgrow hszB (fun q e => (World.ownsRow.lt hown2 q e).1))
                    have RF : Hid (REnts wC W.heap.size v3 (addR r j A k v)) := Lib.hid (by
                      unfold addR REnts
                      rw [HIA.out, if_neg (by simp)]
                      have hle : (r.take j ++ (pth A k, v) :: r.drop j).length = 0 + j + 1 + (r.length - j) := by rw [List.length_append, List.length_cons, HTL.out, HDL.out]; omega
                      have hce : ecells (r.take j ++ (pth A k, v) :: r.drop j) = [] ++ ecells (r.take j) ++ [.int .u32 (A : Nat), .int .i64 (k : Nat), .int .i64 v] ++ ecells (r.drop j) := by
                        rw [ecells_app, show ecells ((pth A k, v) :: r.drop j) = ecell (pth A k, v) ++ ecells (r.drop j) from rfl, HXC.out]; simp
                      rw [hle, hce]
                      refine Row.base (base := W.heap.size) ⟨by simpa using hown3, ⟨fun e => ?_, fun e => by omega⟩⟩ (Nat.le_refl _)
                      exact absurd (hnl3.1 e).1 NV.out)
                    clear hgrow hnl3 hown3 hown2 hi0 hz0 hz1 hz2 BB hszB
                    go_wp2
                    exact bodyPost_ret (v := .tuple #[v3, .int .i64 0]) (by simp [results, Try.results12, go_sem]) rfl ⟨j, v3, hj, HJ, HA2, by unfold addK; rw [HIA.out]; rfl, Row.base RF.out HB0.out, BC.out, Or.inr RF.out⟩
          · go_region
            all_goals
              clear c0 c1 c2 x_0 x_1 x_2 hb1 hb2 hb3
              go_upto_region 9 with fail
              refine at_code (S := fun w => Below W.heap.size W w ∧ Blk w w2.heap.size [.int .u32 (A : Nat), .int .i64 (k : Nat), .int .i64 v]) ⟨by repeat (first | exact BZ.out | refine Below.drew ?_), XZ.out⟩ (fun W9 h9 => ?_)
              have B9 := Lib.hid h9.1
              have X9 := Lib.hid h9.2
              clear h9
              have hcap := HCap.out
              obtain ⟨i0, hi0, hz0, hz1, hz2⟩ := hinfo_parts infoREnt
              have hown0 := (row_nil W9 W.heap.size 93 3).1
              have hsz9 := B9.out.size
              have htl : (r.take j).length = j := by rw [List.length_take]; omega
              have hdl : (r.drop j).length = r.length - j := List.length_drop
              have HTL := Lib.hid htl
              have HDL := Lib.hid hdl
              clear htl hdl
              go_wp2_with (at_builtin; refine wpList_append_own _ rfl _ _ 34 rfl W.heap.size 93 i0 (.agg #[.int .u32 0, .int .i64 0, .int .i64 0]) 3 24 Try.underlying34 hi0 hz0 hz1 hz2 rfl (by decide) _ _ _ rfl hown0 ⟨g, 0, none⟩ j _ (ecells (r.take j)) rfl ?c0 ?c1 ?c2 ?c3 ?c4 ?c5 ?_)
              case c0 => rw [ecells_len, HTL.out]
              case c1 => exact fun i u hu => by rw [add_plain, Nat.zero_add]; exact HG.out W9 B9.out i u (take_get r j i u hu)
              case c2 => exact ecells_one _
              case c3 => unfold maxLen; omega
              case c4 => omega
              case c5 => omega
              · intro v1 wA hown1 hgrow hnl
                have BA := Lib.hid (B9.out.grown hgrow hsz9 (fun q e => (World.ownsRow.lt hown0 q e).1))
                have XA : Hid (Blk wA w2.heap.size [.int .u32 (A : Nat), .int .i64 (k : Nat), .int .i64 v]) := Lib.hid (Keep.blk ((Keep.refl (fun _ => False) W9).grown hgrow (fun q e => by cases e)) X9.out (fun q => q))
                clear hgrow hnl hown0 B9 X9 hsz9
                have y_0 := XA.out.1 0 _ rfl
                have y_1 := XA.out.1 1 _ rfl
                have y_2 := XA.out.1 2 _ rfl
                have hszA := BA.out.size
                go_wp2_with (at_builtin; refine wpList_append_own _ rfl _ _ 34 rfl W.heap.size 93 i0 (.agg #[.int .u32 0, .int .i64 0, .int .i64 0]) 3 24 Try.underlying34 hi0 hz0 hz1 hz2 rfl (by decide) _ _ _ rfl (hown1.alloc _) ⟨wA.heap.size, 0, none⟩ 1 1 [.int .u32 (A : Nat), .int .i64 (k : Nat), .int .i64 v] rfl rfl ?c1 ?c2 ?c3 ?c4 ?c5 ?_)
                case c1 => exact fun i u hu => by rw [add_plain, Nat.zero_add]; exact (Blk.new wA 93 [.int .u32 (A : Nat), .int .i64 (k : Nat), .int .i64 v]).1 i u hu
                case c2 => intro x hx; simp at hx; rcases hx with rfl | rfl | rfl <;> rfl
                case c3 => unfold maxLen; omega
                case c4 => omega
                case c5 => simp; omega
                · intro v2 wB hown2 hgrow hnl2
                  have BB := Lib.hid ((BA.out.alloc hszA _).grown hgrow (by simp; omega) (fun q e => (World.ownsRow.lt hown1 q e).1))
                  have NV := Lib.hid hnl2
                  clear hgrow hnl2 hown1 BA XA hszA y_0 y_1 y_2
                  have hszB := BB.out.size
                  go_wp2_with (at_builtin; refine wpList_append_own _ rfl _ _ 34 rfl W.heap.size 93 i0 (.agg #[.int .u32 0, .int .i64 0, .int .i64 0]) 3 24 Try.underlying34 hi0 hz0 hz1 hz2 rfl (by decide) _ _ _ rfl hown2 _ _ _ (ecells (r.drop j)) rfl ?c0 ?c1 ?c2 ?c3 ?c4 ?c5 ?_)
                  case c0 => rw [ecells_len, HDL.out]
                  case c1 => exact fun i u hu => by rw [add_plain]; have := HG.out wB BB.out (j * 3 + i) u (drop_get r j i hj u hu); simpa using this
                  case c2 => exact ecells_one _
                  case c3 => unfold maxLen; omega
                  case c4 => omega
                  case c5 => omega
                  · intro v3 wC hown3 hgrow hnl3
                    have BC := Lib.hid (BB.out.grown hgrow hszB (fun q e => (World.ownsRow.lt hown2 q e).1))
                    have RF : Hid (REnts wC W.heap.size v3 (addR r j A k v)) := Lib.hid (by
                      unfold addR REnts
                      rw [HIA.out, if_neg (by simp)]
                      have hle : (r.take j ++ (pth A k, v) :: r.drop j).length = 0 + j + 1 + (r.length - j) := by rw [List.length_append, List.length_cons, HTL.out, HDL.out]; omega
                      have hce : ecells (r.take j ++ (pth A k, v) :: r.drop j) = [] ++ ecells (r.take j) ++ [.int .u32 (A : Nat), .int .i64 (k : Nat), .int .i64 v] ++ ecells (r.drop j) := by
                        rw [ecells_app, show ecells ((pth A k, v) :: r.drop j) = ecell (pth A k, v) ++ ecells (r.drop j) from rfl, HXC.out]; simp
                      rw [hle, hce]
                      refine Row.base (base := W.heap.size) ⟨by simpa using hown3, ⟨fun e => ?_, fun e => by omega⟩⟩ (Nat.le_refl _)
                      exact absurd (hnl3.1 e).1 NV.out)
                    clear hgrow hnl3 hown3 hown2 hi0 hz0 hz1 hz2 BB hszB
                    go_wp2
                    exact bodyPost_ret (v := .tuple #[v3, .int .i64 0]) (by simp [results, Try.results12, go_sem]) rfl ⟨j, v3, hj, HJ, HA2, by unfold addK; rw [HIA.out]; rfl, Row.base RF.out HB0.out, BC.out, Or.inr RF.out⟩
          · go_region
            all_goals
              clear c0 c1 c2 x_0 x_1 x_2 hb1 hb2 hb3
              go_upto_region 9 with fail
              refine at_code (S := fun w => Below W.heap.size W w ∧ Blk w w2.heap.size [.int .u32 (A : Nat), .int .i64 (k : Nat), .int .i64 v]) ⟨by repeat (first | exact BZ.out | refine Below.drew ?_), XZ.out⟩ (fun W9 h9 => ?_)
              have B9 := Lib.hid h9.1
              have X9 := Lib.hid h9.2
              clear h9
              have hcap := HCap.out
              obtain ⟨i0, hi0, hz0, hz1, hz2⟩ := hinfo_parts infoREnt
              have hown0 := (row_nil W9 W.heap.size 93 3).1
              have hsz9 := B9.out.size
              have htl : (r.take j).length = j := by rw [List.length_take]; omega
              have hdl : (r.drop j).length = r.length - j := List.length_drop
              have HTL := Lib.hid htl
              have HDL := Lib.hid hdl
              clear htl hdl
              go_wp2_with (at_builtin; refine wpList_append_own _ rfl _ _ 34 rfl W.heap.size 93 i0 (.agg #[.int .u32 0, .int .i64 0, .int .i64 0]) 3 24 Try.underlying34 hi0 hz0 hz1 hz2 rfl (by decide) _ _ _ rfl hown0 ⟨g, 0, none⟩ j _ (ecells (r.take j)) rfl ?c0 ?c1 ?c2 ?c3 ?c4 ?c5 ?_)
              case c0 => rw [ecells_len, HTL.out]
              case c1 => exact fun i u hu => by rw [add_plain, Nat.zero_add]; exact HG.out W9 B9.out i u (take_get r j i u hu)
              case c2 => exact ecells_one _
              case c3 => unfold maxLen; omega
              case c4 => omega
              case c5 => omega
              · intro v1 wA hown1 hgrow hnl
                have BA := Lib.hid (B9.out.grown hgrow hsz9 (fun q e => (World.ownsRow.lt hown0 q e).1))
                have XA : Hid (Blk wA w2.heap.size [.int .u32 (A : Nat), .int .i64 (k : Nat), .int .i64 v]) := Lib.hid (Keep.blk ((Keep.refl (fun _ => False) W9).grown hgrow (fun q e => by cases e)) X9.out (fun q => q))
                clear hgrow hnl hown0 B9 X9 hsz9
                have y_0 := XA.out.1 0 _ rfl
                have y_1 := XA.out.1 1 _ rfl
                have y_2 := XA.out.1 2 _ rfl
                have hszA := BA.out.size
                go_wp2_with (at_builtin; refine wpList_append_own _ rfl _ _ 34 rfl W.heap.size 93 i0 (.agg #[.int .u32 0, .int .i64 0, .int .i64 0]) 3 24 Try.underlying34 hi0 hz0 hz1 hz2 rfl (by decide) _ _ _ rfl (hown1.alloc _) ⟨wA.heap.size, 0, none⟩ 1 1 [.int .u32 (A : Nat), .int .i64 (k : Nat), .int .i64 v] rfl rfl ?c1 ?c2 ?c3 ?c4 ?c5 ?_)
                case c1 => exact fun i u hu => by rw [add_plain, Nat.zero_add]; exact (Blk.new wA 93 [.int .u32 (A : Nat), .int .i64 (k : Nat), .int .i64 v]).1 i u hu
                case c2 => intro x hx; simp at hx; rcases hx with rfl | rfl | rfl <;> rfl
                case c3 => unfold maxLen; omega
                case c4 => omega
                case c5 => simp; omega
                · intro v2 wB hown2 hgrow hnl2
                  have BB := Lib.hid ((BA.out.alloc hszA _).grown hgrow (by simp; omega) (fun q e => (World.ownsRow.lt hown1 q e).1))
                  have NV := Lib.hid hnl2
                  clear hgrow hnl2 hown1 BA XA hszA y_0 y_1 y_2
                  have hszB := BB.out.size
                  go_wp2_with (at_builtin; refine wpList_append_own _ rfl _ _ 34 rfl W.heap.size 93 i0 (.agg #[.int .u32 0, .int .i64 0, .int .i64 0]) 3 24 Try.underlying34 hi0 hz0 hz1 hz2 rfl (by decide) _ _ _ rfl hown2 _ _ _ (ecells (r.drop j)) rfl ?c0 ?c1 ?c2 ?c3 ?c4 ?c5 ?_)
                  case c0 => rw [ecells_len, HDL.out]
                  case c1 => exact fun i u hu => by rw [add_plain]; have := HG.out wB BB.out (j * 3 + i) u (drop_get r j i hj u hu); simpa using this
                  case c2 => exact ecells_one _
                  case c3 => unfold maxLen; omega
                  case c4 => omega
                  case c5 => omega
                  · intro v3 wC hown3 hgrow hnl3
                    have BC := Lib.hid (BB.out.grown hgrow hszB (fun q e => (World.ownsRow.lt hown2 q e).1))
                    have RF : Hid (REnts wC W.heap.size v3 (addR r j A k v)) := Lib.hid (by
                      unfold addR REnts
                      rw [HIA.out, if_neg (by simp)]
                      have hle : (r.take j ++ (pth A k, v) :: r.drop j).length = 0 + j + 1 + (r.length - j) := by rw [List.length_append, List.length_cons, HTL.out, HDL.out]; omega
                      have hce : ecells (r.take j ++ (pth A k, v) :: r.drop j) = [] ++ ecells (r.take j) ++ [.int .u32 (A : Nat), .int .i64 (k : Nat), .int .i64 v] ++ ecells (r.drop j) := by
                        rw [ecells_app, show ecells ((pth A k, v) :: r.drop j) = ecell (pth A k, v) ++ ecells (r.drop j) from rfl, HXC.out]; simp
                      rw [hle, hce]
                      refine Row.base (base := W.heap.size) ⟨by simpa using hown3, ⟨fun e => ?_, fun e => by omega⟩⟩ (Nat.le_refl _)
                      exact absurd (hnl3.1 e).1 NV.out)
                    clear hgrow hnl3 hown3 hown2 hi0 hz0 hz1 hz2 BB hszB
                    go_wp2
                    exact bodyPost_ret (v := .tuple #[v3, .int .i64 0]) (by simp [results, Try.results12, go_sem]) rfl ⟨j, v3, hj, HJ, HA2, by unfold addK; rw [HIA.out]; rfl, Row.base RF.out HB0.out, BC.out, Or.inr RF.out⟩
          · go_region
            all_goals
              clear c0 c1 c2 x_0 x_1 x_2 hb1 hb2 hb3
              go_upto_region 9 with fail
              refine at_code (S := fun w => Below W.heap.size W w ∧ Blk w w2.heap.size [.int .u32 (A : Nat), .int .i64 (k : Nat), .int .i64 v]) ⟨by repeat (first | exact BZ.out | refine Below.drew ?_), XZ.out⟩ (fun W9 h9 => ?_)
              have B9 := Lib.hid h9.1
              have X9 := Lib.hid h9.2
              clear h9
              have hcap := HCap.out
              obtain ⟨i0, hi0, hz0, hz1, hz2⟩ := hinfo_parts infoREnt
              have hown0 := (row_nil W9 W.heap.size 93 3).1
              have hsz9 := B9.out.size
              have htl : (r.take j).length = j := by rw [List.length_take]; omega
              have hdl : (r.drop j).length = r.length - j := List.length_drop
              have HTL := Lib.hid htl
              have HDL := Lib.hid hdl
              clear htl hdl
              go_wp2_with (at_builtin; refine wpList_append_own _ rfl _ _ 34 rfl W.heap.size 93 i0 (.agg #[.int .u32 0, .int .i64 0, .int .i64 0]) 3 24 Try.underlying34 hi0 hz0 hz1 hz2 rfl (by decide) _ _ _ rfl hown0 ⟨g, 0, none⟩ j _ (ecells (r.take j)) rfl ?c0 ?c1 ?c2 ?c3 ?c4 ?c5 ?_)
              case c0 => rw [ecells_len, HTL.out]
              case c1 => exact fun i u hu => by rw [add_plain, Nat.zero_add]; exact HG.out W9 B9.out i u (take_get r j i u hu)
              case c2 => exact ecells_one _
              case c3 => unfold maxLen; omega
              case c4 => omega
              case c5 => omega
              · intro v1 wA hown1 hgrow hnl
                have BA := Lib.hid (B9.out.grown hgrow hsz9 (fun q e => (World.ownsRow.lt hown0 q e).1))
                have XA : Hid (Blk wA w2.heap.size [.int .u32 (A : Nat), .int .i64 (k : Nat), .int .i64 v]) := Lib.hid (Keep.blk ((Keep.refl (fun _ => False) W9).grown hgrow (fun q e => by cases e)) X9.out (fun q => q))
                clear hgrow hnl hown0 B9 X9 hsz9
                have y_0 := XA.out.1 0 _ rfl
                have y_1 := XA.out.1 1 _ rfl
                have y_2 := XA.out.1 2 _ rfl
                have hszA := BA.out.size
                go_wp2_with (at_builtin; refine wpList_append_own _ rfl _ _ 34 rfl W.heap.size 93 i0 (.agg #[.int .u32 0, .int .i64 0, .int .i64 0]) 3 24 Try.underlying34 hi0 hz0 hz1 hz2 rfl (by decide) _ _ _ rfl (hown1.alloc _) ⟨wA.heap.size, 0, none⟩ 1 1 [.int .u32 (A : Nat), .int .i64 (k : Nat), .int .i64 v] rfl rfl ?c1 ?c2 ?c3 ?c4 ?c5 ?_)
                case c1 => exact fun i u hu => by rw [add_plain, Nat.zero_add]; exact (Blk.new wA 93 [.int .u32 (A : Nat), .int .i64 (k : Nat), .int .i64 v]).1 i u hu
                case c2 => intro x hx; simp at hx; rcases hx with rfl | rfl | rfl <;> rfl
                case c3 => unfold maxLen; omega
                case c4 => omega
                case c5 => simp; omega
                · intro v2 wB hown2 hgrow hnl2
                  have BB := Lib.hid ((BA.out.alloc hszA _).grown hgrow (by simp; omega) (fun q e => (World.ownsRow.lt hown1 q e).1))
                  have NV := Lib.hid hnl2
                  clear hgrow hnl2 hown1 BA XA hszA y_0 y_1 y_2
                  have hszB := BB.out.size
                  go_wp2_with (at_builtin; refine wpList_append_own _ rfl _ _ 34 rfl W.heap.size 93 i0 (.agg #[.int .u32 0, .int .i64 0, .int .i64 0]) 3 24 Try.underlying34 hi0 hz0 hz1 hz2 rfl (by decide) _ _ _ rfl hown2 _ _ _ (ecells (r.drop j)) rfl ?c0 ?c1 ?c2 ?c3 ?c4 ?c5 ?_)
                  case c0 => rw [ecells_len, HDL.out]
                  case c1 => exact fun i u hu => by rw [add_plain]; have := HG.out wB BB.out (j * 3 + i) u (drop_get r j i hj u hu); simpa using this
                  case c2 => exact ecells_one _
                  case c3 => unfold maxLen; omega
                  case c4 => omega
                  case c5 => omega
                  · intro v3 wC hown3 hgrow hnl3
                    have BC := Lib.hid (BB.out.grown hgrow hszB (fun q e => (World.ownsRow.lt hown2 q e).1))
                    have RF : Hid (REnts wC W.heap.size v3 (addR r j A k v)) := Lib.hid (by
                      unfold addR REnts
                      rw [HIA.out, if_neg (by simp)]
                      have hle : (r.take j ++ (pth A k, v) :: r.drop j).length = 0 + j + 1 + (r.length - j) := by rw [List.length_append, List.length_cons, HTL.out, HDL.out]; omega
                      have hce : ecells (r.take j ++ (pth A k, v) :: r.drop j) = [] ++ ecells (r.take j) ++ [.int .u32 (A : Nat), .int .i64 (k : Nat), .int .i64 v] ++ ecells (r.drop j) := by
                        rw [ecells_app, show ecells ((pth A k, v) :: r.drop j) = ecell (pth A k, v) ++ ecells (r.drop j) from rfl, HXC.out]; simp
                      rw [hle, hce]
                      refine Row.base (base := W.heap.size) ⟨by simpa using hown3, ⟨fun e => ?_, fun e => by omega⟩⟩ (Nat.le_refl _)
                      exact absurd (hnl3.1 e).1 NV.out)
                    clear hgrow hnl3 hown3 hown2 hi0 hz0 hz1 hz2 BB hszB
                    go_wp2
                    exact bodyPost_ret (v := .tuple #[v3, .int .i64 0]) (by simp [results, Try.results12, go_sem]) rfl ⟨j, v3, hj, HJ, HA2, by unfold addK; rw [HIA.out]; rfl, Row.base RF.out HB0.out, BC.out, Or.inr RF.out⟩
          · go_region
            all_goals
              clear c0 c1 c2 x_0 x_1 x_2 hb1 hb2 hb3
              go_upto_region 9 with fail
              refine at_code (S := fun w => Below W.heap.size W w ∧ Blk w w2.heap.size [.int .u32 (A : Nat), .int .i64 (k : Nat), .int .i64 v]) ⟨by repeat (first | exact BZ.out | refine Below.drew ?_), XZ.out⟩ (fun W9 h9 => ?_)
              have B9 := Lib.hid h9.1
              have X9 := Lib.hid h9.2
              clear h9
              have hcap := HCap.out
              obtain ⟨i0, hi0, hz0, hz1, hz2⟩ := hinfo_parts infoREnt
              have hown0 := (row_nil W9 W.heap.size 93 3).1
              have hsz9 := B9.out.size
              have htl : (r.take j).length = j := by rw [List.length_take]; omega
              have hdl : (r.drop j).length = r.length - j := List.length_drop
              have HTL := Lib.hid htl
              have HDL := Lib.hid hdl
              clear htl hdl
              go_wp2_with (at_builtin; refine wpList_append_own _ rfl _ _ 34 rfl W.heap.size 93 i0 (.agg #[.int .u32 0, .int .i64 0, .int .i64 0]) 3 24 Try.underlying34 hi0 hz0 hz1 hz2 rfl (by decide) _ _ _ rfl hown0 ⟨g, 0, none⟩ j _ (ecells (r.take j)) rfl ?c0 ?c1 ?c2 ?c3 ?c4 ?c5 ?_)
              case c0 => rw [ecells_len, HTL.out]
              case c1 => exact fun i u hu => by rw [add_plain, Nat.zero_add]; exact HG.out W9 B9.out i u (take_get r j i u hu)
              case c2 => exact ecells_one _
              case c3 => unfold maxLen; omega
              case c4 => omega
              case c5 => omega
              · intro v1 wA hown1 hgrow hnl
                have BA := Lib.hid (B9.out.grown hgrow hsz9 (fun q e => (World.ownsRow.lt hown0 q e).1))
                have XA : Hid (Blk wA w2.heap.size [.int .u32 (A : Nat), .int .i64 (k : Nat), .int .i64 v]) := Lib.hid (Keep.blk ((Keep.refl (fun _ => False) W9).grown hgrow (fun q e => by cases e)) X9.out (fun q => q))
                clear hgrow hnl hown0 B9 X9 hsz9
                have y_0 := XA.out.1 0 _ rfl
                have y_1 := XA.out.1 1 _ rfl
                have y_2 := XA.out.1 2 _ rfl
                have hszA := BA.out.size
                go_wp2_with (at_builtin; refine wpList_append_own _ rfl _ _ 34 rfl W.heap.size 93 i0 (.agg #[.int .u32 0, .int .i64 0, .int .i64 0]) 3 24 Try.underlying34 hi0 hz0 hz1 hz2 rfl (by decide) _ _ _ rfl (hown1.alloc _) ⟨wA.heap.size, 0, none⟩ 1 1 [.int .u32 (A : Nat), .int .i64 (k : Nat), .int .i64 v] rfl rfl ?c1 ?c2 ?c3 ?c4 ?c5 ?_)
                case c1 => exact fun i u hu => by rw [add_plain, Nat.zero_add]; exact (Blk.new wA 93 [.int .u32 (A : Nat), .int .i64 (k : Nat), .int .i64 v]).1 i u hu
                case c2 => intro x hx; simp at hx; rcases hx with rfl | rfl | rfl <;> rfl
                case c3 => unfold maxLen; omega
                case c4 => omega
                case c5 => simp; omega
                · intro v2 wB hown2 hgrow hnl2
                  have BB := Lib.hid ((BA.out.alloc hszA _).grown hgrow (by simp; omega) (fun q e => (World.ownsRow.lt hown1 q e).1))
                  have NV := Lib.hid hnl2
                  clear hgrow hnl2 hown1 BA XA hszA y_0 y_1 y_2
                  have hszB := BB.out.size
                  go_wp2_with (at_builtin; refine wpList_append_own _ rfl _ _ 34 rfl W.heap.size 93 i0 (.agg #[.int .u32 0, .int .i64 0, .int .i64 0]) 3 24 Try.underlying34 hi0 hz0 hz1 hz2 rfl (by decide) _ _ _ rfl hown2 _ _ _ (ecells (r.drop j)) rfl ?c0 ?c1 ?c2 ?c3 ?c4 ?c5 ?_)
                  case c0 => rw [ecells_len, HDL.out]
                  case c1 => exact fun i u hu => by rw [add_plain]; have := HG.out wB BB.out (j * 3 + i) u (drop_get r j i hj u hu); simpa using this
                  case c2 => exact ecells_one _
                  case c3 => unfold maxLen; omega
                  case c4 => omega
                  case c5 => omega
                  · intro v3 wC hown3 hgrow hnl3
                    have BC := Lib.hid (BB.out.grown hgrow hszB (fun q e => (World.ownsRow.lt hown2 q e).1))
                    have RF : Hid (REnts wC W.heap.size v3 (addR r j A k v)) := Lib.hid (by
                      unfold addR REnts
                      rw [HIA.out, if_neg (by simp)]
                      have hle : (r.take j ++ (pth A k, v) :: r.drop j).length = 0 + j + 1 + (r.length - j) := by rw [List.length_append, List.length_cons, HTL.out, HDL.out]; omega
                      have hce : ecells (r.take j ++ (pth A k, v) :: r.drop j) = [] ++ ecells (r.take j) ++ [.int .u32 (A : Nat), .int .i64 (k : Nat), .int .i64 v] ++ ecells (r.drop j) := by
                        rw [ecells_app, show ecells ((pth A k, v) :: r.drop j) = ecell (pth A k, v) ++ ecells (r.drop j) from rfl, HXC.out]; simp
                      rw [hle, hce]
                      refine Row.base (base := W.heap.size) ⟨by simpa using hown3, ⟨fun e => ?_, fun e => by omega⟩⟩ (Nat.le_refl _)
                      exact absurd (hnl3.1 e).1 NV.out)
                    clear hgrow hnl3 hown3 hown2 hi0 hz0 hz1 hz2 BB hszB
                    go_wp2
                    exact bodyPost_ret (v := .tuple #[v3, .int .i64 0]) (by simp [results, Try.results12, go_sem]) rfl ⟨j, v3, hj, HJ, HA2, by unfold addK; rw [HIA.out]; rfl, Row.base RF.out HB0.out, BC.out, Or.inr RF.out⟩
          · go_region
            all_goals
              clear c0 c1 c2 x_0 x_1 x_2 hb1 hb2 hb3
              go_upto_region 9 with fail
              refine at_code (S := fun w => Below W.heap.size W w ∧ Blk w w2.heap.size [.int .u32 (A : Nat), .int .i64 (k : Nat), .int .i64 v]) ⟨by repeat (first | exact BZ.out | refine Below.drew ?_), XZ.out⟩ (fun W9 h9 => ?_)
              have B9 := Lib.hid h9.1
              have X9 := Lib.hid h9.2
              clear h9
              have hcap := HCap.out
              obtain ⟨i0, hi0, hz0, hz1, hz2⟩ := hinfo_parts infoREnt
              have hown0 := (row_nil W9 W.heap.size 93 3).1
              have hsz9 := B9.out.size
              have htl : (r.take j).length = j := by rw [List.length_take]; omega
              have hdl : (r.drop j).length = r.length - j := List.length_drop
              have HTL := Lib.hid htl
              have HDL := Lib.hid hdl
              clear htl hdl
              go_wp2_with (at_builtin; refine wpList_append_own _ rfl _ _ 34 rfl W.heap.size 93 i0 (.agg #[.int .u32 0, .int .i64 0, .int .i64 0]) 3 24 Try.underlying34 hi0 hz0 hz1 hz2 rfl (by decide) _ _ _ rfl hown0 ⟨g, 0, none⟩ j _ (ecells (r.take j)) rfl ?c0 ?c1 ?c2 ?c3 ?c4 ?c5 ?_)
              case c0 => rw [ecells_len, HTL.out]
              case c1 => exact fun i u hu => by rw [add_plain, Nat.zero_add]; exact HG.out W9 B9.out i u (take_get r j i u hu)
              case c2 => exact ecells_one _
              case c3 => unfold maxLen; omega
              case c4 => omega
              case c5 => omega
              · intro v1 wA hown1 hgrow hnl
                have BA := Lib.hid (B9.out.grown hgrow hsz9 (fun q e => (World.ownsRow.lt hown0 q e).1))
                have XA : Hid (Blk wA w2.heap.size [.int .u32 (A : Nat), .int .i64 (k : Nat), .int .i64 v]) := Lib.hid (Keep.blk ((Keep.refl (fun _ => False) W9).grown hgrow (fun q e => by cases e)) X9.out (fun q => q))
                clear hgrow hnl hown0 B9 X9 hsz9
                have y_0 := XA.out.1 0 _ rfl
                have y_1 := XA.out.1 1 _ rfl
                have y_2 := XA.out.1 2 _ rfl
                have hszA := BA.out.size
                go_wp2_with (at_builtin; refine wpList_append_own _ rfl _ _ 34 rfl W.heap.size 93 i0 (.agg #[.int .u32 0, .int .i64 0, .int .i64 0]) 3 24 Try.underlying34 hi0 hz0 hz1 hz2 rfl (by decide) _ _ _ rfl (hown1.alloc _) ⟨wA.heap.size, 0, none⟩ 1 1 [.int .u32 (A : Nat), .int .i64 (k : Nat), .int .i64 v] rfl rfl ?c1 ?c2 ?c3 ?c4 ?c5 ?_)
                case c1 => exact fun i u hu => by rw [add_plain, Nat.zero_add]; exact (Blk.new wA 93 [.int .u32 (A : Nat), .int .i64 (k : Nat), .int .i64 v]).1 i u hu
                case c2 => intro x hx; simp at hx; rcases hx with rfl | rfl | rfl <;> rfl
                case c3 => unfold maxLen; omega
                case c4 => omega
                case c5 => simp; omega
                · intro v2 wB hown2 hgrow hnl2
                  have BB := Lib.hid ((BA.out.alloc hszA _).grown hgrow (by simp; omega) (fun q e => (World.ownsRow.lt hown1 q e).1))
                  have NV := Lib.hid hnl2
                  clear hgrow hnl2 hown1 BA XA hszA y_0 y_1 y_2
                  have hszB := BB.out.size
                  go_wp2_with (at_builtin; refine wpList_append_own _ rfl _ _ 34 rfl W.heap.size 93 i0 (.agg #[.int .u32 0, .int .i64 0, .int .i64 0]) 3 24 Try.underlying34 hi0 hz0 hz1 hz2 rfl (by decide) _ _ _ rfl hown2 _ _ _ (ecells (r.drop j)) rfl ?c0 ?c1 ?c2 ?c3 ?c4 ?c5 ?_)
                  case c0 => rw [ecells_len, HDL.out]
                  case c1 => exact fun i u hu => by rw [add_plain]; have := HG.out wB BB.out (j * 3 + i) u (drop_get r j i hj u hu); simpa using this
                  case c2 => exact ecells_one _
                  case c3 => unfold maxLen; omega
                  case c4 => omega
                  case c5 => omega
                  · intro v3 wC hown3 hgrow hnl3
                    have BC := Lib.hid (BB.out.grown hgrow hszB (fun q e => (World.ownsRow.lt hown2 q e).1))
                    have RF : Hid (REnts wC W.heap.size v3 (addR r j A k v)) := Lib.hid (by
                      unfold addR REnts
                      rw [HIA.out, if_neg (by simp)]
                      have hle : (r.take j ++ (pth A k, v) :: r.drop j).length = 0 + j + 1 + (r.length - j) := by rw [List.length_append, List.length_cons, HTL.out, HDL.out]; omega
                      have hce : ecells (r.take j ++ (pth A k, v) :: r.drop j) = [] ++ ecells (r.take j) ++ [.int .u32 (A : Nat), .int .i64 (k : Nat), .int .i64 v] ++ ecells (r.drop j) := by
                        rw [ecells_app, show ecells ((pth A k, v) :: r.drop j) = ecell (pth A k, v) ++ ecells (r.drop j) from rfl, HXC.out]; simp
                      rw [hle, hce]
                      refine Row.base (base := W.heap.size) ⟨by simpa using hown3, ⟨fun e => ?_, fun e => by omega⟩⟩ (Nat.le_refl _)
                      exact absurd (hnl3.1 e).1 NV.out)
                    clear hgrow hnl3 hown3 hown2 hi0 hz0 hz1 hz2 BB hszB
                    go_wp2
                    exact bodyPost_ret (v := .tuple #[v3, .int .i64 0]) (by simp [results, Try.results12, go_sem]) rfl ⟨j, v3, hj, HJ, HA2, by unfold addK; rw [HIA.out]; rfl, Row.base RF.out HB0.out, BC.out, Or.inr RF.out⟩
          · go_region
            all_goals
              have LF := Lib.hid (HL.out.on BZ.out.drew)
              clear c0 c1 c2 x_0 x_1 x_2 hb1 hb2 hb3
              go_wp2
              exact bodyPost_ret (v := .tuple #[.slice (some ⟨g, 0, none⟩) r.length cap0, .int .i64 4]) (by simp [results, Try.results12, go_sem]) rfl ⟨j, _, hj, HJ, HA2, by unfold addK; rw [HIA.out]; rfl, by unfold addR; rw [HIA.out]; exact LF.out, BZ.out.drew, Or.inl rfl⟩
    · have dj : decide ((j : Int) < (r.length : Int)) = false := decide_eq_false (by omega)
      have HA2 : Hid (∀ z, r[j]? = some z → befB (ad z.1) (z.1.length : Nat) z.2 A (k : Nat) v = false) := Lib.hid (fun z hz => by rw [List.getElem?_eq_none (by omega)] at hz; cases hz)
      have HIA : Hid (isAt r j A k v = false) := Lib.hid (by unfold isAt; rw [List.getElem?_eq_none (by omega)]; rfl)
      have BZ := Bw
      have XZ := Xw
      go_upto_region 5 with fail
      go_region
      all_goals
        go_upto_region 7 with fail
        go_region
        all_goals
          clear x_0 x_1 x_2 Bw Xw
          rcases Nat.lt_or_ge j cap0 with hjc | hjc
          · skip
            go_upto_region 9 with fail
            refine at_code (S := fun w => Below W.heap.size W w ∧ Blk w w2.heap.size [.int .u32 (A : Nat), .int .i64 (k : Nat), .int .i64 v]) ⟨by repeat (first | exact BZ.out | refine Below.drew ?_), XZ.out⟩ (fun W9 h9 => ?_)
            have B9 := Lib.hid h9.1
            have X9 := Lib.hid h9.2
            clear h9
            have hcap := HCap.out
            obtain ⟨i0, hi0, hz0, hz1, hz2⟩ := hinfo_parts infoREnt
            have hown0 := (row_nil W9 W.heap.size 93 3).1
            have hsz9 := B9.out.size
            have htl : (r.take j).length = j := by rw [List.length_take]; omega
            have hdl : (r.drop j).length = r.length - j := List.length_drop
            have HTL := Lib.hid htl
            have HDL := Lib.hid hdl
            clear htl hdl
            go_wp2_with (at_builtin; refine wpList_append_own _ rfl _ _ 34 rfl W.heap.size 93 i0 (.agg #[.int .u32 0, .int .i64 0, .int .i64 0]) 3 24 Try.underlying34 hi0 hz0 hz1 hz2 rfl (by decide) _ _ _ rfl hown0 ⟨g, 0, none⟩ j _ (ecells (r.take j)) rfl ?c0 ?c1 ?c2 ?c3 ?c4 ?c5 ?_)
            case c0 => rw [ecells_len, HTL.out]
            case c1 => exact fun i u hu => by rw [add_plain, Nat.zero_add]; exact HG.out W9 B9.out i u (take_get r j i u hu)
            case c2 => exact ecells_one _
            case c3 => unfold maxLen; omega
            case c4 => omega
            case c5 => omega
            · intro v1 wA hown1 hgrow hnl
              have BA := Lib.hid (B9.out.grown hgrow hsz9 (fun q e => (World.ownsRow.lt hown0 q e).1))
              have XA : Hid (Blk wA w2.heap.size [.int .u32 (A : Nat), .int .i64 (k : Nat), .int .i64 v]) := Lib.hid (Keep.blk ((Keep.refl (fun _ => False) W9).grown hgrow (fun q e => by cases e)) X9.out (fun q => q))
              clear hgrow hnl hown0 B9 X9 hsz9
              have y_0 := XA.out.1 0 _ rfl
              have y_1 := XA.out.1 1 _ rfl
              have y_2 := XA.out.1 2 _ rfl
              have hszA := BA.out.size
              go_wp2_with (at_builtin; refine wpList_append_own _ rfl _ _ 34 rfl W.heap.size 93 i0 (.agg #[.int .u32 0, .int .i64 0, .int .i64 0]) 3 24 Try.underlying34 hi0 hz0 hz1 hz2 rfl (by decide) _ _ _ rfl (hown1.alloc _) ⟨wA.heap.size, 0, none⟩ 1 1 [.int .u32 (A : Nat), .int .i64 (k : Nat), .int .i64 v] rfl rfl ?c1 ?c2 ?c3 ?c4 ?c5 ?_)
              case c1 => exact fun i u hu => by rw [add_plain, Nat.zero_add]; exact (Blk.new wA 93 [.int .u32 (A : Nat), .int .i64 (k : Nat), .int .i64 v]).1 i u hu
              case c2 => intro x hx; simp at hx; rcases hx with rfl | rfl | rfl <;> rfl
              case c3 => unfold maxLen; omega
              case c4 => omega
              case c5 => simp; omega
              · intro v2 wB hown2 hgrow hnl2
                have BB := Lib.hid ((BA.out.alloc hszA _).grown hgrow (by simp; omega) (fun q e => (World.ownsRow.lt hown1 q e).1))
                have NV := Lib.hid hnl2
                clear hgrow hnl2 hown1 BA XA hszA y_0 y_1 y_2
                have hszB := BB.out.size
                go_wp2_with (at_builtin; refine wpList_append_own _ rfl _ _ 34 rfl W.heap.size 93 i0 (.agg #[.int .u32 0, .int .i64 0, .int .i64 0]) 3 24 Try.underlying34 hi0 hz0 hz1 hz2 rfl (by decide) _ _ _ rfl hown2 _ _ _ (ecells (r.drop j)) rfl ?c0 ?c1 ?c2 ?c3 ?c4 ?c5 ?_)
                case c0 => rw [ecells_len, HDL.out]
                case c1 => exact fun i u hu => by rw [List.drop_eq_nil_of_le (by omega)] at hu; simp [ecells] at hu
                case c2 => exact ecells_one _
                case c3 => unfold maxLen; omega
                case c4 => omega
                case c5 => omega
                · intro v3 wC hown3 hgrow hnl3
                  have BC := Lib.hid (BB.out.grown hgrow hszB (fun q e => (World.ownsRow.lt hown2 q e).1))
                  have RF : Hid (REnts wC W.heap.size v3 (addR r j A k v)) := Lib.hid (by
                    unfold addR REnts
                    rw [HIA.out, if_neg (by simp)]
                    have hle : (r.take j ++ (pth A k, v) :: r.drop j).length = 0 + j + 1 + (r.length - j) := by rw [List.length_append, List.length_cons, HTL.out, HDL.out]; omega
                    have hce : ecells (r.take j ++ (pth A k, v) :: r.drop j) = [] ++ ecells (r.take j) ++ [.int .u32 (A : Nat), .int .i64 (k : Nat), .int .i64 v] ++ ecells (r.drop j) := by
                      rw [ecells_app, show ecells ((pth A k, v) :: r.drop j) = ecell (pth A k, v) ++ ecells (r.drop j) from rfl, HXC.out]; simp
                    rw [hle, hce]
                    refine Row.base (base := W.heap.size) ⟨by simpa using hown3, ⟨fun e => ?_, fun e => by omega⟩⟩ (Nat.le_refl _)
                    exact absurd (hnl3.1 e).1 NV.out)
                  clear hgrow hnl3 hown3 hown2 hi0 hz0 hz1 hz2 BB hszB
                  go_wp2
                  exact bodyPost_ret (v := .tuple #[v3, .int .i64 0]) (by simp [results, Try.results12, go_sem]) rfl ⟨j, v3, hj, HJ, HA2, by unfold addK; rw [HIA.out]; rfl, Row.base RF.out HB0.out, BC.out, Or.inr RF.out⟩
          · obtain rfl : j = cap0 := by have := HCap.out; omega
            go_upto_region 9 with fail
            refine at_code (S := fun w => Below W.heap.size W w ∧ Blk w w2.heap.size [.int .u32 (A : Nat), .int .i64 (k : Nat), .int .i64 v]) ⟨by repeat (first | exact BZ.out | refine Below.drew ?_), XZ.out⟩ (fun W9 h9 => ?_)
            have B9 := Lib.hid h9.1
            have X9 := Lib.hid h9.2
            clear h9
            have hcap := HCap.out
            obtain ⟨i0, hi0, hz0, hz1, hz2⟩ := hinfo_parts infoREnt
            have hown0 := (row_nil W9 W.heap.size 93 3).1
            have hsz9 := B9.out.size
            have htl : (r.take j).length = j := by rw [List.length_take]; omega
            have hdl : (r.drop j).length = r.length - j := List.length_drop
            have HTL := Lib.hid htl
            have HDL := Lib.hid hdl
            clear htl hdl
            go_wp2_with (at_builtin; refine wpList_append_own _ rfl _ _ 34 rfl W.heap.size 93 i0 (.agg #[.int .u32 0, .int .i64 0, .int .i64 0]) 3 24 Try.underlying34 hi0 hz0 hz1 hz2 rfl (by decide) _ _ _ rfl hown0 ⟨g, 0, none⟩ j _ (ecells (r.take j)) rfl ?c0 ?c1 ?c2 ?c3 ?c4 ?c5 ?_)
            case c0 => rw [ecells_len, HTL.out]
            case c1 => exact fun i u hu => by rw [add_plain, Nat.zero_add]; exact HG.out W9 B9.out i u (take_get r j i u hu)
            case c2 => exact ecells_one _
            case c3 => unfold maxLen; omega
            case c4 => omega
            case c5 => omega
            · intro v1 wA hown1 hgrow hnl
              have BA := Lib.hid (B9.out.grown hgrow hsz9 (fun q e => (World.ownsRow.lt hown0 q e).1))
              have XA : Hid (Blk wA w2.heap.size [.int .u32 (A : Nat), .int .i64 (k : Nat), .int .i64 v]) := Lib.hid (Keep.blk ((Keep.refl (fun _ => False) W9).grown hgrow (fun q e => by cases e)) X9.out (fun q => q))
              clear hgrow hnl hown0 B9 X9 hsz9
              have y_0 := XA.out.1 0 _ rfl
              have y_1 := XA.out.1 1 _ rfl
              have y_2 := XA.out.1 2 _ rfl
              have hszA := BA.out.size
              go_wp2_with (at_builtin; refine wpList_append_own _ rfl _ _ 34 rfl W.heap.size 93 i0 (.agg #[.int .u32 0, .int .i64 0, .int .i64 0]) 3 24 Try.underlying34 hi0 hz0 hz1 hz2 rfl (by decide) _ _ _ rfl (hown1.alloc _) ⟨wA.heap.size, 0, none⟩ 1 1 [.int .u32 (A : Nat), .int .i64 (k : Nat), .int .i64 v] rfl rfl ?c1 ?c2 ?c3 ?c4 ?c5 ?_)
              case c1 => exact fun i u hu => by rw [add_plain, Nat.zero_add]; exact (Blk.new wA 93 [.int .u32 (A : Nat), .int .i64 (k : Nat), .int .i64 v]).1 i u hu
              case c2 => intro x hx; simp at hx; rcases hx with rfl | rfl | rfl <;> rfl
              case c3 => unfold maxLen; omega
              case c4 => omega
              case c5 => simp; omega
              · intro v2 wB hown2 hgrow hnl2
                have BB := Lib.hid ((BA.out.alloc hszA _).grown hgrow (by simp; omega) (fun q e => (World.ownsRow.lt hown1 q e).1))
                have NV := Lib.hid hnl2
                clear hgrow hnl2 hown1 BA XA hszA y_0 y_1 y_2
                have hszB := BB.out.size
                go_wp2_with (at_builtin; refine wpList_append_own _ rfl _ _ 34 rfl W.heap.size 93 i0 (.agg #[.int .u32 0, .int .i64 0, .int .i64 0]) 3 24 Try.underlying34 hi0 hz0 hz1 hz2 rfl (by decide) _ _ _ rfl hown2 _ _ _ (ecells (r.drop j)) rfl ?c0 ?c1 ?c2 ?c3 ?c4 ?c5 ?_)
                case c0 => rw [ecells_len, HDL.out]; omega
                case c1 => exact fun i u hu => by rw [List.drop_eq_nil_of_le (by omega)] at hu; simp [ecells] at hu
                case c2 => exact ecells_one _
                case c3 => unfold maxLen; omega
                case c4 => omega
                case c5 => omega
                · intro v3 wC hown3 hgrow hnl3
                  have BC := Lib.hid (BB.out.grown hgrow hszB (fun q e => (World.ownsRow.lt hown2 q e).1))
                  have RF : Hid (REnts wC W.heap.size v3 (addR r j A k v)) := Lib.hid (by
                    unfold addR REnts
                    rw [HIA.out, if_neg (by simp)]
                    have hle : (r.take j ++ (pth A k, v) :: r.drop j).length = 0 + j + 1 + (r.length - j) := by rw [List.length_append, List.length_cons, HTL.out, HDL.out]; omega
                    have hce : ecells (r.take j ++ (pth A k, v) :: r.drop j) = [] ++ ecells (r.take j) ++ [.int .u32 (A : Nat), .int .i64 (k : Nat), .int .i64 v] ++ ecells (r.drop j) := by
                      rw [ecells_app, show ecells ((pth A k, v) :: r.drop j) = ecell (pth A k, v) ++ ecells (r.drop j) from rfl, HXC.out]; simp
                    rw [hle, hce, show r.length - j = 0 by omega]
                    refine Row.base (base := W.heap.size) ⟨by simpa using hown3, ⟨fun e => ?_, fun e => by omega⟩⟩ (Nat.le_refl _)
                    exact absurd (hnl3.1 e) NV.out)
                  clear hgrow hnl3 hown3 hown2 hi0 hz0 hz1 hz2 BB hszB
                  go_wp2
                  exact bodyPost_ret (v := .tuple #[v3, .int .i64 0]) (by simp [results, Try.results12, go_sem]) rfl ⟨j, v3, hj, HJ, HA2, by unfold addK; rw [HIA.out]; rfl, Row.base RF.out HB0.out, BC.out, Or.inr RF.out⟩
end Go.Proofs.Ytgcbngephokegaa
