/- The document's Add of rules. The document's Drop of rules. -/
import Derived.Test.YtgcbngephokegaaR0
namespace Go.Proofs.Ytgcbngephokegaa
open Go.RowKit Go.Maps Go.MapKept Go.ChangeMaps Go.WideElems Go.Joins
set_option linter.unusedVariables false
set_option linter.unusedSimpArgs false

set_option maxRecDepth 100000 in
theorem rradd_wrong (W : World) (l : Value) (x : Ru) (hA : x.a < 4294967296) (hr : rightB x.a x.n = false) :
    Calls Try.prog 27 #[l, rv x] W fun e w' => e = .returned (.tuple #[l, .int .i64 13]) ∧ Below W.heap.size W w' := by
  have hC := Lib.hid (rright_any x.a x.n hA)
  rw [hr] at hC
  go_enter Try.func27, Try.ntmps27
  go_upto_region 1 with fail
  refine at_code (S := fun w1 => Blk w1 W.heap.size x.cells ∧ Below W.heap.size W w1) ⟨Blk.new _ _ _, bel_al (Below.refl _ _) _⟩ (fun W1 hW => ?_)
  have B1 := Lib.hid hW.2
  obtain ⟨⟨x_0, x_1, x_2, x_3, x_4, x_5⟩, -⟩ := blk_ru hW.1
  clear hW
  go_wp2_with fail
  refine (hC.out W1).mono ?_
  rintro e w2 ⟨rfl, hb⟩
  have B2 := Lib.hid (bel_on' B1.out hb)
  clear hb x_0 x_1 x_2 x_3 x_4 x_5 B1 hC
  go_wp2
  exact bodyPost_ret (v := .tuple #[l, .int .i64 13]) (by simp [results, Try.results27, go_sem]) rfl ⟨rfl, B2.out⟩
set_option maxRecDepth 100000 in
set_option maxHeartbeats 1000000 in
theorem rradd_nil (W : World) (x : Ru) (hA : x.a < 4294967296) (hr : rightB x.a x.n = true) :
    Calls Try.prog 27 #[.slice none 0 0, rv x] W fun e w' => ∃ u, e = .returned (.tuple #[u, .int .i64 0]) ∧ Rules w' W.heap.size u [x] ∧ Below W.heap.size W w' := by
  have hC := Lib.hid (rright_any x.a x.n hA)
  rw [hr] at hC
  go_enter Try.func27, Try.ntmps27
  go_upto_region 1 with fail
  refine at_code (S := fun w1 => Blk w1 W.heap.size x.cells ∧ Below W.heap.size W w1) ⟨Blk.new _ _ _, bel_al (Below.refl _ _) _⟩ (fun W1 hW => ?_)
  have X1 := Lib.hid hW.1
  have B1 := Lib.hid hW.2
  obtain ⟨⟨x_0, x_1, x_2, x_3, x_4, x_5⟩, -⟩ := blk_ru hW.1
  clear hW
  go_wp2_with fail
  refine (hC.out W1).mono ?_
  rintro e w2 ⟨rfl, hb⟩
  have X2 := Lib.hid (X1.out.on hb)
  have B2 := Lib.hid (bel_on' B1.out hb)
  clear hb x_0 x_1 x_2 x_3 x_4 x_5 B1 X1 hC
  go_wp2_with fail
  refine wp_loop_rounds 1 ?_
  rw [rounds_succ]
  go_upto_region 13 with fail
  obtain ⟨⟨y_0, y_1, y_2, y_3, y_4, y_5⟩, -⟩ := blk_ru X2.out
  obtain ⟨i0, hi0, hz0, hz1, hz2⟩ := hinfo_parts infoRule
  have hown1 := (row_nil w2 W.heap.size 57 6).1
  have hszA := B2.out.size
  go_wp2_with (at_builtin; refine wpList_append_own _ rfl _ _ 55 rfl W.heap.size 57 i0 (.agg #[.int .i64 0, .int .i64 0, .int .u32 0, .int .i64 0, .int .i64 0, .int .i64 0]) 6 48 Try.underlying55 hi0 hz0 hz1 hz2 rfl (by decide) _ _ _ rfl (hown1.alloc _) ⟨w2.heap.size, 0, none⟩ 1 1 [.int .i64 x.id, .int .i64 x.dev, .int .u32 (x.a : Nat), .int .i64 x.n, .int .i64 x.prio, .int .i64 x.out] rfl ?c0 ?c1 ?c2 ?c3 ?c4 ?c5 ?_)
  case c0 => rfl
  case c1 => exact fun i u hu => by rw [add_plain, Nat.zero_add]; exact (Blk.new w2 57 x.cells).1 i u hu
  case c2 => intro y hy; simp at hy; rcases hy with rfl | rfl | rfl | rfl | rfl | rfl <;> rfl
  case c3 => unfold maxLen; omega
  case c4 => omega
  case c5 => simp; omega
  · intro v2 wB hown2 hgrow hnl2
    have BB := Lib.hid ((B2.out.alloc hszA _).grown hgrow (by simp; omega) (fun q e => (World.ownsRow.lt hown1 q e).1))
    have RF : Hid (Rules wB W.heap.size v2 [x]) := Lib.hid (by
      unfold Rules
      exact ⟨by simpa [Ru.cells] using hown2, ⟨fun e => absurd e hnl2, fun e => (by simp at e)⟩⟩)
    obtain ⟨g5, cap5, e5, hcap5⟩ : ∃ g cap, v2 = .slice (some ⟨g, 0, none⟩) 1 cap ∧ 1 ≤ cap := by
      rcases RF.out.1.2 with ⟨-, e⟩ | ⟨g1, c1, cur1, e, -, -, q3⟩
      · simp at e
      · exact ⟨g1, c1, e, q3.1⟩
    subst e5
    clear hgrow hnl2 hown2 hown1 B2 hszA y_0 y_1 y_2 y_3 y_4 y_5 hi0 hz0 hz1 hz2 X2
    go_wp2
    exact bodyPost_ret (v := .tuple #[.slice (some ⟨g5, 0, none⟩) 1 cap5, .int .i64 0]) (by simp [results, Try.results27, go_sem]) rfl ⟨_, rfl, RF.out, BB.out⟩
set_option maxRecDepth 100000 in
set_option maxHeartbeats 4000000 in
theorem rradd_right (W : World) (b0 : Nat) (l : Value) (m : List Ru) (x : Ru) (hA : x.a < 4294967296) (hr : rightB x.a x.n = true) (hl : Rules W b0 l m) (hlen : m.length ≤ 100000) (hb0 : b0 ≤ W.heap.size) (hne : 0 < m.length) :
    Calls Try.prog 27 #[l, rv x] W fun e w' => ∃ u, e = .returned (.tuple #[u, .int .i64 (taddC m x)]) ∧ Rules w' b0 u (raddF m x) ∧ Below W.heap.size W w' ∧ (u = l ∨ Rules w' W.heap.size u (raddF m x)) := by
  have hC := Lib.hid (rright_any x.a x.n hA)
  rw [hr] at hC
  have HR := Lib.hid hr
  have HL := Lib.hid hl
  have HB0 := Lib.hid hb0
  obtain ⟨g, cap0, el, -, -, -⟩ := Row.at hl hne
  subst el
  have HG : Hid (∀ w, Below W.heap.size W w → ∀ i u, (m.flatMap Ru.cells)[i]? = some u → w.cell? ⟨g, i, none⟩ = some u) := Lib.hid (fun w hb => by
    obtain ⟨g2, cap2, q1, -, -, q2⟩ := Row.at (show Row w b0 _ _ _ _ (m.flatMap Ru.cells) from Row.on hl hb) hne
    simp at q1
    obtain ⟨rfl, -⟩ := q1
    exact q2)
  have HCap : Hid (m.length ≤ cap0) := Lib.hid (by
    rcases hl.1.2 with ⟨e, -⟩ | ⟨g1, c1, cur1, e, -, -, q3⟩
    · cases e
    · cases e
      exact q3.1)
  have HAh := Lib.hid (fun y w => ahead_any y x w)
  clear hl hb0
  go_enter Try.func27, Try.ntmps27
  go_upto_region 1 with fail
  refine at_code (S := fun w1 => Blk w1 W.heap.size x.cells ∧ Below W.heap.size W w1) ⟨Blk.new _ _ _, bel_al (Below.refl _ _) _⟩ (fun W1 hW => ?_)
  have X1 := Lib.hid hW.1
  have B1 := Lib.hid hW.2
  obtain ⟨⟨x_0, x_1, x_2, x_3, x_4, x_5⟩, -⟩ := blk_ru hW.1
  clear hW
  go_wp2_with fail
  refine (hC.out W1).mono ?_
  rintro e w2 ⟨rfl, hb⟩
  have X2 := Lib.hid (X1.out.on hb)
  have B2 := Lib.hid (bel_on' B1.out hb)
  clear hb x_0 x_1 x_2 x_3 x_4 x_5 B1 X1 hC
  go_wp2_with fail
  go_loopw [6, 7] (fun av iv wr => ∃ (i : Nat), av = .int .i64 (atN m x i : Nat) ∧ iv = .int .i64 (i : Nat) ∧ i ≤ m.length ∧ Hid (∀ j y, j < i → m[j]? = some y → y.id ≠ x.id) ∧ Hid (Below W.heap.size W wr) ∧ Hid (Blk wr W.heap.size x.cells)) (fun _ iv _ => m.length - (intOf iv).toNat)
  case atStart => exact ⟨0, rfl, rfl, Nat.zero_le _, Lib.hid (fun j y h => by omega), B2, X2⟩
  case round =>
    obtain ⟨i, rfl, rfl, hi, HJ, Bw, Xw⟩ := hrel
    clear B2 X2
    by_cases hil : i < m.length
    · have hw1 : IntKind.i64.wrap ((i : Int) + 1) = ((i + 1 : Nat) : Int) := by rw [IntKind.wrap_i64]; omega
      obtain ⟨y, hy, -, hym⟩ := drop_at hil
      have HY := Lib.hid hy
      have HYM := Lib.hid hym
      have hcell : Hid (∀ w, Below W.heap.size W w → w.cell? ⟨g, i * 6, none⟩ = some (.int .i64 y.id) ∧ w.cell? ⟨g, i * 6 + 1, none⟩ = some (.int .i64 y.dev) ∧ w.cell? ⟨g, i * 6 + 2, none⟩ = some (.int .u32 (y.a : Nat)) ∧ w.cell? ⟨g, i * 6 + 3, none⟩ = some (.int .i64 y.n) ∧ w.cell? ⟨g, i * 6 + 4, none⟩ = some (.int .i64 y.prio) ∧ w.cell? ⟨g, i * 6 + 5, none⟩ = some (.int .i64 y.out)) := Lib.hid (fun w hb => by
        obtain ⟨g2, cap2, q1, q2⟩ := rule_at (show Rules w b0 _ m from Row.on HL.out hb) hne
        simp at q1
        obtain ⟨rfl, -⟩ := q1
        exact q2 i y hy)
      obtain ⟨a, ha⟩ : ∃ a, atN m x i = a := ⟨_, rfl⟩
      have HAT := Lib.hid ha
      rw [ha]
      have HAL := Lib.hid (show a ≤ 100000 by rw [← ha]; have := atN_le m x i; omega)
      clear hy hym ha
      obtain ⟨c_0, c_1, c_2, c_3, c_4, c_5⟩ := hcell.out wr Bw.out
      obtain ⟨⟨x_0, x_1, x_2, x_3, x_4, x_5⟩, -⟩ := blk_ru Xw.out
      by_cases hid : y.id = x.id
      · have e1 : (y.id == x.id) = true := by simp [hid]
        have HIN := Lib.hid (show x.id ∈ m.map Ru.id from List.mem_map.2 ⟨y, HYM.out, hid⟩)
        clear hid
        go_upto_region 7 with fail
        go_region
        all_goals
          have BD := Lib.hid (show Below W.heap.size W wr.drew from Bw.out.drew)
          have HLD := Lib.hid (show Rules wr.drew b0 (.slice (some ⟨g, 0, none⟩) m.length cap0) m from Row.on HL.out BD.out)
          have hc : taddC m x = 4 := by unfold taddC; rw [HR.out, if_pos rfl, if_pos HIN.out]
          have hf : raddF m x = m := by unfold raddF; rw [HR.out, if_pos rfl, if_pos HIN.out]
          have HC := Lib.hid hc
          have HF := Lib.hid hf
          clear x_0 x_1 x_2 x_3 x_4 x_5 c_0 c_1 c_2 c_3 c_4 c_5 Bw Xw hc hf
          go_wp2
          exact bodyPost_ret (v := .tuple #[.slice (some ⟨g, 0, none⟩) m.length cap0, .int .i64 4]) (by simp [results, Try.results27, go_sem]) rfl ⟨_, by rw [HC.out], by rw [HF.out]; exact HLD.out, BD.out, Or.inl rfl⟩
      · have e1 : (y.id == x.id) = false := by simp [hid]
        have HJ2 : Hid (∀ j z, j < i + 1 → m[j]? = some z → z.id ≠ x.id) := Lib.hid (fun j z hj hz => by
          rcases Nat.lt_or_ge j i with q | q
          · exact HJ.out j z q hz
          · obtain rfl : j = i := by omega
            rw [HY.out] at hz; cases hz; exact hid)
        have HSt := Lib.hid (atN_succ m x i y HY.out)
        rw [HAT.out] at HSt
        obtain ⟨b, hb⟩ : ∃ b, aheadB y x = b := ⟨_, rfl⟩
        have HA1 : Hid (∀ w, Calls Try.prog 54 #[rv y, rv x] w fun e w' => e = .returned (.bool b) ∧ Below w.heap.size w w') := Lib.hid (fun w => by rw [← hb]; exact HAh.out y w)
        rw [hb] at HSt
        clear hid hb
        go_upto_region 7 with fail
        go_region
        all_goals
          have BD := Lib.hid (show Below W.heap.size W wr.drew from Bw.out.drew)
          have XD := Lib.hid (Xw.out.on (Below.drew (Below.refl _ _)))
          clear x_0 x_1 x_2 x_3 x_4 x_5 c_0 c_1 c_2 c_3 c_4 c_5 Bw Xw
          go_upto_region 9 with fail
          refine at_code (S := fun w => Below W.heap.size W w ∧ Blk w W.heap.size x.cells) ⟨BD.out, XD.out⟩ (fun W8 h8 => ?_)
          have B8 := Lib.hid h8.1
          have X8 := Lib.hid h8.2
          clear h8 BD XD
          obtain ⟨c_0, c_1, c_2, c_3, c_4, c_5⟩ := hcell.out W8 B8.out
          obtain ⟨⟨x_0, x_1, x_2, x_3, x_4, x_5⟩, -⟩ := blk_ru X8.out
          go_region_held3 (fun w' => Below W8.heap.size W8 w' ∧ ∀ b o, (W8.cell? ⟨b, o, none⟩).isSome = true → w'.cell? ⟨b, o, none⟩ = W8.cell? ⟨b, o, none⟩)
            ((refine ckeep ?_; repeat (first | exact Below.refl _ _ | assumption | exact And.left (by assumption) | refine Below.drew ?_ | refine cbelow_al ?_ _ | refine bel_on' ?_ (by assumption))))
            (first | (go_at_call 54; (with_reducible refine (HA1.out _).mono ?_); rintro e w' ⟨rfl, hb⟩))
          all_goals
            rename_i hH
            have B9 := Lib.hid (bel_on' B8.out hH.1)
            have X9 := Lib.hid (X8.out.on hH.1)
            clear hH x_0 x_1 x_2 x_3 x_4 x_5 c_0 c_1 c_2 c_3 c_4 c_5 B8 X8
            cases b with
            | true =>
              have HS1 : Hid (atN m x (i + 1) = i + 1) := Lib.hid (by rw [HSt.out]; rfl)
              go_wp2_with fail
              refine ⟨⟨i + 1, by rw [HS1.out]; first | rfl | rw [hw1], by first | rfl | rw [hw1], by omega, HJ2, B9, X9⟩, by simp [intOf] <;> omega⟩
            | false =>
              have HS1 : Hid (atN m x (i + 1) = a) := Lib.hid (by rw [HSt.out]; rfl)
              go_wp2_with fail
              refine ⟨⟨i + 1, by rw [HS1.out], by first | rfl | rw [hw1], by omega, HJ2, B9, X9⟩, by simp [intOf] <;> omega⟩
    · obtain rfl : i = m.length := by omega
      have hno : x.id ∉ m.map Ru.id := fun q => by
        obtain ⟨y, hy, e⟩ := List.mem_map.1 q
        obtain ⟨j, hj⟩ := List.getElem?_of_mem hy
        have hjl : j < m.length := by
          rcases Nat.lt_or_ge j m.length with c | c
          · exact c
          · rw [List.getElem?_eq_none c] at hj; cases hj
        exact HJ.out j y hjl hj e
      have HC0 : Hid (taddC m x = 0) := Lib.hid (by unfold taddC; rw [HR.out, if_pos rfl, if_neg hno])
      have HF0 : Hid (raddF m x = insR m x) := Lib.hid (by unfold raddF; rw [HR.out, if_pos rfl, if_neg hno])
      have ha2 := atN_le m x m.length
      obtain ⟨a, ha⟩ : ∃ a, atN m x m.length = a := ⟨_, rfl⟩
      have HAT : Hid (insR m x = m.take a ++ x :: m.drop a) := Lib.hid (by unfold insR; rw [ha])
      rw [ha] at ha2 ⊢
      have hcap := HCap.out
      obtain ⟨i0, hi0, hz0, hz1, hz2⟩ := hinfo_parts infoRule
      have HTL := Lib.hid (show (m.take a).length = a by rw [List.length_take]; omega)
      have HDL := Lib.hid (show (m.drop a).length = m.length - a from List.length_drop)
      clear ha hno HJ
      rcases Nat.lt_or_ge a cap0 with hac | hac
      · go_upto_region 12 with fail
        refine at_code (S := fun w => Below W.heap.size W w ∧ Blk w W.heap.size x.cells) ⟨Bw.out, Xw.out⟩ (fun W9 h9 => ?_)
        have B9 := Lib.hid h9.1
        have X9 := Lib.hid h9.2
        clear h9
        have hown0 := (row_nil W9 W.heap.size 57 6).1
        have hsz9 := B9.out.size
        go_wp2_with (at_builtin; refine wpList_append_own _ rfl _ _ 55 rfl W.heap.size 57 i0 (.agg #[.int .i64 0, .int .i64 0, .int .u32 0, .int .i64 0, .int .i64 0, .int .i64 0]) 6 48 Try.underlying55 hi0 hz0 hz1 hz2 rfl (by decide) _ _ _ rfl hown0 ⟨g, 0, none⟩ a _ ((m.take a).flatMap Ru.cells) rfl ?c0 ?c1 ?c2 ?c3 ?c4 ?c5 ?_)
        case c0 => rw [rcells_len, HTL.out]
        case c1 => exact fun i u hu => by rw [add_plain, Nat.zero_add]; exact HG.out W9 B9.out i u (rtake_get m a i u hu)
        case c2 => exact rcells_one _
        case c3 => unfold maxLen; omega
        case c4 => omega
        case c5 => omega
        · intro v1 wA hown1 hgrow hnl
          have BA := Lib.hid (B9.out.grown hgrow hsz9 (fun q e => (World.ownsRow.lt hown0 q e).1))
          have XA : Hid (Blk wA W.heap.size x.cells) := Lib.hid (Keep.blk ((Keep.refl (fun _ => False) W9).grown hgrow (fun q e => by cases e)) X9.out (fun q => q))
          clear hgrow hnl hown0 B9 X9 hsz9
          obtain ⟨⟨y_0, y_1, y_2, y_3, y_4, y_5⟩, -⟩ := blk_ru XA.out
          have hszA := BA.out.size
          go_wp2_with (at_builtin; refine wpList_append_own _ rfl _ _ 55 rfl W.heap.size 57 i0 (.agg #[.int .i64 0, .int .i64 0, .int .u32 0, .int .i64 0, .int .i64 0, .int .i64 0]) 6 48 Try.underlying55 hi0 hz0 hz1 hz2 rfl (by decide) _ _ _ rfl (hown1.alloc _) ⟨wA.heap.size, 0, none⟩ 1 1 [.int .i64 x.id, .int .i64 x.dev, .int .u32 (x.a : Nat), .int .i64 x.n, .int .i64 x.prio, .int .i64 x.out] rfl ?c0 ?c1 ?c2 ?c3 ?c4 ?c5 ?_)
          case c0 => rfl
          case c1 => exact fun i u hu => by rw [add_plain, Nat.zero_add]; exact (Blk.new wA 57 x.cells).1 i u hu
          case c2 => intro y hy; simp at hy; rcases hy with rfl | rfl | rfl | rfl | rfl | rfl <;> rfl
          case c3 => unfold maxLen; omega
          case c4 => omega
          case c5 => simp; omega
          · intro v2 wB hown2 hgrow hnl2
            have BB := Lib.hid ((BA.out.alloc hszA _).grown hgrow (by simp; omega) (fun q e => (World.ownsRow.lt hown1 q e).1))
            have NV := Lib.hid hnl2
            clear hgrow hnl2 hown1 BA XA hszA y_0 y_1 y_2 y_3 y_4 y_5
            have hszB := BB.out.size
            go_wp2_with (at_builtin; refine wpList_append_own _ rfl _ _ 55 rfl W.heap.size 57 i0 (.agg #[.int .i64 0, .int .i64 0, .int .u32 0, .int .i64 0, .int .i64 0, .int .i64 0]) 6 48 Try.underlying55 hi0 hz0 hz1 hz2 rfl (by decide) _ _ _ rfl hown2 _ _ _ ((m.drop a).flatMap Ru.cells) rfl ?c0 ?c1 ?c2 ?c3 ?c4 ?c5 ?_)
            case c0 => rw [rcells_len, HDL.out]
            case c1 => exact fun i u hu => by rw [add_plain]; have := HG.out wB BB.out (a * 6 + i) u (rdrop_get m a i ha2 u hu); simpa using this
            case c2 => exact rcells_one _
            case c3 => unfold maxLen; omega
            case c4 => omega
            case c5 => omega
            · intro v3 wC hown3 hgrow hnl3
              have BC := Lib.hid (BB.out.grown hgrow hszB (fun q e => (World.ownsRow.lt hown2 q e).1))
              have RF : Hid (Rules wC W.heap.size v3 (m.take a ++ x :: m.drop a)) := Lib.hid (by
                unfold Rules
                have hle : (m.take a ++ x :: m.drop a).length = 0 + a + 1 + (m.length - a) := by rw [List.length_append, List.length_cons, HTL.out, HDL.out]; omega
                have hce : (m.take a ++ x :: m.drop a).flatMap Ru.cells = [] ++ (m.take a).flatMap Ru.cells ++ [.int .i64 x.id, .int .i64 x.dev, .int .u32 (x.a : Nat), .int .i64 x.n, .int .i64 x.prio, .int .i64 x.out] ++ (m.drop a).flatMap Ru.cells := by
                  rw [List.flatMap_append, List.flatMap_cons]; simp [Ru.cells]
                rw [hle, hce]
                refine ⟨by simpa using hown3, ⟨fun e => ?_, fun e => by omega⟩⟩
                exact absurd (hnl3.1 e).1 NV.out)
              clear hgrow hnl3 hown3 hown2 hi0 hz0 hz1 hz2 BB hszB
              rw [← HAT.out] at RF
              go_wp2
              exact bodyPost_ret (v := .tuple #[v3, .int .i64 0]) (by simp [results, Try.results27, go_sem]) rfl ⟨v3, by rw [HC0.out], by rw [HF0.out]; exact Row.base RF.out HB0.out, BC.out, Or.inr (by rw [HF0.out]; exact RF.out)⟩
      · go_upto_region 12 with fail
        refine at_code (S := fun w => Below W.heap.size W w ∧ Blk w W.heap.size x.cells) ⟨Bw.out, Xw.out⟩ (fun W9 h9 => ?_)
        have B9 := Lib.hid h9.1
        have X9 := Lib.hid h9.2
        clear h9
        have hown0 := (row_nil W9 W.heap.size 57 6).1
        have hsz9 := B9.out.size
        go_wp2_with (at_builtin; refine wpList_append_own _ rfl _ _ 55 rfl W.heap.size 57 i0 (.agg #[.int .i64 0, .int .i64 0, .int .u32 0, .int .i64 0, .int .i64 0, .int .i64 0]) 6 48 Try.underlying55 hi0 hz0 hz1 hz2 rfl (by decide) _ _ _ rfl hown0 ⟨g, 0, none⟩ a _ ((m.take a).flatMap Ru.cells) rfl ?c0 ?c1 ?c2 ?c3 ?c4 ?c5 ?_)
        case c0 => rw [rcells_len, HTL.out]
        case c1 => exact fun i u hu => by rw [add_plain, Nat.zero_add]; exact HG.out W9 B9.out i u (rtake_get m a i u hu)
        case c2 => exact rcells_one _
        case c3 => unfold maxLen; omega
        case c4 => omega
        case c5 => omega
        · intro v1 wA hown1 hgrow hnl
          have BA := Lib.hid (B9.out.grown hgrow hsz9 (fun q e => (World.ownsRow.lt hown0 q e).1))
          have XA : Hid (Blk wA W.heap.size x.cells) := Lib.hid (Keep.blk ((Keep.refl (fun _ => False) W9).grown hgrow (fun q e => by cases e)) X9.out (fun q => q))
          clear hgrow hnl hown0 B9 X9 hsz9
          obtain ⟨⟨y_0, y_1, y_2, y_3, y_4, y_5⟩, -⟩ := blk_ru XA.out
          have hszA := BA.out.size
          go_wp2_with (at_builtin; refine wpList_append_own _ rfl _ _ 55 rfl W.heap.size 57 i0 (.agg #[.int .i64 0, .int .i64 0, .int .u32 0, .int .i64 0, .int .i64 0, .int .i64 0]) 6 48 Try.underlying55 hi0 hz0 hz1 hz2 rfl (by decide) _ _ _ rfl (hown1.alloc _) ⟨wA.heap.size, 0, none⟩ 1 1 [.int .i64 x.id, .int .i64 x.dev, .int .u32 (x.a : Nat), .int .i64 x.n, .int .i64 x.prio, .int .i64 x.out] rfl ?c0 ?c1 ?c2 ?c3 ?c4 ?c5 ?_)
          case c0 => rfl
          case c1 => exact fun i u hu => by rw [add_plain, Nat.zero_add]; exact (Blk.new wA 57 x.cells).1 i u hu
          case c2 => intro y hy; simp at hy; rcases hy with rfl | rfl | rfl | rfl | rfl | rfl <;> rfl
          case c3 => unfold maxLen; omega
          case c4 => omega
          case c5 => simp; omega
          · intro v2 wB hown2 hgrow hnl2
            have BB := Lib.hid ((BA.out.alloc hszA _).grown hgrow (by simp; omega) (fun q e => (World.ownsRow.lt hown1 q e).1))
            have NV := Lib.hid hnl2
            clear hgrow hnl2 hown1 BA XA hszA y_0 y_1 y_2 y_3 y_4 y_5
            have hszB := BB.out.size
            go_wp2_with (at_builtin; refine wpList_append_own _ rfl _ _ 55 rfl W.heap.size 57 i0 (.agg #[.int .i64 0, .int .i64 0, .int .u32 0, .int .i64 0, .int .i64 0, .int .i64 0]) 6 48 Try.underlying55 hi0 hz0 hz1 hz2 rfl (by decide) _ _ _ rfl hown2 _ _ _ ((m.drop a).flatMap Ru.cells) rfl ?c0 ?c1 ?c2 ?c3 ?c4 ?c5 ?_)
            case c0 => rw [rcells_len, HDL.out]
            case c1 => exact fun i u hu => by rw [List.drop_eq_nil_of_le (by omega)] at hu; simp at hu
            case c2 => exact rcells_one _
            case c3 => unfold maxLen; omega
            case c4 => omega
            case c5 => omega
            · intro v3 wC hown3 hgrow hnl3
              have BC := Lib.hid (BB.out.grown hgrow hszB (fun q e => (World.ownsRow.lt hown2 q e).1))
              have RF : Hid (Rules wC W.heap.size v3 (m.take a ++ x :: m.drop a)) := Lib.hid (by
                unfold Rules
                have hle : (m.take a ++ x :: m.drop a).length = 0 + a + 1 + (m.length - a) := by rw [List.length_append, List.length_cons, HTL.out, HDL.out]; omega
                have hce : (m.take a ++ x :: m.drop a).flatMap Ru.cells = [] ++ (m.take a).flatMap Ru.cells ++ [.int .i64 x.id, .int .i64 x.dev, .int .u32 (x.a : Nat), .int .i64 x.n, .int .i64 x.prio, .int .i64 x.out] ++ (m.drop a).flatMap Ru.cells := by
                  rw [List.flatMap_append, List.flatMap_cons]; simp [Ru.cells]
                rw [hle, hce]
                refine ⟨by simpa using hown3, ⟨fun e => ?_, fun e => by omega⟩⟩
                exact absurd (hnl3.1 e).1 NV.out)
              clear hgrow hnl3 hown3 hown2 hi0 hz0 hz1 hz2 BB hszB
              rw [← HAT.out] at RF
              go_wp2
              exact bodyPost_ret (v := .tuple #[v3, .int .i64 0]) (by simp [results, Try.results27, go_sem]) rfl ⟨v3, by rw [HC0.out], by rw [HF0.out]; exact Row.base RF.out HB0.out, BC.out, Or.inr (by rw [HF0.out]; exact RF.out)⟩
theorem rradd_any (W : World) (b0 : Nat) (l : Value) (m : List Ru) (x : Ru) (hA : x.a < 4294967296) (hl : Rules W b0 l m) (hlen : m.length ≤ 100000) (hb0 : b0 ≤ W.heap.size) :
    Calls Try.prog 27 #[l, rv x] W fun e w' => ∃ u, e = .returned (.tuple #[u, .int .i64 (taddC m x)]) ∧ RLeft W w' b0 l u (raddF m x) := by
  cases hr : rightB x.a x.n with
  | false =>
    refine (rradd_wrong W l x hA hr).mono ?_
    rintro e w' ⟨rfl, hb⟩
    have e1 : taddC m x = 13 := by unfold taddC; rw [hr]; rfl
    have e2 : raddF m x = m := by unfold raddF; rw [hr]; rfl
    rw [e1, e2]
    exact ⟨l, rfl, Row.on hl hb, hb, Or.inl rfl⟩
  | true =>
    cases m with
    | nil =>
      have el : l = .slice none 0 0 := hl.2.2 rfl
      subst el
      refine (rradd_nil W x hA hr).mono ?_
      rintro e w' ⟨u, rfl, q1, q2⟩
      have e1 : taddC [] x = 0 := by unfold taddC; rw [hr]; rfl
      have e2 : raddF [] x = [x] := by unfold raddF; rw [hr]; rfl
      rw [e1, e2]
      exact ⟨u, rfl, Row.base q1 hb0, q2, Or.inr q1⟩
    | cons y ys => exact rradd_right W b0 l (y :: ys) x hA hr hl hlen hb0 (by simp)
end Go.Proofs.Ytgcbngephokegaa
namespace Go.Proofs.Ytgcbngephokegaa
open Go.RowKit Go.Maps Go.MapKept Go.ChangeMaps Go.WideElems Go.Joins
set_option linter.unusedVariables false
set_option linter.unusedSimpArgs false

theorem dropI_at : ∀ {m : List Ru} {i : Nat} {y : Ru}, (m.map Ru.id).Nodup → m[i]? = some y → dropI m y.id = m.take i ++ m.drop (i + 1)
  | [], i, y, _, h => by simp at h
  | x :: m, 0, y, hn, h => by
    have e : x = y := by simpa using h
    subst e
    obtain ⟨h1, h2⟩ := List.nodup_cons.1 hn
    have := dropI_none h1
    unfold dropI at this ⊢
    rw [List.filter_cons_of_neg (by simp), this]
    simp
  | x :: m, i + 1, y, hn, h => by
    obtain ⟨h1, h2⟩ := List.nodup_cons.1 hn
    have hy : m[i]? = some y := by simpa using h
    have hne : x.id ≠ y.id := fun e => h1 (List.mem_map.2 ⟨y, List.mem_of_getElem? hy, e.symm⟩)
    have ih := dropI_at h2 hy
    unfold dropI at ih ⊢
    rw [List.filter_cons_of_pos (by simpa using hne), ih]
    simp
set_option maxRecDepth 100000 in
set_option maxHeartbeats 4000000 in
theorem rrdrop_some (W : World) (b0 : Nat) (l : Value) (m : List Ru) (id : Int) (hn : (m.map Ru.id).Nodup) (hl : Rules W b0 l m) (hlen : m.length ≤ 100000) (hb0 : b0 ≤ W.heap.size) (hne : 0 < m.length) :
    Calls Try.prog 25 #[l, .int .i64 id] W fun e w' => ∃ u, e = .returned (.tuple #[u, .int .i64 (tdropC m id)]) ∧ RLeft W w' b0 l u (dropI m id) := by
  have HN := Lib.hid hn
  have HL := Lib.hid hl
  have HB0 := Lib.hid hb0
  obtain ⟨g, cap0, el, -, -, -⟩ := Row.at hl hne
  subst el
  have HG : Hid (∀ w, Below W.heap.size W w → ∀ i u, (m.flatMap Ru.cells)[i]? = some u → w.cell? ⟨g, i, none⟩ = some u) := Lib.hid (fun w hb => by
    obtain ⟨g2, cap2, q1, -, -, q2⟩ := Row.at (show Row w b0 _ _ _ _ (m.flatMap Ru.cells) from Row.on hl hb) hne
    simp at q1
    obtain ⟨rfl, -⟩ := q1
    exact q2)
  have HCap : Hid (m.length ≤ cap0) := Lib.hid (by
    rcases hl.1.2 with ⟨e, -⟩ | ⟨g1, c1, cur1, e, -, -, q3⟩
    · cases e
    · cases e
      exact q3.1)
  have HB1 : Hid (Below W.heap.size W W) := Lib.hid (Below.refl _ _)
  clear hl hb0 hn
  unfold RLeft
  go_enter Try.func25, Try.ntmps25
  go_wp2_with fail
  go_loopw [6] (fun iv wr => ∃ (i : Nat), iv = .int .i64 (i : Nat) ∧ i ≤ m.length ∧ Hid (∀ j y, j < i → m[j]? = some y → y.id ≠ id) ∧ Hid (Below W.heap.size W wr)) (fun iv _ => m.length - (intOf iv).toNat)
  case atStart => exact ⟨0, rfl, Nat.zero_le _, Lib.hid (fun j y h => by omega), HB1⟩
  case round =>
    obtain ⟨i, rfl, hi, HJ, Bw⟩ := hrel
    clear HB1
    by_cases hil : i < m.length
    · have hw1 : IntKind.i64.wrap ((i : Int) + 1) = ((i + 1 : Nat) : Int) := by rw [IntKind.wrap_i64]; omega
      obtain ⟨y, hy, -, hym⟩ := drop_at hil
      have HY := Lib.hid hy
      obtain ⟨g2, cap2, q1, q2⟩ := rule_at (show Rules wr b0 _ m from Row.on HL.out Bw.out) hne
      simp at q1
      obtain ⟨rfl, -⟩ := q1
      obtain ⟨c_0, -⟩ := q2 i y hy
      clear q2 hy
      by_cases hid : y.id = id
      · have e1 : (y.id == id) = true := by simp [hid]
        have HC : Hid (tdropC m id = 0) := Lib.hid (by unfold tdropC; rw [if_pos (List.mem_map.2 ⟨y, hym, hid⟩)])
        have hat : dropI m id = m.take i ++ m.drop (i + 1) := by rw [← hid]; exact dropI_at HN.out HY.out
        have hcm : i + 1 ≤ m.length := hil
        obtain ⟨c, hcc⟩ : ∃ c, i + 1 = c := ⟨_, rfl⟩
        rw [hcc] at hat hcm hw1
        have HAT := Lib.hid hat
        have hcap := HCap.out
        obtain ⟨i0, hi0, hz0, hz1, hz2⟩ := hinfo_parts infoRule
        have HTL := Lib.hid (show (m.take i).length = i by rw [List.length_take]; omega)
        have HDL := Lib.hid (show (m.drop c).length = m.length - c from List.length_drop)
        clear hid hym HJ hat hcc
        rcases Nat.lt_or_ge c cap0 with hac | hac
        · go_upto_region 6 with fail
          have hown0 := (row_nil wr W.heap.size 57 6).1
          have hszW := Bw.out.size
          go_wp2_with (at_builtin; refine wpList_append_own _ rfl _ _ 55 rfl W.heap.size 57 i0 (.agg #[.int .i64 0, .int .i64 0, .int .u32 0, .int .i64 0, .int .i64 0, .int .i64 0]) 6 48 Try.underlying55 hi0 hz0 hz1 hz2 rfl (by decide) _ _ _ rfl hown0 ⟨g, 0, none⟩ i _ ((m.take i).flatMap Ru.cells) rfl ?c0 ?c1 ?c2 ?c3 ?c4 ?c5 ?_)
          case c0 => rw [rcells_len, HTL.out]
          case c1 => exact fun j u hu => by rw [add_plain, Nat.zero_add]; exact HG.out wr Bw.out j u (rtake_get m i j u hu)
          case c2 => exact rcells_one _
          case c3 => unfold maxLen; omega
          case c4 => omega
          case c5 => omega
          · intro v1 wA hown1 hgrow hnl
            have BA := Lib.hid (Bw.out.grown hgrow hszW (fun q e => (World.ownsRow.lt hown0 q e).1))
            have NV := Lib.hid hnl
            clear hgrow hnl hown0 Bw hszW
            have hszA := BA.out.size
            go_wp2_with (at_builtin; refine wpList_append_own _ rfl _ _ 55 rfl W.heap.size 57 i0 (.agg #[.int .i64 0, .int .i64 0, .int .u32 0, .int .i64 0, .int .i64 0, .int .i64 0]) 6 48 Try.underlying55 hi0 hz0 hz1 hz2 rfl (by decide) _ _ _ rfl hown1 _ _ _ ((m.drop c).flatMap Ru.cells) rfl ?c0 ?c1 ?c2 ?c3 ?c4 ?c5 ?_)
            case c0 => rw [rcells_len, HDL.out]
            case c1 => exact fun j u hu => by rw [add_plain]; have := HG.out wA BA.out (c * 6 + j) u (rdrop_get m c j hcm u hu); simpa using this
            case c2 => exact rcells_one _
            case c3 => unfold maxLen; omega
            case c4 => omega
            case c5 => omega
            · intro v3 wC hown3 hgrow hnl3
              have BC := Lib.hid (BA.out.grown hgrow hszA (fun q e => (World.ownsRow.lt hown1 q e).1))
              have RF : Hid (Rules wC W.heap.size v3 (m.take i ++ m.drop c)) := Lib.hid (by
                unfold Rules
                have hle : (m.take i ++ m.drop c).length = 0 + i + (m.length - c) := by rw [List.length_append, HTL.out, HDL.out]; omega
                have hce : (m.take i ++ m.drop c).flatMap Ru.cells = [] ++ (m.take i).flatMap Ru.cells ++ (m.drop c).flatMap Ru.cells := by
                  rw [List.flatMap_append]; simp
                rw [hle, hce]
                refine ⟨by simpa using hown3, ⟨fun e => ?_, fun e => ?_⟩⟩
                · have q1 := hnl3.1 e
                  have q2 := NV.out.1 q1.1
                  omega
                · exact hnl3.2 ⟨NV.out.2 (by first | omega | exact ⟨rfl, by omega⟩), by omega⟩)
              clear hgrow hnl3 hown3 hown1 hi0 hz0 hz1 hz2 BA hszA
              rw [← HAT.out] at RF
              go_wp2
              exact bodyPost_ret (v := .tuple #[v3, .int .i64 0]) (by simp [results, Try.results25, go_sem]) rfl ⟨v3, by rw [HC.out], Row.base RF.out HB0.out, BC.out, Or.inr RF.out⟩
        · go_upto_region 6 with fail
          have hown0 := (row_nil wr W.heap.size 57 6).1
          have hszW := Bw.out.size
          go_wp2_with (at_builtin; refine wpList_append_own _ rfl _ _ 55 rfl W.heap.size 57 i0 (.agg #[.int .i64 0, .int .i64 0, .int .u32 0, .int .i64 0, .int .i64 0, .int .i64 0]) 6 48 Try.underlying55 hi0 hz0 hz1 hz2 rfl (by decide) _ _ _ rfl hown0 ⟨g, 0, none⟩ i _ ((m.take i).flatMap Ru.cells) rfl ?c0 ?c1 ?c2 ?c3 ?c4 ?c5 ?_)
          case c0 => rw [rcells_len, HTL.out]
          case c1 => exact fun j u hu => by rw [add_plain, Nat.zero_add]; exact HG.out wr Bw.out j u (rtake_get m i j u hu)
          case c2 => exact rcells_one _
          case c3 => unfold maxLen; omega
          case c4 => omega
          case c5 => omega
          · intro v1 wA hown1 hgrow hnl
            have BA := Lib.hid (Bw.out.grown hgrow hszW (fun q e => (World.ownsRow.lt hown0 q e).1))
            have NV := Lib.hid hnl
            clear hgrow hnl hown0 Bw hszW
            have hszA := BA.out.size
            go_wp2_with (at_builtin; refine wpList_append_own _ rfl _ _ 55 rfl W.heap.size 57 i0 (.agg #[.int .i64 0, .int .i64 0, .int .u32 0, .int .i64 0, .int .i64 0, .int .i64 0]) 6 48 Try.underlying55 hi0 hz0 hz1 hz2 rfl (by decide) _ _ _ rfl hown1 _ _ _ ((m.drop c).flatMap Ru.cells) rfl ?c0 ?c1 ?c2 ?c3 ?c4 ?c5 ?_)
            case c0 => rw [rcells_len, HDL.out]
            case c1 => exact fun j u hu => by rw [List.drop_eq_nil_of_le (by omega)] at hu; simp at hu
            case c2 => exact rcells_one _
            case c3 => unfold maxLen; omega
            case c4 => omega
            case c5 => omega
            · intro v3 wC hown3 hgrow hnl3
              have BC := Lib.hid (BA.out.grown hgrow hszA (fun q e => (World.ownsRow.lt hown1 q e).1))
              have RF : Hid (Rules wC W.heap.size v3 (m.take i ++ m.drop c)) := Lib.hid (by
                unfold Rules
                have hle : (m.take i ++ m.drop c).length = 0 + i + (m.length - c) := by rw [List.length_append, HTL.out, HDL.out]; omega
                have hce : (m.take i ++ m.drop c).flatMap Ru.cells = [] ++ (m.take i).flatMap Ru.cells ++ (m.drop c).flatMap Ru.cells := by
                  rw [List.flatMap_append]; simp
                rw [hle, hce]
                refine ⟨by simpa using hown3, ⟨fun e => ?_, fun e => ?_⟩⟩
                · have q1 := hnl3.1 e
                  have q2 := NV.out.1 q1.1
                  omega
                · exact hnl3.2 ⟨NV.out.2 (by first | omega | exact ⟨rfl, by omega⟩), by omega⟩)
              clear hgrow hnl3 hown3 hown1 hi0 hz0 hz1 hz2 BA hszA
              rw [← HAT.out] at RF
              go_wp2
              exact bodyPost_ret (v := .tuple #[v3, .int .i64 0]) (by simp [results, Try.results25, go_sem]) rfl ⟨v3, by rw [HC.out], Row.base RF.out HB0.out, BC.out, Or.inr RF.out⟩
      · have e1 : (y.id == id) = false := by simp [hid]
        have HJ2 : Hid (∀ j z, j < i + 1 → m[j]? = some z → z.id ≠ id) := Lib.hid (fun j z hj hz => by
          rcases Nat.lt_or_ge j i with q | q
          · exact HJ.out j z q hz
          · obtain rfl : j = i := by omega
            rw [HY.out] at hz; cases hz; exact hid)
        clear hid hym
        go_wp2_with fail
        refine ⟨⟨i + 1, by first | rfl | rw [hw1], by omega, HJ2, Bw⟩, by simp [intOf] <;> omega⟩
    · obtain rfl : i = m.length := by omega
      have hno : id ∉ m.map Ru.id := fun q => by
        obtain ⟨y, hy, e⟩ := List.mem_map.1 q
        obtain ⟨j, hj⟩ := List.getElem?_of_mem hy
        have hjl : j < m.length := by
          rcases Nat.lt_or_ge j m.length with c | c
          · exact c
          · rw [List.getElem?_eq_none c] at hj; cases hj
        exact HJ.out j y hjl hj e
      have HC : Hid (tdropC m id = 3) := Lib.hid (by unfold tdropC; rw [if_neg hno])
      have HF : Hid (dropI m id = m) := Lib.hid (dropI_none hno)
      have HLD := Lib.hid (show Rules wr b0 (.slice (some ⟨g, 0, none⟩) m.length cap0) m from Row.on HL.out Bw.out)
      clear hno HJ
      go_wp2
      exact bodyPost_ret (v := .tuple #[.slice (some ⟨g, 0, none⟩) m.length cap0, .int .i64 3]) (by simp [results, Try.results25, go_sem]) rfl ⟨_, by rw [HC.out], by rw [HF.out]; exact HLD.out, Bw.out, Or.inl rfl⟩
theorem rrdrop_nil (W : World) (id : Int) : Calls Try.prog 25 #[.slice none 0 0, .int .i64 id] W fun e w' => e = .returned (.tuple #[.slice none 0 0, .int .i64 3]) ∧ W = w' := by
  go_enter Try.func25, Try.ntmps25
  go_wp2_with fail
  refine wp_loop_rounds 1 ?_
  rw [rounds_succ]
  go_wp2
  exact bodyPost_ret (v := .tuple #[.slice none 0 0, .int .i64 3]) (by simp [results, Try.results25, go_sem]) rfl ⟨rfl, rfl⟩
theorem rrdrop_any (W : World) (b0 : Nat) (l : Value) (m : List Ru) (id : Int) (hn : (m.map Ru.id).Nodup) (hl : Rules W b0 l m) (hlen : m.length ≤ 100000) (hb0 : b0 ≤ W.heap.size) :
    Calls Try.prog 25 #[l, .int .i64 id] W fun e w' => ∃ u, e = .returned (.tuple #[u, .int .i64 (tdropC m id)]) ∧ RLeft W w' b0 l u (dropI m id) := by
  cases m with
  | nil =>
    have el : l = .slice none 0 0 := hl.2.2 rfl
    subst el
    refine (rrdrop_nil W id).mono ?_
    rintro e w' ⟨rfl, rfl⟩
    exact ⟨_, rfl, hl, Below.refl _ _, Or.inl rfl⟩
  | cons y ys => exact rrdrop_some W b0 l (y :: ys) id hn hl hlen hb0 (by simp)
end Go.Proofs.Ytgcbngephokegaa
