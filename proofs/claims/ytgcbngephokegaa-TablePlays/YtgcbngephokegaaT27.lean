/- TablePlays: the walk. -/
import Derived.Test.YtgcbngephokegaaT24
import Derived.Test.YtgcbngephokegaaAlong2
namespace Go.Proofs.Ytgcbngephokegaa
open Go.RowKit Go.Maps Go.MapKept Go.ChangeMaps Go.WideElems Go.Joins
set_option linter.unusedVariables false
set_option linter.unusedSimpArgs false

set_option maxRecDepth 100000 in
theorem tplays_many (L : List ChR) (la : Option Addr) (lc A A2 : Nat) (n2 : Int) (hn : 60 < L.length) (W : World) : Calls Try.prog 4 #[.slice la L.length lc, .int .u32 (A : Nat), pv (A2 : Nat) n2] W fun e w' => e = .returned (.bool true) ∧ Below W.heap.size W w' := by
  have h := Lib.hid (tawake_any)
  go_enter Try.func4, Try.ntmps4
  go_wp2_with fail
  refine (h.out _).mono ?_
  rintro e w' ⟨rfl, hb⟩
  have B := Lib.hid (bel_on' (bel_al (Below.refl W.heap.size W) _) hb)
  clear hb h
  go_wp2
  go_ret
  exact ⟨rfl, B.out⟩
set_option maxRecDepth 100000 in
set_option maxHeartbeats 8000000 in
theorem tplays_few (L : List ChR) (la : Option Addr) (lc A A2 : Nat) (n2 : Int) (hA : A < 4294967296) (hA2 : A2 < 4294967296) (hok : ∀ x ∈ L, x.Ok) (hn : L.length ≤ 60) (W : World) (hr : Rw W la (L.flatMap ChR.cells)) :
    Calls Try.prog 4 #[.slice la L.length lc, .int .u32 (A : Nat), pv (A2 : Nat) n2] W fun e w' => e = .returned (.bool true) ∧ Below W.heap.size W w' := by
  have R := Lib.hid hr
  have OK := Lib.hid hok
  obtain ⟨n, hN⟩ : ∃ n, L.length = n := ⟨_, rfl⟩
  have hE1 : Hid (∀ i, (madeL (L.take i)).length ≤ i) := Lib.hid (fun i => madeL_len L i)
  have HAI : Hid (∀ i, Asked (madeL (L.take i))) := Lib.hid (fun i => made_asked (L.take i))
  rw [hN] at hn ⊢
  have HN := Lib.hid hN
  clear hr hok hN
  go_enter Try.func4, Try.ntmps4
  go_upto_region 1 with fail
  refine at_code (S := fun w => Blk w W.heap.size [.int .u32 (A2 : Nat), .int .i64 n2] ∧ Below W.heap.size W w) ⟨Blk.new W 25 [.int .u32 (A2 : Nat), .int .i64 n2], bel_al (Below.refl _ _) _⟩ (fun W1 h1 => ?_)
  have X1 := Lib.hid h1.1
  have B1 := Lib.hid h1.2
  have R1 := Lib.hid (R.out.on B1.out)
  have CN := Lib.hid (sNewTab W1)
  clear h1 R
  go_wp2_with fail
  refine CN.out.mono ?_
  rintro e w1 ⟨rfl, h1, h2⟩
  obtain ⟨p, hp⟩ : ∃ p, W1.heap.size = p := ⟨_, rfl⟩
  have P0 : Hid (TM (fun _ => False) W1 W1.heap.size w1 (.slice none 0 0) (madeL (L.take 0))) := Lib.hid ⟨h1.less (fun k q => q.elim id (fun q => q.elim)), Hold.of h2, row_nil _ _ _ _, fun i e => (by cases e), asked_nil⟩
  have P1 : Hid (TM (fun _ => False) W1 p w1 (.slice none 0 0) (madeL (L.take 0))) := Lib.hid (by rw [← hp]; exact P0.out)
  rw [hp]
  clear h1 h2 CN P0 hp
  go_wp2_with fail
  go_loopw [8, 31] (fun lv iv wr => ∃ (i : Nat) (Y : Nat → Prop), iv = .int .i64 (i : Nat) ∧ i ≤ n ∧ Hid (TM Y W1 p wr lv (madeL (L.take i)))) (fun _ iv _ => n - (intOf iv).toNat)
  case atStart => exact ⟨0, _, rfl, Nat.zero_le _, P1⟩
  case round =>
    obtain ⟨i, Y, rfl, hi, S⟩ := hrel
    clear P1
    by_cases hin : i < n
    · have hw1 : IntKind.i64.wrap ((i : Int) + 1) = ((i + 1 : Nat) : Int) := by rw [IntKind.wrap_i64]; omega
      obtain ⟨x, hx⟩ : ∃ x, L[i]? = some x := ⟨_, List.getElem?_eq_getElem (by rw [HN.out]; exact hin)⟩
      obtain ⟨b, o, rfl, c_0, c_1, c_2, c_3, c_4, c_5, c_6⟩ := chg_at (R1.out.on S.out.below) hx
      have hxo := Lib.hid (show x.r.Ok from OK.out x (List.mem_of_getElem? hx))
      have hsn := Lib.hid (madeL_snoc L i x hx)
      have hl1 := hE1.out i
      have HAN := Lib.hid (HAI.out (i + 1))
      obtain ⟨m, hm⟩ : ∃ m, madeL (L.take i) = m := ⟨_, rfl⟩
      rw [hm] at hsn S hl1
      have hml : m.length ≤ 100000 := by omega
      obtain ⟨m', hm'⟩ : ∃ m', madeL (L.take (i + 1)) = m' := ⟨_, rfl⟩
      have HM' := Lib.hid hm'
      rw [hm'] at hsn HAN
      have HML' := Lib.hid (show m'.length ≤ 1000 by rw [← hm']; have := hE1.out (i + 1); omega)
      clear hx hm hl1 hm'
      obtain ⟨nb, hnb⟩ : ∃ n, wr.heap.size = n := ⟨_, rfl⟩
      go_upto_region 10 with fail
      refine at_code (S := fun w => Blk w nb x.cells ∧ TM (fun k => Y k ∨ k = nb) W1 p w u8 m) ⟨by rw [← hnb]; exact Blk.new wr 59 x.cells, by rw [← hnb]; exact S.out.box _⟩ (fun w2 h2 => ?_)
      have S2 := Lib.hid h2.2
      have X2 := Lib.hid h2.1
      have x_0 := h2.1.1 0 _ rfl
      have x_1 := h2.1.1 1 _ rfl
      have x_2 := h2.1.1 2 _ rfl
      have x_3 := h2.1.1 3 _ rfl
      have x_4 := h2.1.1 4 _ rfl
      have x_5 := h2.1.1 5 _ rfl
      have x_6 := h2.1.1 6 _ rfl
      clear h2 c_0 c_1 c_2 c_3 c_4 c_5 c_6 S hnb
      cases hd : x.d with
      | true =>
        have hs1 : m' = dropI m x.r.id := by rw [hsn.out]; unfold stepR2; rw [hd]; rfl
        have HS1 := Lib.hid hs1
        rw [hd] at x_0
        clear hs1 hd
        go_wp2_with fail
        refine (tdrop_any S2.out.t x.r.id hxo.out.2 hml).mono ?_
        rintro e w3 ⟨rfl, h3, hold⟩
        have V3 := Lib.hid (S2.out.rows hold)
        have I3 := Lib.hid S2.out.y
        have A3 := Lib.hid S2.out.a
        have H3 := Lib.hid (show Hold (fun k => k < W1.heap.size) W1 w3 from S2.out.h.trans (hold.less (fun k q => Or.inl q)))
        have X3 := Lib.hid (hold.blk (Or.inr (Or.inr rfl)) X2.out)
        rw [← HS1.out] at h3
        have T3 := Lib.hid h3
        clear h3 hold S2 X2 x_0 x_1 x_2 x_3 x_4 x_5 x_6
        have x_1 := X3.out.1 1 _ rfl
        go_wp2_with fail
        refine (rrdrop_any w3 W1.heap.size u8 m x.r.id A3.out.n V3.out hml H3.out.size).mono ?_
        rintro e w4 ⟨u, rfl, hl⟩
        rw [← HS1.out] at hl
        have X4 := Lib.hid (X3.out.on hl.2.1)
        have S4 := Lib.hid (TM.step T3.out H3.out I3.out HAN.out hl)
        generalize tdropC m x.r.id = ce
        clear hl V3 T3 I3 X3 x_1 A3 H3 HS1 HAN hsn
        have hne : (ce != ce) = false := by simp
        obtain ⟨ad4, cap4, e4⟩ := Row.slice S4.out.l
        obtain ⟨j4, hj4⟩ : ∃ j, m'.length = j := ⟨_, rfl⟩
        have HJ4 := Lib.hid hj4
        rw [hj4] at e4
        subst e4
        have cL := Lib.hid (tlen_any S4.out.t)
        rw [hj4] at cL
        clear hj4
        go_wp2_with fail
        refine cL.out.mono ?_
        rintro e w5 ⟨rfl, rfl⟩
        have y_1 := X4.out.1 1 _ rfl
        clear cL hne
        go_wp2_with fail
        refine (get_any S4.out.t x.r.id hxo.out.2).mono ?_
        rintro e w5 ⟨rfl, hb⟩
        have S5 := Lib.hid (S4.out.grow hb)
        have X5 := Lib.hid (X4.out.on hb)
        clear hb S4 X4 y_1
        obtain ⟨g1, hg1⟩ : ∃ r, (findI m' x.r.id).1 = r := ⟨_, rfl⟩
        obtain ⟨g2, hg2⟩ : ∃ r, (findI m' x.r.id).2 = r := ⟨_, rfl⟩
        have HG1 := Lib.hid hg1
        have HG2 := Lib.hid hg2
        rw [hg1, hg2]
        obtain ⟨nb2, hnb2⟩ : ∃ n, w5.heap.size = n := ⟨_, rfl⟩
        clear hg1 hg2
        go_upto_region 20 with fail
        refine at_code (S := fun w => Blk w nb x.cells ∧ Blk w nb2 g1.cells ∧ ∃ Y5, TM Y5 W1 p w (.slice ad4 j4 cap4) m') ⟨X5.out.on (bel_al (Below.refl _ _) _), by rw [← hnb2]; exact Blk.new w5 _ g1.cells, _, S5.out.on (bel_al (Below.refl _ _) _)⟩ (fun w6 h6 => ?_)
        have X6 := Lib.hid h6.1
        have Z6 := Lib.hid h6.2.1
        obtain ⟨Y5, hS6⟩ := h6.2.2
        have S6 := Lib.hid hS6
        clear h6 hS6 hnb2 S5 X5
        go_wp2_with fail
        go_loopw [15, 81] (fun tv kv wr => ∃ (k : Nat), tv = .bool (fndI (m'.take k) x.r.id) ∧ kv = .int .i64 (k : Nat) ∧ k ≤ j4 ∧ Hid (Blk wr nb x.cells) ∧ Hid (Blk wr nb2 g1.cells) ∧ Hid (TM Y5 W1 p wr (.slice ad4 j4 cap4) m')) (fun _ kv _ => j4 - (intOf kv).toNat)
        case atStart => exact ⟨0, rfl, rfl, Nat.zero_le _, X6, Z6, S6⟩
        case round =>
          obtain ⟨k, rfl, rfl, hk, Xk, Zk, Sk⟩ := hrel
          clear X6 Z6 S6
          by_cases hkj : k < j4
          · have hwk : IntKind.i64.wrap ((k : Int) + 1) = ((k + 1 : Nat) : Int) := by rw [IntKind.wrap_i64]; have := HML'.out; have := HJ4.out; omega
            obtain ⟨z, hz, -, hzm⟩ := drop_at (l := m') (i := k) (by rw [HJ4.out]; exact hkj)
            have HSN := Lib.hid (fndI_snoc m' x.r.id k z hz)
            obtain ⟨g, cap, e1, hc⟩ := rule_at Sk.out.l (by rw [HJ4.out]; omega)
            simp at e1
            obtain ⟨rfl, -, rfl⟩ := e1
            obtain ⟨c_0, c_1, c_2, c_3, c_4, c_5⟩ := hc k z hz
            have HEQ : Hid (z.id = x.r.id → g1 = z) := Lib.hid (fun e => by rw [← HG1.out]; exact findI_is Sk.out.a.n hzm e)
            obtain ⟨t, ht⟩ : ∃ t, fndI (m'.take k) x.r.id = t := ⟨_, rfl⟩
            rw [ht] at HSN ⊢
            obtain ⟨nb3, hnb3⟩ : ∃ n, wr.heap.size = n := ⟨_, rfl⟩
            clear hc hz hzm ht
            go_upto_region 24 with fail
            refine at_code (S := fun w => Blk w nb x.cells ∧ Blk w nb2 g1.cells ∧ Blk w nb3 z.cells ∧ TM Y5 W1 p w _ m') ⟨Xk.out.on (bel_al (Below.refl _ _) _), Zk.out.on (bel_al (Below.refl _ _) _), by rw [← hnb3]; exact Blk.new wr _ z.cells, Sk.out.on (bel_al (Below.refl _ _) _)⟩ (fun w8 h8 => ?_)
            have X8 := Lib.hid h8.1
            have Z8 := Lib.hid h8.2.1
            have U8 := Lib.hid h8.2.2.1
            have S8 := Lib.hid h8.2.2.2
            clear h8 hnb3 Xk Zk Sk c_0 c_1 c_2 c_3 c_4 c_5
            have y_1 := X8.out.1 1 _ rfl
            obtain ⟨⟨z_0, z_1, z_2, z_3, z_4, z_5⟩, -⟩ := blk_ru U8.out
            cases t with
            | true =>
              have HN1 : Hid (fndI (m'.take (k + 1)) x.r.id = true) := Lib.hid (by rw [HSN.out]; rfl)
              clear HEQ HSN
              have X9 := X8
              have Z9 := Z8
              have S9 := S8
              clear X8 Z8 S8
              go_wp2_with fail
              refine ⟨⟨k + 1, by rw [HN1.out], by first | rfl | rw [hwk], by omega, X9, Z9, S9⟩, by simp [intOf] <;> omega⟩
            | false =>
              by_cases hid : z.id = x.r.id
              · have eg := HEQ.out hid
                subst eg
                have HN1 : Hid (fndI (m'.take (k + 1)) x.r.id = true) := Lib.hid (by rw [HSN.out, decide_eq_true hid]; rfl)
                have e1 : (g1.id == x.r.id) = true := by simp [hid]
                obtain ⟨⟨r_0, r_1, r_2, r_3, r_4, r_5⟩, -⟩ := blk_ru Z8.out
                clear HEQ HSN hid
                have X9 := X8
                have Z9 := Z8
                have S9 := S8
                clear X8 Z8 S8
                go_wp2_with fail
                refine ⟨⟨k + 1, by rw [HN1.out], by first | rfl | rw [hwk], by omega, X9, Z9, S9⟩, by simp [intOf] <;> omega⟩
              · have HN1 : Hid (fndI (m'.take (k + 1)) x.r.id = false) := Lib.hid (by rw [HSN.out, decide_eq_false hid]; rfl)
                have e1 : (z.id == x.r.id) = false := by simp [hid]
                clear HEQ HSN hid
                have X9 := X8
                have Z9 := Z8
                have S9 := S8
                clear X8 Z8 S8
                go_wp2_with fail
                refine ⟨⟨k + 1, by rw [HN1.out], by first | rfl | rw [hwk], by omega, X9, Z9, S9⟩, by simp [intOf] <;> omega⟩
          · obtain rfl : k = j4 := by omega
            have et : m'.take k = m' := List.take_of_length_le (by rw [HJ4.out]; exact Nat.le_refl _)
            have ef : fndI m' x.r.id = g2 := by rw [← fndI_find, HG2.out]
            rw [et, ef]
            have e2 : (g2 != g2) = false := by simp
            have S7 : Hid (TM Y5 W1 p wr (.slice ad4 k cap4) (madeL (L.take (i + 1)))) := Lib.hid (by rw [HM'.out]; exact Sk.out)
            clear et ef Sk Xk Zk
            go_wp2_with fail
            refine ⟨?_, ?_⟩
            · exact ⟨i + 1, _, by first | rfl | rw [hw1], by omega, S7⟩
            · simp [intOf] <;> omega
      | false =>
        have hs1 : m' = raddF m x.r := by rw [hsn.out]; unfold stepR2; rw [hd]; rfl
        have HS1 := Lib.hid hs1
        rw [hd] at x_0
        clear hs1 hd
        go_wp2_with fail
        refine (tadd_any S2.out.t x.r hxo.out hml).mono ?_
        rintro e w3 ⟨rfl, h3, hold⟩
        have V3 := Lib.hid (S2.out.rows hold)
        have I3 := Lib.hid S2.out.y
        have A3 := Lib.hid S2.out.a
        have H3 := Lib.hid (show Hold (fun k => k < W1.heap.size) W1 w3 from S2.out.h.trans (hold.less (fun k q => Or.inl q)))
        have X3 := Lib.hid (hold.blk (Or.inr (Or.inr rfl)) X2.out)
        have h3 := h3.add A3.out
        rw [← HS1.out] at h3
        have T3 := Lib.hid h3
        clear h3 hold S2 X2 x_0 x_1 x_2 x_3 x_4 x_5 x_6
        have x_1 := X3.out.1 1 _ rfl
        have x_2 := X3.out.1 2 _ rfl
        have x_3 := X3.out.1 3 _ rfl
        have x_4 := X3.out.1 4 _ rfl
        have x_5 := X3.out.1 5 _ rfl
        have x_6 := X3.out.1 6 _ rfl
        go_wp2_with fail
        refine (rradd_any w3 W1.heap.size u8 m x.r hxo.out.1 V3.out hml H3.out.size).mono ?_
        rintro e w4 ⟨u, rfl, hl⟩
        rw [← HS1.out] at hl
        have X4 := Lib.hid (X3.out.on hl.2.1)
        have S4 := Lib.hid (TM.step T3.out H3.out I3.out HAN.out hl)
        generalize taddC m x.r = ce
        clear hl V3 T3 I3 X3 x_1 x_2 x_3 x_4 x_5 x_6 A3 H3 HS1 HAN hsn
        have hne : (ce != ce) = false := by simp
        obtain ⟨ad4, cap4, e4⟩ := Row.slice S4.out.l
        obtain ⟨j4, hj4⟩ : ∃ j, m'.length = j := ⟨_, rfl⟩
        have HJ4 := Lib.hid hj4
        rw [hj4] at e4
        subst e4
        have cL := Lib.hid (tlen_any S4.out.t)
        rw [hj4] at cL
        clear hj4
        go_wp2_with fail
        refine cL.out.mono ?_
        rintro e w5 ⟨rfl, rfl⟩
        have y_1 := X4.out.1 1 _ rfl
        clear cL hne
        go_wp2_with fail
        refine (get_any S4.out.t x.r.id hxo.out.2).mono ?_
        rintro e w5 ⟨rfl, hb⟩
        have S5 := Lib.hid (S4.out.grow hb)
        have X5 := Lib.hid (X4.out.on hb)
        clear hb S4 X4 y_1
        obtain ⟨g1, hg1⟩ : ∃ r, (findI m' x.r.id).1 = r := ⟨_, rfl⟩
        obtain ⟨g2, hg2⟩ : ∃ r, (findI m' x.r.id).2 = r := ⟨_, rfl⟩
        have HG1 := Lib.hid hg1
        have HG2 := Lib.hid hg2
        rw [hg1, hg2]
        obtain ⟨nb2, hnb2⟩ : ∃ n, w5.heap.size = n := ⟨_, rfl⟩
        clear hg1 hg2
        go_upto_region 20 with fail
        refine at_code (S := fun w => Blk w nb x.cells ∧ Blk w nb2 g1.cells ∧ ∃ Y5, TM Y5 W1 p w (.slice ad4 j4 cap4) m') ⟨X5.out.on (bel_al (Below.refl _ _) _), by rw [← hnb2]; exact Blk.new w5 _ g1.cells, _, S5.out.on (bel_al (Below.refl _ _) _)⟩ (fun w6 h6 => ?_)
        have X6 := Lib.hid h6.1
        have Z6 := Lib.hid h6.2.1
        obtain ⟨Y5, hS6⟩ := h6.2.2
        have S6 := Lib.hid hS6
        clear h6 hS6 hnb2 S5 X5
        go_wp2_with fail
        go_loopw [15, 81] (fun tv kv wr => ∃ (k : Nat), tv = .bool (fndI (m'.take k) x.r.id) ∧ kv = .int .i64 (k : Nat) ∧ k ≤ j4 ∧ Hid (Blk wr nb x.cells) ∧ Hid (Blk wr nb2 g1.cells) ∧ Hid (TM Y5 W1 p wr (.slice ad4 j4 cap4) m')) (fun _ kv _ => j4 - (intOf kv).toNat)
        case atStart => exact ⟨0, rfl, rfl, Nat.zero_le _, X6, Z6, S6⟩
        case round =>
          obtain ⟨k, rfl, rfl, hk, Xk, Zk, Sk⟩ := hrel
          clear X6 Z6 S6
          by_cases hkj : k < j4
          · have hwk : IntKind.i64.wrap ((k : Int) + 1) = ((k + 1 : Nat) : Int) := by rw [IntKind.wrap_i64]; have := HML'.out; have := HJ4.out; omega
            obtain ⟨z, hz, -, hzm⟩ := drop_at (l := m') (i := k) (by rw [HJ4.out]; exact hkj)
            have HSN := Lib.hid (fndI_snoc m' x.r.id k z hz)
            obtain ⟨g, cap, e1, hc⟩ := rule_at Sk.out.l (by rw [HJ4.out]; omega)
            simp at e1
            obtain ⟨rfl, -, rfl⟩ := e1
            obtain ⟨c_0, c_1, c_2, c_3, c_4, c_5⟩ := hc k z hz
            have HEQ : Hid (z.id = x.r.id → g1 = z) := Lib.hid (fun e => by rw [← HG1.out]; exact findI_is Sk.out.a.n hzm e)
            obtain ⟨t, ht⟩ : ∃ t, fndI (m'.take k) x.r.id = t := ⟨_, rfl⟩
            rw [ht] at HSN ⊢
            obtain ⟨nb3, hnb3⟩ : ∃ n, wr.heap.size = n := ⟨_, rfl⟩
            clear hc hz hzm ht
            go_upto_region 24 with fail
            refine at_code (S := fun w => Blk w nb x.cells ∧ Blk w nb2 g1.cells ∧ Blk w nb3 z.cells ∧ TM Y5 W1 p w _ m') ⟨Xk.out.on (bel_al (Below.refl _ _) _), Zk.out.on (bel_al (Below.refl _ _) _), by rw [← hnb3]; exact Blk.new wr _ z.cells, Sk.out.on (bel_al (Below.refl _ _) _)⟩ (fun w8 h8 => ?_)
            have X8 := Lib.hid h8.1
            have Z8 := Lib.hid h8.2.1
            have U8 := Lib.hid h8.2.2.1
            have S8 := Lib.hid h8.2.2.2
            clear h8 hnb3 Xk Zk Sk c_0 c_1 c_2 c_3 c_4 c_5
            have y_1 := X8.out.1 1 _ rfl
            obtain ⟨⟨z_0, z_1, z_2, z_3, z_4, z_5⟩, -⟩ := blk_ru U8.out
            cases t with
            | true =>
              have HN1 : Hid (fndI (m'.take (k + 1)) x.r.id = true) := Lib.hid (by rw [HSN.out]; rfl)
              clear HEQ HSN
              have X9 := X8
              have Z9 := Z8
              have S9 := S8
              clear X8 Z8 S8
              go_wp2_with fail
              refine ⟨⟨k + 1, by rw [HN1.out], by first | rfl | rw [hwk], by omega, X9, Z9, S9⟩, by simp [intOf] <;> omega⟩
            | false =>
              by_cases hid : z.id = x.r.id
              · have eg := HEQ.out hid
                subst eg
                have HN1 : Hid (fndI (m'.take (k + 1)) x.r.id = true) := Lib.hid (by rw [HSN.out, decide_eq_true hid]; rfl)
                have e1 : (g1.id == x.r.id) = true := by simp [hid]
                obtain ⟨⟨r_0, r_1, r_2, r_3, r_4, r_5⟩, -⟩ := blk_ru Z8.out
                clear HEQ HSN hid
                have X9 := X8
                have Z9 := Z8
                have S9 := S8
                clear X8 Z8 S8
                go_wp2_with fail
                refine ⟨⟨k + 1, by rw [HN1.out], by first | rfl | rw [hwk], by omega, X9, Z9, S9⟩, by simp [intOf] <;> omega⟩
              · have HN1 : Hid (fndI (m'.take (k + 1)) x.r.id = false) := Lib.hid (by rw [HSN.out, decide_eq_false hid]; rfl)
                have e1 : (z.id == x.r.id) = false := by simp [hid]
                clear HEQ HSN hid
                have X9 := X8
                have Z9 := Z8
                have S9 := S8
                clear X8 Z8 S8
                go_wp2_with fail
                refine ⟨⟨k + 1, by rw [HN1.out], by first | rfl | rw [hwk], by omega, X9, Z9, S9⟩, by simp [intOf] <;> omega⟩
          · obtain rfl : k = j4 := by omega
            have et : m'.take k = m' := List.take_of_length_le (by rw [HJ4.out]; exact Nat.le_refl _)
            have ef : fndI m' x.r.id = g2 := by rw [← fndI_find, HG2.out]
            rw [et, ef]
            have e2 : (g2 != g2) = false := by simp
            have S7 : Hid (TM Y5 W1 p wr (.slice ad4 k cap4) (madeL (L.take (i + 1)))) := Lib.hid (by rw [HM'.out]; exact Sk.out)
            clear et ef Sk Xk Zk
            go_wp2_with fail
            refine ⟨?_, ?_⟩
            · exact ⟨i + 1, _, by first | rfl | rw [hw1], by omega, S7⟩
            · simp [intOf] <;> omega
    · obtain rfl : i = n := by omega
      have hl1 := hE1.out i
      obtain ⟨M, hM⟩ : ∃ M, madeL (L.take i) = M := ⟨_, rfl⟩
      rw [hM] at S hl1
      have hml : M.length ≤ 100000 := by omega
      have hmm : (meetR M A2 n2).length ≤ 100000 := Nat.le_trans (meetR_len M A2 n2) hml
      clear hM hE1 HN R1 OK HAI hl1
      go_wp2_with fail
      refine (tbest_any S.out.t S.out.a.s A hA hml).mono ?_
      rintro e w4 ⟨rfl, hb⟩
      have S4 := Lib.hid (S.out.on hb)
      clear hb S
      obtain ⟨y, hy⟩ : ∃ y, (headR (meetR M A 32)).1 = y := ⟨_, rfl⟩
      obtain ⟨ok, hok2⟩ : ∃ y, (headR (meetR M A 32)).2 = y := ⟨_, rfl⟩
      have HB1 := Lib.hid (show (bestA M A).1 = y by rw [bestA_head S4.out.r A hA, hy])
      have HB2 := Lib.hid (show (bestA M A).2 = ok by rw [bestA_head S4.out.r A hA, hok2])
      rw [hy, hok2]
      obtain ⟨nb, hnb⟩ : ∃ n, w4.heap.size = n := ⟨_, rfl⟩
      clear hy hok2
      go_upto_region 30 with fail
      refine at_code (S := fun w => TM (fun k => Y k ∨ k = nb) W1 p w u8 M ∧ Blk w nb y.cells) ⟨by rw [← hnb]; exact S4.out.box _, by rw [← hnb]; exact Blk.new w4 _ y.cells⟩ (fun w5 h5 => ?_)
      have S5 := Lib.hid h5.1
      have X5 := Lib.hid h5.2
      clear h5 S4 hnb
      go_wp2_with fail
      refine (rbest_any w5 _ u8 M A hA S5.out.r S5.out.l hml).mono ?_
      rw [HB1.out, HB2.out]
      rintro e w6 ⟨rfl, hb⟩
      have S6 := Lib.hid (S5.out.on hb)
      have X6 := Lib.hid (X5.out.on hb)
      clear hb S5 X5
      obtain ⟨nb2, hnb2⟩ : ∃ n, w6.heap.size = n := ⟨_, rfl⟩
      go_upto_region 31 with fail
      refine at_code (S := fun w => TM (fun k => (Y k ∨ k = nb) ∨ k = nb2) W1 p w u8 M ∧ Blk w nb y.cells ∧ Blk w nb2 y.cells) ⟨by rw [← hnb2]; exact S6.out.box _, X6.out.on (bel_al (Below.refl _ _) _), by rw [← hnb2]; exact Blk.new w6 _ y.cells⟩ (fun w9 h9 => ?_)
      have S9 := Lib.hid h9.1
      have XR := Lib.hid (X1.out.on S9.out.below)
      have x_0 := XR.out.1 0 _ rfl
      have x_1 := XR.out.1 1 _ rfl
      obtain ⟨⟨y_0, y_1, y_2, y_3, y_4, y_5⟩, -⟩ := blk_ru h9.2.1
      obtain ⟨⟨z_0, z_1, z_2, z_3, z_4, z_5⟩, -⟩ := blk_ru h9.2.2
      clear h9 S6 X6 hnb2
      refine wp_region_noPanic ?_
      refine wp_region_along (S := fun w' => Below w9.heap.size w9 w' ∧ ∀ b o, (w9.cell? ⟨b, o, none⟩).isSome = true → w'.cell? ⟨b, o, none⟩ = w9.cell? ⟨b, o, none⟩) ([(0, false), (1, true), (2, true), (4, true), (3, false), (5, false), (6, true), (7, true), (8, true), (9, true), (10, true), (11, true), (12, true), (13, true), (14, true), (15, true)] ++ ([(16, true), (17, true), (18, true), (19, true), (21, true), (22, true), (20, false), (23, false), (24, false), (25, true), (26, true)])) (by kernel_rfl) (by as_aux_lemma => kernel_rfl) (by kernel_rfl) (by kernel_rfl) (alongPre_append _ _ _ (by as_aux_lemma => kernel_rfl) (by as_aux_lemma => kernel_rfl)) (by as_aux_lemma => kernel_rfl) (fun _ _ _ _ _ h => h) (ckeep (Below.refl _ _).drew) (fun hH => ?_)
      simp only [List.cons_append, List.nil_append, stepsOf, pickOp]
      refine along_bar (fun K hK => ?_)
      go_simp
      refine (tawake_any _).mono ?_
      rintro e w' ⟨rfl, hbx⟩
      try go_wp2_with fail
      refine hK.out _ _ (ckeep (bel_on' hH.1 hbx)) (fun hH' => ?_)
      clear hK K hH
      have hH := hH'
      clear hH'
      clear hbx
      try simp only [Act.put, List.setIfInBounds_toArray, List.set_cons_zero, List.set_cons_succ]
      iterate 3 (first | (refine along_skip (by rfl) ?_; try simp only [Act.put, List.setIfInBounds_toArray, List.set_cons_zero, List.set_cons_succ]) | (refine along_pure ?_ (by rfl) (fun w hSw => ?_) ?_; rotate_left; ((try dsimp only at hSw); go_simp; try with_reducible rfl); try simp only [Act.put, List.setIfInBounds_toArray, List.set_cons_zero, List.set_cons_succ]))
      refine along_bar (fun K hK => ?_)
      go_simp
      refine (rules_any (S9.out.on hH.1).t S9.out.a.s hml).mono ?_
      rintro e w' ⟨v2, rfl, hv, hbx⟩
      try go_wp2_with fail
      refine hK.out _ _ (ckeep (bel_on' hH.1 hbx)) (fun hH' => ?_)
      clear hK K hH
      have hH := hH'
      clear hH'
      have V2 := Lib.hid hv
      clear hv
      clear hbx
      try simp only [Act.put, List.setIfInBounds_toArray, List.set_cons_zero, List.set_cons_succ]
      refine along_bar (fun K hK => ?_)
      go_simp
      refine (rsame_any _ _ _ _ _ M V2.out (S9.out.on hH.1).l hml).mono ?_
      rintro e w' ⟨rfl, hbx⟩
      try go_wp2_with fail
      refine hK.out _ _ (ckeep (bel_on' hH.1 hbx)) (fun hH' => ?_)
      clear hK K hH
      have hH := hH'
      clear hH'
      clear V2
      clear hbx
      try simp only [Act.put, List.setIfInBounds_toArray, List.set_cons_zero, List.set_cons_succ]
      iterate 16 (first | (refine along_skip (by rfl) ?_; try simp only [Act.put, List.setIfInBounds_toArray, List.set_cons_zero, List.set_cons_succ]) | (refine along_pure ?_ (by rfl) (fun w hSw => ?_) ?_; rotate_left; ((try dsimp only at hSw); go_simp; try with_reducible rfl); try simp only [Act.put, List.setIfInBounds_toArray, List.set_cons_zero, List.set_cons_succ]))
      refine along_bar (fun K hK => ?_)
      go_simp
      refine (tmeet_any (S9.out.on hH.1).t S9.out.a.s A2 n2 hA2 hml).mono ?_
      rintro e w' ⟨v7, rfl, hv, hbx⟩
      try go_wp2_with fail
      refine hK.out _ _ (ckeep (bel_on' hH.1 hbx)) (fun hH' => ?_)
      clear hK K hH
      have hH := hH'
      clear hH'
      have V7 := Lib.hid hv
      clear hv
      clear hbx
      try simp only [Act.put, List.setIfInBounds_toArray, List.set_cons_zero, List.set_cons_succ]
      refine along_bar (fun K hK => ?_)
      go_simp
      refine (rrmeet_any _ _ _ M S9.out.r A2 n2 hA2 (S9.out.on hH.1).l hml).mono ?_
      rintro e w' ⟨u9, rfl, hu, hbx⟩
      try go_wp2_with fail
      refine hK.out _ _ (ckeep (bel_on' hH.1 hbx)) (fun hH' => ?_)
      clear hK K hH
      have hH := hH'
      clear hH'
      have V8 := Lib.hid (show Rules w' _ v7 _ from Row.on V7.out hbx)
      have U8 := Lib.hid hu
      clear hu V7
      clear hbx
      try simp only [Act.put, List.setIfInBounds_toArray, List.set_cons_zero, List.set_cons_succ]
      refine along_bar (fun K hK => ?_)
      go_simp
      refine (rsame_any _ _ _ _ _ _ V8.out U8.out hmm).mono ?_
      rintro e w' ⟨rfl, hbx⟩
      try go_wp2_with fail
      refine hK.out _ _ (ckeep (bel_on' hH.1 hbx)) (fun hH' => ?_)
      clear hK K hH
      have hH := hH'
      clear hH'
      clear V8 U8
      clear hbx
      try simp only [Act.put, List.setIfInBounds_toArray, List.set_cons_zero, List.set_cons_succ]
      iterate 2 (first | (refine along_skip (by rfl) ?_; try simp only [Act.put, List.setIfInBounds_toArray, List.set_cons_zero, List.set_cons_succ]) | (refine along_pure ?_ (by rfl) (fun w hSw => ?_) ?_; rotate_left; ((try dsimp only at hSw); go_simp; try with_reducible rfl); try simp only [Act.put, List.setIfInBounds_toArray, List.set_cons_zero, List.set_cons_succ]))
      refine along_end (NoPanic.normal ?_)
      have BF := Lib.hid (bel_on' S9.out.below hH.1)
      clear hH x_0 x_1 y_0 y_1 y_2 y_3 y_4 y_5 z_0 z_1 z_2 z_3 z_4 z_5 XR S9
      go_wp2
      go_ret
      exact ⟨rfl, bel_on' B1.out BF.out⟩
theorem tplays_any (L : List ChR) (la : Option Addr) (lc A A2 : Nat) (n2 : Int) (hA : A < 4294967296) (hA2 : A2 < 4294967296) (W : World) (hr : Rw W la (L.flatMap ChR.cells)) (hok : ∀ x ∈ L, x.Ok) :
    Calls Try.prog 4 #[.slice la L.length lc, .int .u32 (A : Nat), pv (A2 : Nat) n2] W fun e w' => e = .returned (.bool true) ∧ Below W.heap.size W w' := by
  by_cases c : 60 < L.length
  · exact tplays_many L la lc A A2 n2 c W
  · exact tplays_few L la lc A A2 n2 hA hA2 hok (by omega) W hr
end Go.Proofs.Ytgcbngephokegaa
