/- The document's Hidden. (gen/mkt32.py) TableHidden: the walk. (gen/mkt33.py) -/
import Derived.Test.YtgcbngephokegaaT30
import Derived.Test.YtgcbngephokegaaT31
namespace Go.Proofs.Ytgcbngephokegaa
open Go.RowKit Go.Maps Go.MapKept Go.ChangeMaps Go.WideElems Go.Joins
set_option linter.unusedVariables false
set_option linter.unusedSimpArgs false

theorem infoU32h : (Try.prog.info? 23).map (fun i => (i.zero, i.size, i.bytes)) = some (some (.int .u32 0), 1, 4) := by kernel_rfl
def u32h (s : List Nat) : List Value := s.map fun a => .int .u32 (a : Nat)
/-- A row of numbers of the call's own. -/
def NumsH (w : World) (base : Nat) (v : Value) (s : List Nat) : Prop := Row w base 23 1 v s.length (u32h s)
theorem numsh_at {w : World} {base : Nat} {v : Value} {s : List Nat} (h : NumsH w base v s) (hn : 0 < s.length) : ∃ g cap, v = .slice (some ⟨g, 0, none⟩) s.length cap ∧ ∀ k y, s[k]? = some y → w.cell? ⟨g, k, none⟩ = some (.int .u32 (y : Nat)) := by
  obtain ⟨g, cap, e, -, -, h3⟩ := Row.at h hn
  refine ⟨g, cap, e, fun k y hy => h3 k _ ?_⟩
  unfold u32h; rw [List.getElem?_map, hy]; rfl
theorem numsh_one (w : World) (a : Nat) : NumsH (w.alloc (.cells #[.int .u32 (a : Nat)] 23)) w.heap.size (.slice (some ⟨w.heap.size, 0, none⟩) 1 1) [a] :=
  ⟨World.ownsRow_lit w #[.int .u32 (a : Nat)] 1 (Nat.le_refl _) (by unfold maxLen; omega) rfl, ⟨fun e => (by cases e), fun e => (by cases e)⟩⟩
theorem hidq_iff {m : List Ru} (hn : (m.map Ru.id).Nodup) {x : Ru} (hx : x ∈ m) : HidQ m x.id ↔ HidP m x := by
  constructor
  · rintro ⟨s, hs, e, q⟩
    rw [← id_inj hn hs hx e]; exact q
  · exact fun q => ⟨x, hx, rfl, q⟩
set_option maxRecDepth 100000 in
set_option maxHeartbeats 8000000 in
theorem rhidden_any (W : World) (b0 : Nat) (l : Value) (m : List Ru) (id : Int) (hA : Asked m) (hR : MRight m) (hl : Rules W b0 l m) (hlen : m.length ≤ 10000) :
    Calls Try.prog 38 #[l, .int .i64 id] W fun e w' => ∃ b, e = .returned (.bool b) ∧ (b = true ↔ HidQ m id) ∧ Below W.heap.size W w' := by
  have HR := Lib.hid hR
  have HL := Lib.hid hl
  have HAS := Lib.hid hA
  obtain ⟨ad0, cap0, el⟩ := Row.slice hl
  obtain ⟨n, hN⟩ : ∃ n, m.length = n := ⟨_, rfl⟩
  rw [hN] at el hlen
  have HN := Lib.hid hN
  subst el
  clear hl hR hA hN
  go_enter Try.func38, Try.ntmps38
  go_wp2_with fail
  go_loopw [5] (fun iv wr => ∃ (i : Nat), iv = .int .i64 (i : Nat) ∧ i ≤ n ∧ Hid (∀ j y, j < i → m[j]? = some y → y.id ≠ id) ∧ W = wr) (fun iv _ => n - (intOf iv).toNat)
  case atStart => exact ⟨0, rfl, Nat.zero_le _, Lib.hid (fun j y h => by omega), rfl⟩
  case round =>
    obtain ⟨i, rfl, hi, HJ, rfl⟩ := hrel
    by_cases hil : i < n
    · have hw1 : IntKind.i64.wrap ((i : Int) + 1) = ((i + 1 : Nat) : Int) := by rw [IntKind.wrap_i64]; omega
      obtain ⟨x, hx⟩ : ∃ x, m[i]? = some x := ⟨_, List.getElem?_eq_getElem (by rw [HN.out]; exact hil)⟩
      have HX := Lib.hid hx
      obtain ⟨g, cap, e1, hc⟩ := rule_at HL.out (by rw [HN.out]; omega)
      simp at e1
      obtain ⟨rfl, -, rfl⟩ := e1
      obtain ⟨c_0, c_1, c_2, c_3, c_4, c_5⟩ := hc i x hx
      have hxm := List.mem_of_getElem? hx
      obtain ⟨hxr, hxo⟩ := HR.out x hxm
      clear hc hx
      by_cases hid : x.id = id
      · subst hid
        have HXM := Lib.hid hxm
        have HXR := Lib.hid hxr
        have HXO := Lib.hid hxo
        have hne : (x.id != x.id) = false := by simp
        obtain ⟨k0, k1, -⟩ := of_decide_eq_true hxr
        obtain ⟨kx, hkx⟩ := Int.eq_ofNat_of_zero_le k0
        have hkl : kx ≤ 32 := by omega
        have HH : Hid (∀ A, A < 4294967296 → ∀ w, Calls Try.prog 48 #[pv (x.a : Nat) (kx : Nat), .int .u32 (A : Nat)] w fun e w' => e = .returned (.bool (hasQ A x)) ∧ Below w.heap.size w w') := Lib.hid (fun A hA w => by
          have := rhas_any x.a kx A hkl hxo.1 hA w
          have e : hasQ A x = decide (A / sz kx = x.a / sz kx) := by unfold hasQ; rw [hkx]; rfl
          rw [e]; exact this)
        have hxa := hxo.1
        rw [hkx] at c_3
        obtain ⟨nb, hnb⟩ : ∃ n, W.heap.size = n := ⟨_, rfl⟩
        clear hxm hxr hxo k0 k1 hkx hkl
        go_upto_region 6 with fail
        refine at_code (S := fun w => Blk w nb [.int .u32 (x.a : Nat), .int .i64 (kx : Nat)] ∧ Below W.heap.size W w) ⟨by rw [← hnb]; exact Blk.new W 25 [.int .u32 (x.a : Nat), .int .i64 (kx : Nat)], bel_al (Below.refl _ _) _⟩ (fun w2 h2 => ?_)
        have X2 := Lib.hid h2.1
        have B2 := Lib.hid h2.2
        have p_0 := h2.1.1 0 _ rfl
        clear h2 hnb c_0 c_1 c_2 c_3 c_4 c_5
        go_upto_region 7 with fail
        refine at_code (S := fun w => NumsH w w2.heap.size (.slice (some ⟨w2.heap.size, 0, none⟩) 1 1) (ptsN m x 0) ∧ Below w2.heap.size w2 w) ⟨numsh_one w2 x.a, bel_al (Below.refl _ _) _⟩ (fun w3 h3 => ?_)
        have P3 := Lib.hid h3.1
        have B3 := Lib.hid h3.2
        clear h3 p_0
        obtain ⟨bs, hbs⟩ : ∃ n, w2.heap.size = n := ⟨_, rfl⟩
        rw [hbs] at P3 B3 ⊢
        have HBS := Lib.hid hbs
        clear hbs
        go_wp2_with fail
        go_loopw [7, 8] (fun av kv wr => ∃ (k : Nat), kv = .int .i64 (k : Nat) ∧ k ≤ i ∧ Hid (NumsH wr bs av (ptsN m x k)) ∧ Hid (Below bs w2 wr)) (fun _ kv _ => i - (intOf kv).toNat)
        case atStart => exact ⟨0, rfl, Nat.zero_le _, P3, B3⟩
        case round =>
          obtain ⟨k, rfl, hk, P, B⟩ := hrel
          clear P3 B3
          by_cases hki : k < i
          · have hwk : IntKind.i64.wrap ((k : Int) + 1) = ((k + 1 : Nat) : Int) := by rw [IntKind.wrap_i64]; omega
            have hkn : k < n := by omega
            obtain ⟨y, hy⟩ : ∃ y, m[k]? = some y := ⟨_, List.getElem?_eq_getElem (by rw [HN.out]; exact hkn)⟩
            have hsn := pts_succ (r := x) hy
            have BW := bel_on' B2.out (show Below w2.heap.size w2 wr by rw [HBS.out]; exact B.out)
            obtain ⟨g', cap', e1, hc⟩ := rule_at (show Rules wr b0 _ m from Row.on HL.out BW) (by rw [HN.out]; omega)
            simp at e1
            obtain ⟨rfl, -, rfl⟩ := e1
            obtain ⟨d_0, d_1, d_2, d_3, d_4, d_5⟩ := hc k y hy
            obtain ⟨hyr, hyo⟩ := HR.out y (List.mem_of_getElem? hy)
            have XB := X2.out.on (show Below w2.heap.size w2 wr by rw [HBS.out]; exact B.out)
            have HLast := Lib.hid (fun w => hrlast_any y hyr hyo.1 w)
            have hll := lastR_lt hyr hyo.1
            have hya := hyo.1
            obtain ⟨la, hla⟩ : ∃ la, lastR y = la := ⟨_, rfl⟩
            obtain ⟨q1, hq1⟩ : ∃ b, hasQ y.a x = b := ⟨_, rfl⟩
            obtain ⟨q2, hq2⟩ : ∃ b, hasQ (la + 1) x = b := ⟨_, rfl⟩
            have H1 := Lib.hid (HH.out y.a hya)
            rw [hq1] at H1
            have HSN : Hid (ptsN m x (k + 1) = ptsN m x k ++ ((if q1 = true then [y.a] else []) ++ (if la < 4294967295 ∧ q2 = true then [la + 1] else []))) := Lib.hid (by rw [hsn, ← hq1, ← hq2, ← hla]; rfl)
            have HQ2 : Hid (la < 4294967295 → ∀ w, Calls Try.prog 48 #[pv (x.a : Nat) (kx : Nat), .int .u32 (la + 1 : Nat)] w fun e w' => e = .returned (.bool q2) ∧ Below w.heap.size w w') := Lib.hid (fun q w => by rw [← hq2]; exact HH.out (la + 1) (by omega) w)
            rw [hla] at HLast hll
            have hpl : (ptsN m x k).length ≤ 20001 := by have := pts_len m x k; omega
            obtain ⟨S, hS⟩ : ∃ S, ptsN m x k = S := ⟨_, rfl⟩
            rw [hS] at HSN hpl P
            obtain ⟨nb2, hnb2⟩ : ∃ n, wr.heap.size = n := ⟨_, rfl⟩
            have HNE : Hid (u7.ownBlock ≠ some nb2) := Lib.hid (fun e => by have := (World.ownsRow.lt P.out.1 nb2 e).2; omega)
            have HNB : Hid (nb < bs) := Lib.hid (by rw [← HBS.out]; exact X2.out.lt)
            clear hc hy hsn hyr hyo hla hq1 hq2 hS
            go_upto_region 11 with fail
            refine at_code (S := fun w => Blk w nb2 [.int .u32 (y.a : Nat), .int .i64 y.n] ∧ Blk w nb [.int .u32 (x.a : Nat), .int .i64 (kx : Nat)] ∧ NumsH w bs u7 S ∧ Below bs w2 w) ⟨by rw [← hnb2]; exact Blk.new wr 25 [.int .u32 (y.a : Nat), .int .i64 y.n], XB.on (bel_al (Below.refl _ _) _), Row.on P.out (bel_al (Below.refl _ _) _), B.out.trans ((bel_al (Below.refl wr.heap.size wr) _).mono (by have := B.out.size; rw [HBS.out] at this; exact this))⟩ (fun w4 h4 => ?_)
            have Z4 := Lib.hid h4.1
            have X4 := Lib.hid h4.2.1
            have P4 := Lib.hid h4.2.2.1
            have B4 := Lib.hid h4.2.2.2
            have z_0 := h4.1.1 0 _ rfl
            have x_0 := h4.2.1.1 0 _ rfl
            have x_1 := h4.2.1.1 1 _ rfl
            clear h4 BW XB B P d_0 d_1 d_2 d_3 d_4 d_5 hnb2
            go_wp2_with fail
            refine (H1.out _).mono ?_
            rintro e w5 ⟨rfl, hb⟩
            have Z5 := Lib.hid (Z4.out.on hb)
            have X5 := Lib.hid (X4.out.on hb)
            have P5 := Lib.hid (show NumsH w5 bs _ S from Row.on P4.out hb)
            have HSZ : Hid (∀ w, Below bs w2 w → bs ≤ w.heap.size) := Lib.hid (fun w h => by have := h.size; rw [HBS.out] at this; exact this)
            have B5 : Hid (Below bs w2 w5) := Lib.hid (B4.out.trans (hb.mono (HSZ.out _ B4.out)))
            clear hb z_0 x_0 x_1 Z4 X4 P4 B4 H1
            cases q1 with
            | true =>
              have z_0 := Z5.out.1 0 _ rfl
              go_upto_region 12 with fail
              obtain ⟨nY, hnY⟩ : ∃ q, S.length = q := ⟨_, rfl⟩
              obtain ⟨cY, hcY⟩ : ∃ c, u32h S = c := ⟨_, rfl⟩
              have hown := P5.out.1
              rw [hnY, hcY] at hown
              rw [hnY] at hpl
              have HNY := Lib.hid hnY
              have HCY := Lib.hid hcY
              clear hnY hcY
              obtain ⟨i0, hi0, hz0, hz1, hz2⟩ := hinfo_parts infoU32h
              have hsz := HSZ.out _ B5.out
              go_wp2_with (at_builtin; refine wpList_append_own _ rfl _ _ 95 rfl bs 23 i0 (.int .u32 0) 1 4 Try.underlying95 hi0 hz0 hz1 hz2 rfl (by decide) _ _ _ rfl (hown.alloc _) ⟨w5.heap.size, 0, none⟩ 1 1 [.int .u32 (y.a : Nat)] rfl rfl ?c1 ?c2 ?c3 ?c4 ?c5 ?_)
              case c1 => exact fun j u hj => by rw [add_plain, Nat.zero_add]; exact (Blk.new w5 23 [.int .u32 (y.a : Nat)]).1 j u hj
              case c2 => intro u hu; simp at hu; rcases hu with rfl; rfl
              case c3 => unfold maxLen; omega
              case c4 => omega
              case c5 => simp; omega
              · intro v' w6 hown' hgrow hnl
                have P6 : Hid (NumsH w6 bs v' (S ++ [y.a])) := Lib.hid (by
                  have e1 : u32h (S ++ [y.a]) = u32h S ++ [.int .u32 (y.a : Nat)] := by simp [u32h]
                  unfold NumsH
                  rw [List.length_append, e1, HNY.out, HCY.out]
                  exact ⟨hown', ⟨fun e => absurd e hnl, fun e => (by simp at e)⟩⟩)
                have GW : Hid (Below bs w2 w6) := Lib.hid ((B5.out.alloc hsz _).grown hgrow (by simp; omega) (fun g e => (World.ownsRow.lt hown g e).1))
                have B6 := GW
                have hk5 : Below w5.heap.size w5 w6 ∨ True := Or.inr trivial
                have HK5 : Hid (∀ b c cs, b < bs ∨ (w5.heap.size ≤ b ∧ False) ∨ b = nb2 → Blk w5 b (c :: cs) → Blk w6 b (c :: cs)) := Lib.hid (fun b c cs hb hB => by
                  have hlt := hB.lt
                  have K := ((Keep.refl (fun i => u7.ownBlock = some i) w5).al (.cells #[.int .u32 (y.a : Nat)] 23)).grown hgrow (fun j e _ => e)
                  refine Keep.blk K hB (fun e => ?_)
                  have h1 := World.ownsRow.lt hown b e
                  rcases hb with q | q | q
                  · omega
                  · exact q.2
                  · subst q
                    exact absurd e HNE.out)
                have Z6 : Hid (Blk w6 nb2 [.int .u32 (y.a : Nat), .int .i64 y.n]) := Lib.hid (HK5.out _ _ _ (Or.inr (Or.inr rfl)) Z5.out)
                have X6 : Hid (Blk w6 nb [.int .u32 (x.a : Nat), .int .i64 (kx : Nat)]) := Lib.hid (HK5.out _ _ _ (Or.inl HNB.out) X5.out)
                have hpl6 : (S ++ [y.a]).length ≤ 20002 := by rw [List.length_append]; have := HNY.out; simp; omega
                have HSN6 : Hid (ptsN m x (k + 1) = (S ++ [y.a]) ++ (if la < 4294967295 ∧ q2 = true then [la + 1] else [])) := Lib.hid (by rw [HSN.out, ← List.append_assoc]; rfl)
                obtain ⟨T, hT⟩ : ∃ T, S ++ [y.a] = T := ⟨_, rfl⟩
                rw [hT] at P6 hpl6 HSN6
                clear hown' hgrow hnl hown Z5 X5 P5 B5 hi0 hz0 hz1 hz2 hsz HK5 hk5 GW HSN hT HNY HCY z_0 hpl
                have z_0 := Z6.out.1 0 _ rfl
                have z_1 := Z6.out.1 1 _ rfl
                go_wp2_with fail
                refine (HLast.out _).mono ?_
                rintro e w7 ⟨rfl, hb⟩
                have X7 := Lib.hid (X6.out.on hb)
                have P7 := Lib.hid (show NumsH w7 bs _ T from Row.on P6.out hb)
                have B7 : Hid (Below bs w2 w7) := Lib.hid (B6.out.trans (hb.mono (HSZ.out _ B6.out)))
                clear hb z_0 z_1 Z6 X6 P6 B6 HLast
                have x_0 := X7.out.1 0 _ rfl
                have x_1 := X7.out.1 1 _ rfl
                by_cases hlt : la < 4294967295
                · have d1 : decide ((la : Int) < 4294967295) = true := decide_eq_true (by omega)
                  have d1' : (la : Int) < 4294967295 := by omega
                  have hwa : IntKind.u32.wrap ((la : Int) + 1) = ((la + 1 : Nat) : Int) := by rw [IntKind.wrap_u32]; omega
                  have H2 := Lib.hid (HQ2.out hlt)
                  go_wp2_with fail
                  refine (H2.out _).mono ?_
                  rintro e w8 ⟨rfl, hb⟩
                  have P8 := Lib.hid (show NumsH w8 bs _ T from Row.on P7.out hb)
                  have B8 : Hid (Below bs w2 w8) := Lib.hid (B7.out.trans (hb.mono (HSZ.out _ B7.out)))
                  clear hb x_0 x_1 X7 P7 B7 H2
                  cases q2 with
                  | true =>
                    have HSN9 : Hid (ptsN m x (k + 1) = T ++ [la + 1]) := Lib.hid (by rw [HSN6.out, if_pos ⟨hlt, rfl⟩])
                    skip
                    go_upto_region 15 with fail
                    obtain ⟨nY, hnY⟩ : ∃ q, T.length = q := ⟨_, rfl⟩
                    obtain ⟨cY, hcY⟩ : ∃ c, u32h T = c := ⟨_, rfl⟩
                    have hown := P8.out.1
                    rw [hnY, hcY] at hown
                    rw [hnY] at hpl6
                    have HNY := Lib.hid hnY
                    have HCY := Lib.hid hcY
                    clear hnY hcY
                    obtain ⟨i0, hi0, hz0, hz1, hz2⟩ := hinfo_parts infoU32h
                    have hsz := HSZ.out _ B8.out
                    go_wp2_with (at_builtin; refine wpList_append_own _ rfl _ _ 95 rfl bs 23 i0 (.int .u32 0) 1 4 Try.underlying95 hi0 hz0 hz1 hz2 rfl (by decide) _ _ _ rfl (hown.alloc _) ⟨w8.heap.size, 0, none⟩ 1 1 [.int .u32 (la + 1 : Nat)] rfl rfl ?c1 ?c2 ?c3 ?c4 ?c5 ?_)
                    case c1 => exact fun j u hj => by rw [add_plain, Nat.zero_add]; exact (Blk.new w8 23 [.int .u32 (la + 1 : Nat)]).1 j u hj
                    case c2 => intro u hu; simp at hu; rcases hu with rfl; rfl
                    case c3 => unfold maxLen; omega
                    case c4 => omega
                    case c5 => simp; omega
                    · intro v' w9 hown' hgrow hnl
                      have P9 : Hid (NumsH w9 bs v' (T ++ [la + 1])) := Lib.hid (by
                        have e1 : u32h (T ++ [la + 1]) = u32h T ++ [.int .u32 (la + 1 : Nat)] := by simp [u32h]
                        unfold NumsH
                        rw [List.length_append, e1, HNY.out, HCY.out]
                        exact ⟨hown', ⟨fun e => absurd e hnl, fun e => (by simp at e)⟩⟩)
                      have GW : Hid (Below bs w2 w9) := Lib.hid ((B8.out.alloc hsz _).grown hgrow (by simp; omega) (fun g e => (World.ownsRow.lt hown g e).1))
                      rw [← HSN9.out] at P9
                      clear hown' hgrow hnl hown P8 B8 hi0 hz0 hz1 hz2 hsz
                      go_wp2_with fail
                      refine ⟨⟨k + 1, by first | rfl | rw [hwk], by omega, P9, GW⟩, by simp [intOf] <;> omega⟩
                  | false =>
                    have P9 : Hid (NumsH w8 bs _ (ptsN m x (k + 1))) := Lib.hid (by
                      rw [HSN6.out, if_neg (fun q => by cases q.2), List.append_nil]; exact P8.out)
                    clear P8
                    go_wp2_with fail
                    refine ⟨⟨k + 1, by first | rfl | rw [hwk], by omega, P9, B8⟩, by simp [intOf] <;> omega⟩
                · have d1 : decide ((la : Int) < 4294967295) = false := decide_eq_false (by omega)
                  have d1' : ¬ (la : Int) < 4294967295 := by omega
                  have P9 : Hid (NumsH w7 bs _ (ptsN m x (k + 1))) := Lib.hid (by
                    rw [HSN6.out, if_neg (fun q => hlt q.1), List.append_nil]; exact P7.out)
                  clear P7
                  go_wp2_with fail
                  refine ⟨⟨k + 1, by first | rfl | rw [hwk], by omega, P9, B7⟩, by simp [intOf] <;> omega⟩
            | false =>
              have Z6 := Z5
              have X6 := X5
              have P6 := P5
              have B6 := B5
              have hpl6 : S.length ≤ 20002 := by omega
              have HSN6 : Hid (ptsN m x (k + 1) = S ++ (if la < 4294967295 ∧ q2 = true then [la + 1] else [])) := Lib.hid (by rw [HSN.out]; rfl)
              obtain ⟨T, hT⟩ : ∃ T, S = T := ⟨_, rfl⟩
              rw [hT] at P6 hpl6 HSN6
              clear Z5 X5 P5 B5 HSN hT
              have z_0 := Z6.out.1 0 _ rfl
              have z_1 := Z6.out.1 1 _ rfl
              go_wp2_with fail
              refine (HLast.out _).mono ?_
              rintro e w7 ⟨rfl, hb⟩
              have X7 := Lib.hid (X6.out.on hb)
              have P7 := Lib.hid (show NumsH w7 bs _ T from Row.on P6.out hb)
              have B7 : Hid (Below bs w2 w7) := Lib.hid (B6.out.trans (hb.mono (HSZ.out _ B6.out)))
              clear hb z_0 z_1 Z6 X6 P6 B6 HLast
              have x_0 := X7.out.1 0 _ rfl
              have x_1 := X7.out.1 1 _ rfl
              by_cases hlt : la < 4294967295
              · have d1 : decide ((la : Int) < 4294967295) = true := decide_eq_true (by omega)
                have d1' : (la : Int) < 4294967295 := by omega
                have hwa : IntKind.u32.wrap ((la : Int) + 1) = ((la + 1 : Nat) : Int) := by rw [IntKind.wrap_u32]; omega
                have H2 := Lib.hid (HQ2.out hlt)
                go_wp2_with fail
                refine (H2.out _).mono ?_
                rintro e w8 ⟨rfl, hb⟩
                have P8 := Lib.hid (show NumsH w8 bs _ T from Row.on P7.out hb)
                have B8 : Hid (Below bs w2 w8) := Lib.hid (B7.out.trans (hb.mono (HSZ.out _ B7.out)))
                clear hb x_0 x_1 X7 P7 B7 H2
                cases q2 with
                | true =>
                  have HSN9 : Hid (ptsN m x (k + 1) = T ++ [la + 1]) := Lib.hid (by rw [HSN6.out, if_pos ⟨hlt, rfl⟩])
                  skip
                  go_upto_region 15 with fail
                  obtain ⟨nY, hnY⟩ : ∃ q, T.length = q := ⟨_, rfl⟩
                  obtain ⟨cY, hcY⟩ : ∃ c, u32h T = c := ⟨_, rfl⟩
                  have hown := P8.out.1
                  rw [hnY, hcY] at hown
                  rw [hnY] at hpl6
                  have HNY := Lib.hid hnY
                  have HCY := Lib.hid hcY
                  clear hnY hcY
                  obtain ⟨i0, hi0, hz0, hz1, hz2⟩ := hinfo_parts infoU32h
                  have hsz := HSZ.out _ B8.out
                  go_wp2_with (at_builtin; refine wpList_append_own _ rfl _ _ 95 rfl bs 23 i0 (.int .u32 0) 1 4 Try.underlying95 hi0 hz0 hz1 hz2 rfl (by decide) _ _ _ rfl (hown.alloc _) ⟨w8.heap.size, 0, none⟩ 1 1 [.int .u32 (la + 1 : Nat)] rfl rfl ?c1 ?c2 ?c3 ?c4 ?c5 ?_)
                  case c1 => exact fun j u hj => by rw [add_plain, Nat.zero_add]; exact (Blk.new w8 23 [.int .u32 (la + 1 : Nat)]).1 j u hj
                  case c2 => intro u hu; simp at hu; rcases hu with rfl; rfl
                  case c3 => unfold maxLen; omega
                  case c4 => omega
                  case c5 => simp; omega
                  · intro v' w9 hown' hgrow hnl
                    have P9 : Hid (NumsH w9 bs v' (T ++ [la + 1])) := Lib.hid (by
                      have e1 : u32h (T ++ [la + 1]) = u32h T ++ [.int .u32 (la + 1 : Nat)] := by simp [u32h]
                      unfold NumsH
                      rw [List.length_append, e1, HNY.out, HCY.out]
                      exact ⟨hown', ⟨fun e => absurd e hnl, fun e => (by simp at e)⟩⟩)
                    have GW : Hid (Below bs w2 w9) := Lib.hid ((B8.out.alloc hsz _).grown hgrow (by simp; omega) (fun g e => (World.ownsRow.lt hown g e).1))
                    rw [← HSN9.out] at P9
                    clear hown' hgrow hnl hown P8 B8 hi0 hz0 hz1 hz2 hsz
                    go_wp2_with fail
                    refine ⟨⟨k + 1, by first | rfl | rw [hwk], by omega, P9, GW⟩, by simp [intOf] <;> omega⟩
                | false =>
                  have P9 : Hid (NumsH w8 bs _ (ptsN m x (k + 1))) := Lib.hid (by
                    rw [HSN6.out, if_neg (fun q => by cases q.2), List.append_nil]; exact P8.out)
                  clear P8
                  go_wp2_with fail
                  refine ⟨⟨k + 1, by first | rfl | rw [hwk], by omega, P9, B8⟩, by simp [intOf] <;> omega⟩
              · have d1 : decide ((la : Int) < 4294967295) = false := decide_eq_false (by omega)
                have d1' : ¬ (la : Int) < 4294967295 := by omega
                have P9 : Hid (NumsH w7 bs _ (ptsN m x (k + 1))) := Lib.hid (by
                  rw [HSN6.out, if_neg (fun q => hlt q.1), List.append_nil]; exact P7.out)
                clear P7
                go_wp2_with fail
                refine ⟨⟨k + 1, by first | rfl | rw [hwk], by omega, P9, B7⟩, by simp [intOf] <;> omega⟩
          · obtain rfl : k = i := by omega
            have HPT := Lib.hid (pts_all HAS.out HR.out HX.out)
            have HPI := Lib.hid (fun a (ha : a ∈ ptsN m x k) => (has_iff HXR.out a).1 (pts_in m x HXR.out k a ha))
            have hxl := lastR_lt HXR.out HXO.out.1
            have hpl := pts_len m x k
            have HIQ := Lib.hid (hidq_iff HAS.out.n HXM.out)
            obtain ⟨pa, pc, es⟩ := Row.slice P.out
            subst es
            obtain ⟨S, hS⟩ : ∃ S, ptsN m x k = S := ⟨_, rfl⟩
            rw [hS] at P HPT HPI hpl
            obtain ⟨nS, hnS⟩ : ∃ n, S.length = n := ⟨_, rfl⟩
            rw [hS, hnS]
            rw [hnS] at hpl
            have HNS := Lib.hid hnS
            have P6 : Hid (NumsH wr bs (.slice pa nS pc) S) := Lib.hid (by have := P.out; rw [hnS] at this; exact this)
            have HSZ : Hid (∀ w, Below bs w2 w → bs ≤ w.heap.size) := Lib.hid (fun w h => by have := h.size; rw [HBS.out] at this; exact this)
            clear hS hnS P
            go_wp2_with fail
            go_loopw [11] (fun jv wr => ∃ (j : Nat), jv = .int .i64 (j : Nat) ∧ j ≤ nS ∧ Hid (∀ t a, t < j → S[t]? = some a → (bestA m a).1.id ≠ x.id) ∧ Hid (NumsH wr bs (.slice pa nS pc) S) ∧ Hid (Below bs w2 wr)) (fun jv _ => nS - (intOf jv).toNat)
            case atStart => exact ⟨0, rfl, Nat.zero_le _, Lib.hid (fun t a h => by omega), P6, B⟩
            case round =>
              obtain ⟨j, rfl, hj, HT, P, B'⟩ := hrel
              clear P6 B
              have BW := Lib.hid (bel_on' B2.out (show Below w2.heap.size w2 wr by rw [HBS.out]; exact B'.out))
              by_cases hjs : j < nS
              · have hwj : IntKind.i64.wrap ((j : Int) + 1) = ((j + 1 : Nat) : Int) := by rw [IntKind.wrap_i64]; omega
                obtain ⟨a, ha⟩ : ∃ a, S[j]? = some a := ⟨_, List.getElem?_eq_getElem (by rw [HNS.out]; exact hjs)⟩
                obtain ⟨gs, caps, es, hcs⟩ := numsh_at P.out (by rw [HNS.out]; omega)
                simp at es
                obtain ⟨rfl, -, rfl⟩ := es
                have cy := hcs j a ha
                have haS := List.mem_of_getElem? ha
                have hal := HPI.out a haS
                have CB := Lib.hid (rbest_any wr b0 _ m a (by omega) HR.out (Row.on HL.out BW.out) (by rw [HN.out]; omega))
                obtain ⟨bx, hbx⟩ : ∃ r, (bestA m a).1 = r := ⟨_, rfl⟩
                obtain ⟨by_, hby⟩ : ∃ r, (bestA m a).2 = r := ⟨_, rfl⟩
                rw [hbx, hby] at CB
                have HBX := Lib.hid hbx
                have HAJ := Lib.hid ha
                clear hcs ha hal hbx hby
                go_wp2_with fail
                refine CB.out.mono ?_
                rintro e w5 ⟨rfl, hb⟩
                have P5 := Lib.hid (show NumsH w5 bs _ S from Row.on P.out hb)
                have B5 : Hid (Below bs w2 w5) := Lib.hid (B'.out.trans (hb.mono (HSZ.out _ B'.out)))
                obtain ⟨nb3, hnb3⟩ : ∃ n, w5.heap.size = n := ⟨_, rfl⟩
                clear hb cy P B' BW CB
                go_upto_region 20 with fail
                refine at_code (S := fun w => Blk w nb3 bx.cells ∧ NumsH w bs (.slice (some ⟨gs, 0, none⟩) nS pc) S ∧ Below bs w2 w) ⟨by rw [← hnb3]; exact Blk.new w5 57 bx.cells, Row.on P5.out (bel_al (Below.refl _ _) _), B5.out.trans ((bel_al (Below.refl w5.heap.size w5) _).mono (HSZ.out _ B5.out))⟩ (fun w6 h6 => ?_)
                have P6 := Lib.hid h6.2.1
                have B6 := Lib.hid h6.2.2
                have b_0 := h6.1.1 0 _ rfl
                clear h6 hnb3 P5 B5
                by_cases hbi : bx.id = x.id
                · have hbq : (bx.id == x.id) = true := by simp [hbi]
                  have BE : Hid (Below W.heap.size W w6) := Lib.hid (bel_on' B2.out (show Below w2.heap.size w2 w6 by rw [HBS.out]; exact B6.out))
                  have HF : Hid (false = true ↔ HidQ m x.id) := Lib.hid (by
                    rw [HIQ.out, ← HPT.out]
                    refine ⟨fun q => (by cases q), fun q => absurd ?_ (q a haS)⟩
                    rw [HBX.out]; exact hbi)
                  clear hbi
                  go_wp2
                  go_ret
                  exact ⟨_, rfl, HF.out, BE.out⟩
                · have hbq : (bx.id == x.id) = false := by simp [hbi]
                  have HT2 : Hid (∀ t a, t < j + 1 → S[t]? = some a → (bestA m a).1.id ≠ x.id) := Lib.hid (fun t a' ht ha' => by
                    by_cases c : t = j
                    · subst c
                      rw [HAJ.out] at ha'; cases ha'
                      rw [HBX.out]; exact hbi
                    · exact HT.out t a' (by omega) ha')
                  clear hbi HT
                  go_wp2_with fail
                  refine ⟨⟨j + 1, by first | rfl | rw [hwj], by omega, HT2, P6, B6⟩, by simp [intOf] <;> omega⟩
              · obtain rfl : j = nS := by omega
                have HF : Hid (true = true ↔ HidQ m x.id) := Lib.hid (by
                  rw [HIQ.out, ← HPT.out]
                  refine ⟨fun _ a ha => ?_, fun _ => rfl⟩
                  obtain ⟨t, ht, e⟩ := List.mem_iff_getElem.1 ha
                  exact HT.out t a (by rw [← HNS.out]; exact ht) (by rw [List.getElem?_eq_getElem ht, e]))
                clear HT P B'
                go_wp2
                go_ret
                first | exact ⟨_, rfl, HF.out, BW.out⟩ | exact Or.inr ⟨rfl, HF.out.1 (by first | rfl | trivial), BW.out⟩
      · have hne : (x.id != id) = true := by simp [hid]
        have hne2 : (x.id == id) = false := by simp [hid]
        have HJ2 : Hid (∀ j z, j < i + 1 → m[j]? = some z → z.id ≠ id) := Lib.hid (fun j z hj hz => by
          rcases Nat.lt_or_ge j i with q | q
          · exact HJ.out j z q hz
          · obtain rfl : j = i := by omega
            rw [HX.out] at hz; cases hz; exact hid)
        clear hid HJ hxm hxr hxo
        go_wp2_with fail
        refine ⟨⟨i + 1, by first | rfl | rw [hw1], by omega, HJ2, by first | rfl | trivial⟩, by simp [intOf] <;> omega⟩
    · obtain rfl : i = n := by omega
      have HF : Hid (false = true ↔ HidQ m id) := Lib.hid (by
        refine ⟨fun q => (by cases q), fun q => ?_⟩
        obtain ⟨s, hs, e, -⟩ := q
        obtain ⟨t, ht, e2⟩ := List.mem_iff_getElem.1 hs
        exact absurd e (HJ.out t s (by rw [← HN.out]; exact ht) (by rw [List.getElem?_eq_getElem ht, e2])))
      clear HJ
      go_wp2
      go_ret
      exact ⟨_, rfl, HF.out, Below.refl _ _⟩
end Go.Proofs.Ytgcbngephokegaa
namespace Go.Proofs.Ytgcbngephokegaa
open Go.RowKit Go.Maps Go.MapKept Go.ChangeMaps Go.WideElems Go.Joins
set_option linter.unusedVariables false
set_option linter.unusedSimpArgs false

theorem best_open {m : List Ru} (hm : Asked m) (hr : MRight m) {A : Nat} (hA : A < 4294967296) {y : Ru} {ys : List Ru} (h : meetR m A 32 = y :: ys) : ¬ HidQ m y.id := fun q => by
  have hy := meet_mem h
  have hb := bestA_head hr A hA
  rw [h] at hb
  have hq : hasQ A y = true := by
    unfold bestA at hb
    cases hf : m.find? (hasQ A) with
    | none => rw [hf] at hb; exact absurd (congrArg Prod.snd hb) (by simp [headR])
    | some z =>
      rw [hf] at hb
      have e : z = y := congrArg Prod.fst hb
      rw [← e]; exact List.find?_some hf
  exact (best_not hm hy hq).2 ((hidq_iff hm.n hy).1 q A hq) (by rw [hb]; rfl)
set_option maxRecDepth 100000 in
theorem hidden_many (L : List ChR) (la : Option Addr) (lc : Nat) (id : Int) (A : Nat) (hn : 40 < L.length) (W : World) : Calls Try.prog 5 #[.slice la L.length lc, .int .i64 id, .int .u32 (A : Nat)] W fun e w' => e = .returned (.bool true) ∧ Below W.heap.size W w' := by
  have h := Lib.hid (tawake_any W)
  go_enter Try.func5, Try.ntmps5
  go_wp2_with fail
  refine h.out.mono ?_
  rintro e w' ⟨rfl, hb⟩
  have B := Lib.hid hb
  clear hb h
  go_wp2
  go_ret
  exact ⟨rfl, B.out⟩
set_option maxRecDepth 100000 in
set_option maxHeartbeats 8000000 in
theorem hidden_few (L : List ChR) (la : Option Addr) (lc : Nat) (id : Int) (A : Nat) (hA : A < 4294967296) (hv : I64 id) (hok : ∀ x ∈ L, x.Ok) (hn : L.length ≤ 40) (W : World) (hr : Rw W la (L.flatMap ChR.cells)) :
    Calls Try.prog 5 #[.slice la L.length lc, .int .i64 id, .int .u32 (A : Nat)] W fun e w' => e = .returned (.bool true) ∧ Below W.heap.size W w' := by
  have CM := Lib.hid (made_any L la lc hok (by omega) W hr)
  have hml := madeL_len L L.length
  rw [List.take_of_length_le (Nat.le_refl _)] at hml
  obtain ⟨M, hM⟩ : ∃ M, madeL L = M := ⟨_, rfl⟩
  rw [hM] at CM hml
  have hml2 : M.length ≤ 10000 := by omega
  have hml : M.length ≤ 100000 := by omega
  obtain ⟨n, hN⟩ : ∃ n, L.length = n := ⟨_, rfl⟩
  rw [hN] at CM hn ⊢
  have HV := Lib.hid hv
  clear hM hr hok hN hv
  go_enter Try.func5, Try.ntmps5
  go_wp2_with fail
  refine CM.out.mono ?_
  rintro e w1 ⟨p, lv, Y, rfl, h1⟩
  have S1 := Lib.hid h1
  clear h1 CM
  go_wp2_with fail
  refine (thidden_any S1.out.t id HV.out hml).mono ?_
  rintro e w2 ⟨b1, rfl, hb1, hb⟩
  have S2 := Lib.hid (S1.out.on hb)
  have HB1 := Lib.hid hb1
  clear hb1 hb S1
  go_wp2_with fail
  refine (rhidden_any w2 _ lv M id S2.out.a S2.out.r S2.out.l hml2).mono ?_
  rintro e w3 ⟨b2, rfl, hb2, hb⟩
  have hbb : b1 = b2 := by rw [Bool.eq_iff_iff, HB1.out, hb2]
  subst hbb
  have S3 := Lib.hid (S2.out.on hb)
  have hne : (b1 != b1) = false := by simp
  clear hb2 hb S2 HB1
  obtain ⟨va, vc, rfl⟩ := Row.slice S3.out.l
  obtain ⟨m, hm⟩ : ∃ m, M.length = m := ⟨_, rfl⟩
  rw [hm] at S3 ⊢
  have HM := Lib.hid hm
  clear hm
  go_wp2_with fail
  go_loopw [35] (fun iv wr => ∃ (i : Nat) (Y' : Nat → Prop), iv = .int .i64 (i : Nat) ∧ i ≤ m ∧ Hid (TM Y' W p wr (.slice va m vc) M)) (fun iv _ => m - (intOf iv).toNat)
  case atStart => exact ⟨0, Y, rfl, Nat.zero_le _, S3⟩
  case round =>
    obtain ⟨i, Y', rfl, hi, S⟩ := hrel
    clear S3 hne
    by_cases him : i < m
    · have hw1 : IntKind.i64.wrap ((i : Int) + 1) = ((i + 1 : Nat) : Int) := by rw [IntKind.wrap_i64]; have := HM.out; omega
      obtain ⟨x, hx⟩ : ∃ x, M[i]? = some x := ⟨_, List.getElem?_eq_getElem (by rw [HM.out]; exact him)⟩
      obtain ⟨g, cap, e1, hc⟩ := rule_at S.out.l (by rw [HM.out]; omega)
      simp at e1
      obtain ⟨rfl, -, rfl⟩ := e1
      obtain ⟨c_0, c_1, c_2, c_3, c_4, c_5⟩ := hc i x hx
      have hxo := Lib.hid (S.out.r x (List.mem_of_getElem? hx)).2
      obtain ⟨nb, hnb⟩ : ∃ n, wr.heap.size = n := ⟨_, rfl⟩
      clear hc hx
      go_upto_region 9 with fail
      refine at_code (S := fun w => Blk w nb x.cells ∧ TM (fun k => Y' k ∨ k = nb) W p w (.slice (some ⟨g, 0, none⟩) m vc) M) ⟨by rw [← hnb]; exact Blk.new wr _ x.cells, by rw [← hnb]; exact S.out.box _⟩ (fun w4 h4 => ?_)
      have S4 := Lib.hid h4.2
      have X4 := Lib.hid h4.1
      obtain ⟨⟨x_0, x_1, x_2, x_3, x_4, x_5⟩, -⟩ := blk_ru h4.1
      clear h4 c_0 c_1 c_2 c_3 c_4 c_5 S hnb
      refine wp_region_noPanic ?_
      refine wp_region_along (S := fun w' => Below w4.heap.size w4 w' ∧ ∀ b o, (w4.cell? ⟨b, o, none⟩).isSome = true → w'.cell? ⟨b, o, none⟩ = w4.cell? ⟨b, o, none⟩) ([(0, true), (1, true), (2, true), (4, true), (5, true), (6, true), (3, false), (7, false), (8, true)]) (by kernel_rfl) (by as_aux_lemma => kernel_rfl) (by kernel_rfl) (by kernel_rfl) (by as_aux_lemma => kernel_rfl) (by as_aux_lemma => kernel_rfl) (fun _ _ _ _ _ h => h) (ckeep (Below.refl _ _).drew) (fun hH => ?_)
      simp only [stepsOf, pickOp]
      iterate 6 (first | (refine along_skip (by rfl) ?_; try simp only [Act.put, List.setIfInBounds_toArray, List.set_cons_zero, List.set_cons_succ]) | (refine along_pure ?_ (by rfl) (fun w hSw => ?_) ?_; rotate_left; ((try dsimp only at hSw); go_simp; try with_reducible rfl); try simp only [Act.put, List.setIfInBounds_toArray, List.set_cons_zero, List.set_cons_succ]))
      refine along_bar (fun K hK => ?_)
      go_simp
      refine (thidden_any (S4.out.on hH.1).t x.id hxo.out.2 hml).mono ?_
      rintro e w' ⟨b1, rfl, hb1, hbx⟩
      try go_wp2_with fail
      refine hK.out _ _ (ckeep (bel_on' hH.1 hbx)) (fun hH' => ?_)
      clear hK K hH
      have hH := hH'
      clear hH'
      have HB1 := Lib.hid hb1
      clear hb1 hbx
      try simp only [Act.put, List.setIfInBounds_toArray, List.set_cons_zero, List.set_cons_succ]
      refine along_bar (fun K hK => ?_)
      go_simp
      refine (rhidden_any _ _ _ M x.id S4.out.a S4.out.r (S4.out.on hH.1).l hml2).mono ?_
      rintro e w' ⟨b2, rfl, hb2, hbx⟩
      try go_wp2_with fail
      refine hK.out _ _ (ckeep (bel_on' hH.1 hbx)) (fun hH' => ?_)
      clear hK K hH
      have hH := hH'
      clear hH'
      have hbb : b1 = b2 := by rw [Bool.eq_iff_iff, HB1.out, hb2]
      subst hbb
      clear hb2 hbx
      have hne : (b1 != b1) = false := by simp
      try simp only [Act.put, List.setIfInBounds_toArray, List.set_cons_zero, List.set_cons_succ]
      iterate 1 (first | (refine along_skip (by rfl) ?_; try simp only [Act.put, List.setIfInBounds_toArray, List.set_cons_zero, List.set_cons_succ]) | (refine along_pure ?_ (by rfl) (fun w hSw => ?_) ?_; rotate_left; ((try dsimp only at hSw); go_simp; try with_reducible rfl); try simp only [Act.put, List.setIfInBounds_toArray, List.set_cons_zero, List.set_cons_succ]))
      refine along_end (NoPanic.normal ?_)
      have S5 := Lib.hid (S4.out.on hH.1)
      clear hH S4 X4 x_0 x_1 x_2 x_3 x_4 x_5 HB1 hne
      go_wp2_with fail
      refine ⟨⟨i + 1, _, by first | rfl | rw [hw1], by omega, S5⟩, by simp [intOf] <;> omega⟩
    · obtain rfl : i = m := by omega
      go_wp2_with fail
      refine (tbest_any S.out.t S.out.a.s A hA hml).mono ?_
      rintro e w4 ⟨rfl, hb⟩
      have S4 := Lib.hid (S.out.on hb)
      clear hb S
      obtain ⟨nb, hnb⟩ : ∃ n, w4.heap.size = n := ⟨_, rfl⟩
      cases hmt : meetR M A 32 with
      | nil =>
        clear hmt
        dsimp only [headR]
        go_upto_region 13 with fail
        refine at_code (S := fun w => TM (fun k => Y' k ∨ k = nb) W p w (.slice va i vc) M) (by rw [← hnb]; exact S4.out.box _) (fun w5 h5 => ?_)
        have S5 := Lib.hid h5
        clear h5 S4 hnb
        go_wp2_with fail
        refine (tawake_any w5).mono ?_
        rintro e w6 ⟨rfl, hb⟩
        have S6 := Lib.hid (S5.out.on hb)
        clear hb S5
        go_wp2
        go_ret
        exact ⟨rfl, S6.out.below⟩
      | cons y ys =>
        have HNO := Lib.hid (best_open S4.out.a S4.out.r hA hmt)
        have HYM := Lib.hid (meet_mem hmt)
        clear hmt
        dsimp only [headR]
        go_upto_region 13 with fail
        refine at_code (S := fun w => TM (fun k => Y' k ∨ k = nb) W p w (.slice va i vc) M ∧ Blk w nb y.cells) ⟨by rw [← hnb]; exact S4.out.box _, by rw [← hnb]; exact Blk.new _ _ _⟩ (fun w5 h5 => ?_)
        have S5 := Lib.hid h5.1
        have X5 := Lib.hid h5.2
        clear h5 S4 hnb
        go_wp2_with fail
        refine (tawake_any w5).mono ?_
        rintro e w6 ⟨rfl, hb⟩
        have S6 := Lib.hid (S5.out.on hb)
        have X6 := Lib.hid (X5.out.on hb)
        clear hb S5 X5
        obtain ⟨⟨x_0, x_1, x_2, x_3, x_4, x_5⟩, -⟩ := blk_ru X6.out
        go_wp2_with fail
        refine (thidden_any S6.out.t y.id (S6.out.r y HYM.out).2.2 hml).mono ?_
        rintro e w7 ⟨b, rfl, hbi, hb⟩
        have hbf : b = false := by
          cases b with
          | false => rfl
          | true => exact absurd (hbi.1 rfl) HNO.out
        subst hbf
        have S7 := Lib.hid (S6.out.on hb)
        clear hb hbi S6 X6 x_0 x_1 x_2 x_3 x_4 x_5
        go_wp2
        go_ret
        exact ⟨rfl, S7.out.below⟩
theorem hidden_any (L : List ChR) (la : Option Addr) (lc : Nat) (id : Int) (A : Nat) (hA : A < 4294967296) (hv : I64 id) (W : World) (hr : Rw W la (L.flatMap ChR.cells)) (hok : ∀ x ∈ L, x.Ok) :
    Calls Try.prog 5 #[.slice la L.length lc, .int .i64 id, .int .u32 (A : Nat)] W fun e w' => e = .returned (.bool true) ∧ Below W.heap.size W w' := by
  by_cases c : 40 < L.length
  · exact hidden_many L la lc id A c W
  · exact hidden_few L la lc id A hA hv hok (by omega) W hr
end Go.Proofs.Ytgcbngephokegaa
