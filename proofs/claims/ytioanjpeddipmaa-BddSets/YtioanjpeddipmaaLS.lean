/- BddSets: each set has just the headers that it should, and one number. -/
import Derived.Test.YtioanjpeddipmaaAY
import Derived.Test.YtioanjpeddipmaaLA
import Derived.Test.YtioanjpeddipmaaLS0
namespace Go.Proofs.Ytioanjpeddipmaa
open Go.RowKit
set_option linter.unusedVariables false

theorem row_len' {w : World} {base : Nat} {t : TypeId} {v : Value} {o : List Nat} (h : w.ownsRow base t 1 v o.length (o.map iv)) : ∃ ad cap, v = .slice ad o.length cap := by
  rcases h.2 with ⟨e, q⟩ | ⟨g, cap, cur, e, -⟩
  · have : o.length = 0 := q
    exact ⟨none, 0, by rw [e, this]⟩
  · exact ⟨_, _, e⟩
theorem row_any {w : World} {base : Nat} {t : TypeId} {v : Value} {n sz : Nat} {xs : List Value} (h : w.ownsRow base t sz v n xs) : ∃ ad cap, v = .slice ad n cap := by
  rcases h.2 with ⟨e, q⟩ | ⟨g, cap, cur, e, -⟩
  · have : n = 0 := q
    exact ⟨none, 0, by rw [e, this]⟩
  · exact ⟨_, _, e⟩
set_option maxRecDepth 100000 in
set_option maxHeartbeats 8000000 in
theorem sets_any (L : List Ex) (la : Option Addr) (lc : Nat) (hcap : L.length ≤ lc) (G : List Hx) (ga : Option Addr) (gc : Nat) (hG : ∀ x ∈ G, WB x.a x.b) (W : World) (hL : Rw W la (L.flatMap Ex.cells)) (hlen : L.length ≤ maxLen) (hrng : ∀ x ∈ L, -9223372036854775808 ≤ x.v ∧ x.v ≤ 9223372036854775807) (hGr : Rw W ga (G.flatMap Hx.cells)) :
    Calls Try.prog 3 #[.slice la L.length lc, .slice ga G.length gc] W fun e w' => e = .returned (.bool true) ∧ Below W.heap.size W w' := by
  have CL := Lib.hid (light_any L la lc W hL hlen hrng)
  have CA := Lib.hid (fun w => awake_any w)
  have CN := Lib.hid (fun w => sNew 262144 (by omega) (by omega) w)
  have HL0 := Lib.hid hL
  have HG0 := Lib.hid hGr
  have HGo := Lib.hid hG
  have CM := Lib.hid (fun (Z : Nat → Prop) (p : Nat) (w : World) (h : Sta Z p w 262144 [bot, top]) (hr : Rw w la (L.flatMap Ex.cells)) (hZ : ∀ b off, la = some ⟨b, off, none⟩ → 0 < L.length → Z b) (lt : Lt L) => make_big (lc := lc) h hr hZ lt)
  obtain ⟨n, hn⟩ : ∃ n, L.length = n := ⟨_, rfl⟩
  obtain ⟨nh, hnh⟩ : ∃ n, G.length = n := ⟨_, rfl⟩
  have HNH := Lib.hid hnh
  rw [hnh]
  rw [hn] at CL CM hlen hcap ⊢
  have HN := Lib.hid hn
  clear hn hnh hL hrng hG hGr
  go_enter Try.func3, Try.ntmps3
  go_wp2_with fail
  refine CL.out.mono ?_
  rintro e w1 ⟨r, rfl, hr, hb⟩
  have B1 := Lib.hid hb
  clear hb CL
  cases r with
  | false =>
    clear hr
    go_wp2_with fail
    refine (CA.out _).mono ?_
    rintro e w2 ⟨rfl, hb⟩
    have B2 := Lib.hid (bel_on' B1.out hb)
    clear hb
    go_wp2
    go_ret
    exact ⟨rfl, B2.out⟩
  | true =>
    have LT := Lib.hid (hr rfl)
    clear hr
    have h60 : n ≤ 60 := by rw [← HN.out]; exact LT.out.len
    by_cases hfew : 40 < nh
    · have hfew' : (40 : Int) < (nh : Int) := by omega
      go_wp2_with fail
      refine (CA.out _).mono ?_
      rintro e w2 ⟨rfl, hb⟩
      have B2 := Lib.hid (bel_on' B1.out hb)
      clear hb
      go_wp2
      go_ret
      exact ⟨rfl, B2.out⟩
    · have hfew' : ¬ (40 : Int) < (nh : Int) := by omega
      go_wp2_with fail
      refine (CN.out _).mono ?_
      rintro e w2 ⟨p, rfl, hS, hb⟩
      have S2 := Lib.hid hS
      have B2 := Lib.hid (bel_on' B1.out hb)
      clear hS hb CN
      have CM2 := Lib.hid (CM.out _ p w2 S2.out (HL0.out.on B2.out) (fun b off e hl => by have := rw_z HL0.out b off e (by rw [HN.out]; exact hl); have := B1.out.size; omega) LT.out)
      clear CM S2
      go_wp2_with fail
      refine CM2.out.mono ?_
      rintro e w3 ⟨v, o, B, ns, rfl, hS, hH, hR, hF⟩
      have hon : o.length = n := by rw [hF.len]; exact HN.out
      obtain ⟨ad, cap, hv⟩ := row_len' hR
      rw [hon] at hv
      have hg : ∀ i, i < n → ∃ g, ad = some ⟨g, 0, none⟩ ∧ w3.cell? ⟨g, i, none⟩ = some (.int .i64 ((o.getD i 0 : Nat) : Int)) := fun i hi => by
        obtain ⟨g, cap', e, q⟩ := row_form hR (by omega)
        rw [hv] at e
        cases e
        exact ⟨g, rfl, q i (by omega)⟩
      obtain ⟨Z, hZ⟩ : ∃ Z, Zv (fun k => k < w1.heap.size) v = Z := ⟨_, rfl⟩
      have hzl : ∀ k, k < w1.heap.size → Z k := by rw [← hZ]; exact Zv_lt (fun k hk => hk)
      have hzg : ∀ g, ad = some ⟨g, 0, none⟩ → Z g := fun g e => by rw [← hZ, hv, e]; exact Or.inr rfl
      rw [hZ] at hS
      have H3 := Lib.hid hH
      have HZL := Lib.hid (And.intro hzl hzg)
      have HF := Lib.hid hF
      have HG := Lib.hid hg
      have S3 := Lib.hid hS
      have B3 := Lib.hid (show Below W.heap.size W w3 from B2.out.trans (hH.below B2.out.size (fun k hk => by show k < w1.heap.size; have := B1.out.size; omega)))
      have LTo := Lib.hid LT.out.ok
      have LTl := Lib.hid LT.out.len
      subst hv
      clear CM2 hR hZ hzl hzg hH hF hg hS hon LT
      have hl3 := HF.out.most
      have hpw := HF.out.pw
      obtain ⟨m, hm⟩ : ∃ m, ns.length = m := ⟨_, rfl⟩
      have HM := Lib.hid hm
      have hm2 : 2 ≤ m := by have := S3.out.wf.len; omega
      have CR := Lib.hid (fun (a b : Nat) (w : World) (hwb : WB a b) (hb : Below W.heap.size W w) => rin_any L.length L (Nat.le_refl _) LTl.out LTo.out la lc a b w hwb (HL0.out.on hb) (by rw [HN.out]; exact hcap))
      rw [HN.out] at CR
      have CI := Lib.hid (fun (w : World) (hS : Sta Z p w 262144 ns) (f a b : Nat) (hwb : WB a b) (hf : f < ns.length) => sIn hS f _ _ _ _ _ hwb.hb hf)
      have HAt := Lib.hid (fun (i : Nat) (hi : i < n) => HF.out.at_ (i := i) (by rw [HN.out]; exact hi))
      have HBi := Lib.hid HF.out.bits
      have WN := Lib.hid S3.out.wf
      rw [hm] at hl3
      clear HF hm LTl LTo
      go_wp2_with fail
      go_loopw [54] (fun iv' wr => ∃ j : Nat, iv' = .int .i64 (j : Nat) ∧ j ≤ nh ∧ Hid (Below w3.heap.size w3 wr)) (fun iv' _ => nh - (intOf iv').toNat)
      case atStart => exact ⟨0, rfl, Nat.zero_le _, Lib.hid (Below.refl _ _)⟩
      case round =>
        obtain ⟨j, rfl, hj, hB⟩ := hrel
        by_cases hjn : j < nh
        · obtain ⟨x, hx⟩ : ∃ x, G[j]? = some x := ⟨_, List.getElem?_eq_getElem (by have := HNH.out; omega)⟩
          obtain ⟨b0, off, rfl⟩ := HG0.out.elemAd 4 Hx.cells_len hx
          have hwb := HGo.out x (List.mem_of_getElem? hx)
          have el := (HG0.out.on (bel_on' B3.out hB.out)).elem 5 Hx.cells_len hx
          obtain ⟨a, b⟩ := x
          simp only at hwb
          have CR1 := Lib.hid (fun (w : World) (hb : Below W.heap.size W w) => CR.out a b w hwb hb)
          have CI1 := Lib.hid (fun (w : World) (hS : Sta Z p w 262144 ns) (f : Nat) (hf : f < ns.length) => CI.out w hS f a b hwb hf)
          rw [tE_hE] at CI1
          unfold hw at CR1
          obtain ⟨d1, hd1⟩ : ∃ x, fd a = x := ⟨_, rfl⟩
          obtain ⟨d2, hd2⟩ : ∃ x, fs a = x := ⟨_, rfl⟩
          obtain ⟨d3, hd3⟩ : ∃ x, fd b = x := ⟨_, rfl⟩
          obtain ⟨d4, hd4⟩ : ∃ x, fx b = x := ⟨_, rfl⟩
          obtain ⟨d5, hd5⟩ : ∃ x, fy b = x := ⟨_, rfl⟩
          have hcl : Hx.cells ⟨a, b⟩ = [.int .u32 (d1 : Nat), .int .u32 (d2 : Nat), .int .u8 (d3 : Nat), .int .u16 (d4 : Nat), .int .u16 (d5 : Nat)] := by unfold Hx.cells; simp only [hd1, hd2, hd3, hd4, hd5]
          rw [hd1, hd2, hd3, hd4, hd5] at CR1 CI1
          have l_0 : wr.cell? ⟨b0, off + j * 5, none⟩ = some (.int .u32 (d1 : Nat)) := el 0 (by rw [hcl]; rfl)
          have l_1 : wr.cell? ⟨b0, off + j * 5 + 1, none⟩ = some (.int .u32 (d2 : Nat)) := el 1 (by rw [hcl]; rfl)
          have l_2 : wr.cell? ⟨b0, off + j * 5 + 2, none⟩ = some (.int .u8 (d3 : Nat)) := el 2 (by rw [hcl]; rfl)
          have l_3 : wr.cell? ⟨b0, off + j * 5 + 3, none⟩ = some (.int .u16 (d4 : Nat)) := el 3 (by rw [hcl]; rfl)
          have l_4 : wr.cell? ⟨b0, off + j * 5 + 4, none⟩ = some (.int .u16 (d5 : Nat)) := el 4 (by rw [hcl]; rfl)
          have hwj : IntKind.i64.wrap ((j : Int) + 1) = ((j + 1 : Nat) : Int) := by rw [IntKind.wrap_i64]; omega
          clear el hcl hd1 hd2 hd3 hd4 hd5 hwb hx
          go_upto_region 12 with fail
          refine at_code (S := fun W' => Blk W' wr.heap.size [.int .u32 (d1 : Nat), .int .u32 (d2 : Nat), .int .u8 (d3 : Nat), .int .u16 (d4 : Nat), .int .u16 (d5 : Nat)] ∧ Below wr.heap.size wr W') ⟨Blk.new _ _ _, bel_al (Below.refl _ _) _⟩ (fun W4 hW => ?_)
          obtain ⟨hX, hb⟩ := hW
          obtain ⟨x_0, x_1, x_2, x_3, x_4⟩ : _ ∧ _ ∧ _ ∧ _ ∧ _ := ⟨hX.1 0 _ rfl, hX.1 1 _ rfl, hX.1 2 _ rfl, hX.1 3 _ rfl, hX.1 4 _ rfl⟩
          have X4 := Lib.hid hX
          have B4 := Lib.hid (bel_on' hB.out hb)
          clear hX hb l_0 l_1 l_2 l_3 l_4
          obtain ⟨XB, hXB⟩ : ∃ x, wr.heap.size = x := ⟨_, rfl⟩
          rw [hXB] at X4 x_0 x_1 x_2 x_3 x_4 ⊢
          clear hXB
          have CR2 := Lib.hid (CR1.out W4 (bel_on' B3.out B4.out))
          unfold RIn at CR2
          rw [HN.out] at CR2
          clear CR1
          go_wp2_with fail
          refine CR2.out.mono ?_
          rintro e w5 ⟨vw, rfl, hb5, hrow⟩
          obtain ⟨ad5, cap5, hv5⟩ := row_any hrow
          have hw5 : ∀ i, i < n → ∃ g, ad5 = some ⟨g, 0, none⟩ ∧ w5.cell? ⟨g, i, none⟩ = some (.bool (nth (semL [] L) ((i : Nat) : Int) (tE a b))) := fun i hi => by
            obtain ⟨g, cap', e, q⟩ := row_formB hrow (by rw [semL_len, HN.out]; simp) (by omega)
            rw [hv5] at e
            cases e
            exact ⟨g, rfl, q i hi⟩
          have HW5 := Lib.hid hw5
          have X5 := Lib.hid (X4.out.on hb5)
          have B5 := Lib.hid (bel_on' B4.out hb5)
          subst hv5
          clear hb5 hrow hw5 x_0 x_1 x_2 x_3 x_4 X4 B4 CR2
          go_wp2_with fail
          go_loopw [63] (fun iv' wr => ∃ i : Nat, iv' = .int .i64 (i : Nat) ∧ i ≤ n ∧ Hid (Below w5.heap.size w5 wr)) (fun iv' _ => n - (intOf iv').toNat)
          case atStart => exact ⟨0, rfl, Nat.zero_le _, Lib.hid (Below.refl _ _)⟩
          case round =>
            obtain ⟨i, rfl, hi, hBi'⟩ := hrel
            by_cases hin : i < n
            · have hwi : IntKind.i64.wrap ((i : Int) + 1) = ((i + 1 : Nat) : Int) := by rw [IntKind.wrap_i64]; omega
              obtain ⟨g, rfl, hgc⟩ := HG.out i hin
              obtain ⟨g5, rfl, hgc5⟩ := HW5.out i hin
              obtain ⟨sf, se⟩ := HAt.out i hin
              obtain ⟨f, hf⟩ : ∃ f, o.getD i 0 = f := ⟨_, rfl⟩
              rw [hf] at hgc sf se
              have B6 := Lib.hid (bel_on' B5.out hBi'.out)
              have g_1 := (B6.out.cell (p := ⟨g, i, none⟩) (cell_lt (o := i) (by rw [hgc]; rfl))).trans hgc
              have g_2 := (hBi'.out.cell (p := ⟨g5, i, none⟩) (cell_lt (o := i) (by rw [hgc5]; rfl))).trans hgc5
              obtain ⟨t, ht⟩ : ∃ t, nth (semL [] L) ((i : Nat) : Int) (tE a b) = t := ⟨_, rfl⟩
              rw [ht] at g_2
              have C6 := Lib.hid (fun (w : World) (hb : Below w3.heap.size w3 w) => CI1.out w (S3.out.on hb) f sf)
              have het : ev ns (tE a b) f = t := by rw [se, ← ht]; unfold nth; rw [Int.toNat_natCast]
              rw [het] at C6
              have X6 := Lib.hid (X5.out.on hBi'.out)
              obtain ⟨x_0, x_1, x_2, x_3, x_4⟩ : _ ∧ _ ∧ _ ∧ _ ∧ _ := ⟨X6.out.1 0 _ rfl, X6.out.1 1 _ rfl, X6.out.1 2 _ rfl, X6.out.1 3 _ rfl, X6.out.1 4 _ rfl⟩
              have hin' : (i : Int) < (n : Int) := by omega
              clear hgc hgc5 sf se hf ht het
              go_upto_region 16 with fail
              refine wp_region_noPanic ?_
              refine wp_region_along (S := fun w' => Below w5.heap.size w5 w' ∧ w'.cell? ⟨g, i, none⟩ = some (.int .i64 (f : Nat)) ∧ w'.cell? ⟨g5, i, none⟩ = some (.bool t) ∧ w'.cell? ⟨XB, 0, none⟩ = some (.int .u32 (d1 : Nat)) ∧ w'.cell? ⟨XB, 1, none⟩ = some (.int .u32 (d2 : Nat)) ∧ w'.cell? ⟨XB, 2, none⟩ = some (.int .u8 (d3 : Nat)) ∧ w'.cell? ⟨XB, 3, none⟩ = some (.int .u16 (d4 : Nat)) ∧ w'.cell? ⟨XB, 4, none⟩ = some (.int .u16 (d5 : Nat))) ([(0, true), (1, true), (2, true), (3, true), (4, true), (5, true), (7, true), (8, true), (9, true), (10, true), (6, false), (11, true)]) (by kernel_rfl) (by as_aux_lemma => kernel_rfl) (by kernel_rfl) (by kernel_rfl) (by as_aux_lemma => kernel_rfl) (by as_aux_lemma => kernel_rfl) (fun _ _ _ _ _ h => h) ⟨hBi'.out.drew, g_1, g_2, x_0, x_1, x_2, x_3, x_4⟩ (fun hH => ?_)
              simp only [stepsOf, pickOp]
              iterate 10 (first | (refine along_skip (by rfl) ?_; try simp only [Act.put, List.setIfInBounds_toArray, List.set_cons_zero, List.set_cons_succ]) | (refine along_pure ?_ (by rfl) (fun w hSw => ?_) ?_; rotate_left; (obtain ⟨-, s_1, s_2, s_3, s_4, s_5, s_6, s_7⟩ := hSw; go_simp; try with_reducible rfl); try simp only [Act.put, List.setIfInBounds_toArray, List.set_cons_zero, List.set_cons_succ]))
              clear hH
              refine along_bar (fun K hK => ?_)
              go_simp
              refine (C6.out wr.drew B6.out.drew).mono ?_
              rintro e w7 ⟨rfl, hb7⟩
              try go_wp2_with fail
              have hb7' : Below wr.heap.size wr w7 := bel_on' (Below.refl _ _).drew hb7
              refine hK.out _ _ ⟨bel_on' hBi'.out hb7', (hb7'.cell (p := ⟨g, i, none⟩) (cell_lt (o := i) (by rw [g_1]; rfl))).trans g_1, (hb7'.cell (p := ⟨g5, i, none⟩) (cell_lt (o := i) (by rw [g_2]; rfl))).trans g_2, (hb7'.cell (p := ⟨XB, 0, none⟩) (cell_lt (o := 0) (by rw [x_0]; rfl))).trans x_0, (hb7'.cell (p := ⟨XB, 1, none⟩) (cell_lt (o := 1) (by rw [x_1]; rfl))).trans x_1, (hb7'.cell (p := ⟨XB, 2, none⟩) (cell_lt (o := 2) (by rw [x_2]; rfl))).trans x_2, (hb7'.cell (p := ⟨XB, 3, none⟩) (cell_lt (o := 3) (by rw [x_3]; rfl))).trans x_3, (hb7'.cell (p := ⟨XB, 4, none⟩) (cell_lt (o := 4) (by rw [x_4]; rfl))).trans x_4⟩ (fun hH => ?_)
              have B7 := Lib.hid (bel_on' hBi'.out hb7')
              clear hK K hb7 hb7'
              try simp only [Act.put, List.setIfInBounds_toArray, List.set_cons_zero, List.set_cons_succ]
              iterate 1 (first | (refine along_skip (by rfl) ?_; try simp only [Act.put, List.setIfInBounds_toArray, List.set_cons_zero, List.set_cons_succ]) | (refine along_pure ?_ (by rfl) (fun w hSw => ?_) ?_; rotate_left; (obtain ⟨-, s_1, s_2, s_3, s_4, s_5, s_6, s_7⟩ := hSw; go_simp; try with_reducible rfl); try simp only [Act.put, List.setIfInBounds_toArray, List.set_cons_zero, List.set_cons_succ]))
              refine along_end (NoPanic.normal ?_)
              clear hH
              go_wp2_with fail
              refine ⟨⟨i + 1, ?_, by omega, B7⟩, by simp [intOf] <;> omega⟩
              first | rfl | rw [hwi]
            · have hin' : i = n := by omega
              subst hin'
              go_wp2_with fail
              refine ⟨⟨j + 1, ?_, by omega, Lib.hid (bel_on' B5.out hBi'.out)⟩, by simp [intOf] <;> omega⟩
              first | rfl | rw [hwj]
        · have hjn' : j = nh := by omega
          subst hjn'
          have S4 := Lib.hid (S3.out.on hB.out)
          have C4 := Lib.hid (sLen S4.out)
          rw [HM.out] at C4
          have H4 := Lib.hid (show Hold Z w3 wr from Hold.of hB.out)
          clear CR CI
          go_wp2_with fail
          refine C4.out.mono ?_
          rintro e w' ⟨rfl, rfl⟩
          go_wp2_with fail
          go_loopw [84] (fun iv' wx => ∃ i : Nat, iv' = .int .i64 (i : Nat) ∧ i ≤ n ∧ Hid (Sta Z p wx 262144 ns) ∧ Hid (Hold Z w3 wx)) (fun iv' _ => n - (intOf iv').toNat)
          case atStart => exact ⟨0, rfl, Nat.zero_le _, S4, H4⟩
          case round =>
            obtain ⟨i, rfl, hi, Sx, Hx'⟩ := hrel
            by_cases hin : i < n
            · have hwi : IntKind.i64.wrap ((i : Int) + 1) = ((i + 1 : Nat) : Int) := by rw [IntKind.wrap_i64]; omega
              go_wp2_with fail
              go_loopw [88] (fun iv' wy => ∃ k : Nat, iv' = .int .i64 (k : Nat) ∧ k ≤ i ∧ Hid (Sta Z p wy 262144 ns) ∧ Hid (Hold Z w3 wy)) (fun iv' _ => i - (intOf iv').toNat)
              case atStart => exact ⟨0, rfl, Nat.zero_le _, Sx, Hx'⟩
              case round =>
                obtain ⟨k, rfl, hk, Sy, Hy⟩ := hrel
                by_cases hki : k < i
                · have hwk : IntKind.i64.wrap ((k : Int) + 1) = ((k + 1 : Nat) : Int) := by rw [IntKind.wrap_i64]; omega
                  have hkn : k < n := by omega
                  obtain ⟨g, rfl, hgi⟩ := HG.out i hin
                  obtain ⟨g', e', hgk⟩ := HG.out k hkn
                  cases e'
                  have si := HAt.out i hin
                  have sk := HAt.out k hkn
                  obtain ⟨f, hf⟩ : ∃ f, o.getD i 0 = f := ⟨_, rfl⟩
                  obtain ⟨f', hf'⟩ : ∃ f, o.getD k 0 = f := ⟨_, rfl⟩
                  rw [hf] at si hgi
                  rw [hf'] at sk hgk
                  have hZg := HZL.out.2 g rfl
                  have g_i := Hy.out.cell hZg hgi
                  have g_k := Hy.out.cell hZg hgk
                  obtain ⟨q, ns', ej, oj, -⟩ := jF_big (kind := 2) (most := 262144) WN.out si sk HBi.out hpw (by rw [HM.out]; omega)
                  have hxz := xor_zero WN.out si.1 sk.1 ej
                  have C5 := Lib.hid (fun (w : World) (hS : Sta Z p w 262144 ns) => sJoin hS 2 f f' (by omega) si.1 sk.1)
                  rw [ej] at C5
                  replace C5 : Hid (∀ (w : World), Sta Z p w 262144 ns → Calls Try.prog 16 #[.pointer (some ⟨p, 0, none⟩), .int .i64 2, .int .i64 (f : Nat), .int .i64 (f' : Nat)] w fun e w' => e = .returned (.tuple #[.int .i64 (q : Nat), .int .i64 0]) ∧ Sta Z p w' 262144 ns' ∧ Hold Z w w') := C5
                  have htk : ns'.take (max ((m : Nat) : Int).toNat 2) = ns := by
                    have h2 := oj.ext.take
                    rw [HM.out] at h2
                    rw [show max ((m : Nat) : Int).toNat 2 = m by omega]
                    exact h2
                  have C6 := Lib.hid (fun (w : World) (hS : Sta Z p w 262144 ns') => sCut hS ((m : Nat) : Int))
                  rw [htk] at C6
                  have HXZ := Lib.hid hxz
                  have HZG := Lib.hid hZg
                  have hin' : (i : Int) < (n : Int) := by omega
                  have hkn' : (k : Int) < (n : Int) := by omega
                  have HGI := Lib.hid (And.intro hgi hgk)
                  clear hgi hgk si sk hf hf' ej oj hxz htk hZg
                  go_upto_region 27 with fail
                  refine wp_region_noPanic ?_
                  refine wp_region_along (S := fun w' => w'.cell? ⟨g, i, none⟩ = some (.int .i64 (f : Nat)) ∧ w'.cell? ⟨g, k, none⟩ = some (.int .i64 (f' : Nat))) ([(0, true), (1, true), (2, true), (3, true), (4, true), (5, true), (6, true), (7, true), (8, true), (9, false), (10, true), (11, true), (12, true), (13, true), (14, true)]) (by kernel_rfl) (by as_aux_lemma => kernel_rfl) (by kernel_rfl) (by kernel_rfl) (by as_aux_lemma => kernel_rfl) (by as_aux_lemma => kernel_rfl) (fun _ _ _ _ _ h => h) ⟨g_i, g_k⟩ (fun hH => ?_)
                  simp only [stepsOf, pickOp]
                  iterate 9 (first | (refine along_skip (by rfl) ?_; try simp only [Act.put, List.setIfInBounds_toArray, List.set_cons_zero, List.set_cons_succ]) | (refine along_pure ?_ (by rfl) (fun w hSw => ?_) ?_; rotate_left; (obtain ⟨s_1, s_2⟩ := hSw; go_simp; try with_reducible rfl); try simp only [Act.put, List.setIfInBounds_toArray, List.set_cons_zero, List.set_cons_succ]))
                  clear hH
                  refine along_bar (fun K hK => ?_)
                  go_simp
                  refine (C5.out _ (Sy.out.on (Below.refl _ _).drew)).mono ?_
                  rintro e w6 ⟨rfl, hS6, hH6⟩
                  try go_wp2_with fail
                  have S6 := Lib.hid hS6
                  have H6 := Lib.hid ((Hy.out.trans (Hold.of (Below.refl _ _).drew)).trans hH6)
                  refine hK.out _ _ ⟨H6.out.cell HZG.out HGI.out.1, H6.out.cell HZG.out HGI.out.2⟩ (fun hH => ?_)
                  clear hK K hS6 hH6 g_i g_k
                  try simp only [Act.put, List.setIfInBounds_toArray, List.set_cons_zero, List.set_cons_succ]
                  iterate 5 (first | (refine along_skip (by rfl) ?_; try simp only [Act.put, List.setIfInBounds_toArray, List.set_cons_zero, List.set_cons_succ]) | (refine along_pure ?_ (by rfl) (fun w hSw => ?_) ?_; rotate_left; (obtain ⟨s_1, s_2⟩ := hSw; go_simp; try with_reducible rfl); try simp only [Act.put, List.setIfInBounds_toArray, List.set_cons_zero, List.set_cons_succ]))
                  refine along_end (NoPanic.normal ?_)
                  clear hH
                  go_wp2_with fail
                  refine (C6.out w6 S6.out).mono ?_
                  rintro e w7 ⟨rfl, hS7, hH7⟩
                  have S7 := Lib.hid hS7
                  have H7 := Lib.hid (H6.out.trans hH7)
                  have g_i := H7.out.cell HZG.out HGI.out.1
                  have g_k := H7.out.cell HZG.out HGI.out.2
                  clear hS7 hH7 S6 H6 C6 C5
                  by_cases heq : f = f'
                  · have hq0 := HXZ.out.2 heq
                    subst heq
                    subst hq0
                    go_upto_region 29 with fail
                    refine wp_region_noPanic ?_
                    refine wp_region_along (S := fun w' => w' = w7.drew) ([(0, true), (1, true), (2, true), (3, true), (4, true), (5, true), (6, true), (7, true), (8, true), (9, true), (10, true), (11, true), (12, true), (13, true), (14, true), (15, true)]) (by kernel_rfl) (by as_aux_lemma => kernel_rfl) (by kernel_rfl) (by kernel_rfl) (by as_aux_lemma => kernel_rfl) (by as_aux_lemma => kernel_rfl) (fun _ _ _ _ _ h => h) rfl (fun hH => ?_)
                    simp only [stepsOf, pickOp]
                    iterate 16 (first | (refine along_skip (by rfl) ?_; try simp only [Act.put, List.setIfInBounds_toArray, List.set_cons_zero, List.set_cons_succ]) | (refine along_pure ?_ (by rfl) (fun w hSw => ?_) ?_; rotate_left; (obtain rfl := hSw; go_simp; try with_reducible rfl); try simp only [Act.put, List.setIfInBounds_toArray, List.set_cons_zero, List.set_cons_succ]))
                    refine along_end (NoPanic.normal ?_)
                    clear hH
                    go_wp2_with fail
                    refine ⟨⟨k + 1, ?_, by omega, Lib.hid (S7.out.on (Below.refl _ _).drew), Lib.hid (H7.out.trans (Hold.of (Below.refl _ _).drew))⟩, by simp [intOf] <;> omega⟩
                    first | rfl | rw [hwk]
                  · have hq0 : ¬ q = 0 := fun e => heq (HXZ.out.1 e)
                    have hq0' : ((q : Int) == 0) = false := by simp; omega
                    have heq' : ((f : Int) == (f' : Int)) = false := by simp; omega
                    go_upto_region 29 with fail
                    refine wp_region_noPanic ?_
                    refine wp_region_along (S := fun w' => w' = w7.drew) ([(0, true), (1, true), (2, true), (3, true), (4, true), (5, true), (6, true), (7, true), (8, true), (9, true), (10, true), (11, true), (12, true), (13, true), (14, true), (15, true)]) (by kernel_rfl) (by as_aux_lemma => kernel_rfl) (by kernel_rfl) (by kernel_rfl) (by as_aux_lemma => kernel_rfl) (by as_aux_lemma => kernel_rfl) (fun _ _ _ _ _ h => h) rfl (fun hH => ?_)
                    simp only [stepsOf, pickOp]
                    iterate 16 (first | (refine along_skip (by rfl) ?_; try simp only [Act.put, List.setIfInBounds_toArray, List.set_cons_zero, List.set_cons_succ]) | (refine along_pure ?_ (by rfl) (fun w hSw => ?_) ?_; rotate_left; (obtain rfl := hSw; go_simp; try with_reducible rfl); try simp only [Act.put, List.setIfInBounds_toArray, List.set_cons_zero, List.set_cons_succ]))
                    refine along_end (NoPanic.normal ?_)
                    clear hH
                    go_wp2_with fail
                    refine ⟨⟨k + 1, ?_, by omega, Lib.hid (S7.out.on (Below.refl _ _).drew), Lib.hid (H7.out.trans (Hold.of (Below.refl _ _).drew))⟩, by simp [intOf] <;> omega⟩
                    first | rfl | rw [hwk]
                · have hki' : k = i := by omega
                  subst hki'
                  go_wp2_with fail
                  refine ⟨⟨k + 1, ?_, by omega, Sy, Hy⟩, by simp [intOf] <;> omega⟩
                  first | rfl | rw [hwi]
            · have hin' : i = n := by omega
              subst hin'
              go_wp2_with fail
              refine (CA.out _).mono ?_
              rintro e w9 ⟨rfl, hb⟩
              have FIN := Lib.hid (show Below W.heap.size W w9 from (B3.out.trans (Hx'.out.below B3.out.size (fun k hk => HZL.out.1 k (by have := B1.out.size; omega)))).trans (hb.mono (by have := Hx'.out.size; have := B3.out.size; omega)))
              clear hb
              go_wp2
              go_ret
              exact ⟨rfl, FIN.out⟩
end Go.Proofs.Ytioanjpeddipmaa
