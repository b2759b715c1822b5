/- Texts joined, in their order: TP, RE. -/
import Derived.Test.YteiemcnjcdjglaaG7d8162db53
import Derived.Test.YteiemcnjcdjglaaG402e4c2e9c
import Derived.Test.YteiemcnjcdjglaaGa3e04a106f
import Derived.Test.YteiemcnjcdjglaaG9ab65cc214
import Derived.Test.YteiemcnjcdjglaaGTC
/- SatSteps's walk (typed by gen/mkst.py). -/
namespace Go.Proofs.Yteiemcnjcdjglaa
open Go.RowKit Wd Hw
set_option linter.unusedVariables false
set_option linter.unusedSimpArgs false

theorem lits_one (h e : Nat → Bool) : allB (lits 0 h 104) e = one h e := by
  unfold allB lits one
  rw [List.all_map]
  have : ((fun p : Nat × Bool => e p.1 == p.2) ∘ fun i => (0 + i, h i)) = fun j => e j == h j := by
    funext j
    simp
  rw [this]
theorem sof1 (w : World) : Calls Try.prog 32 #[.int .u64 1] w fun e w' => e = .returned (cn 1) ∧ Below w.heap.size w w' := by
  have := of_any 1 w
  rw [cv_cn (n := 1) hi_one.symm lo_one.symm] at this
  exact this
theorem hld_set {Z : Nat → Prop} {p most : Nat} {w : World} {ns : List Nd} (h : Sta Z p w most ns) {b : Nat} (hb : Z b) (x0 x1 x2 x3 x4 : Value) : Sta Z p (((((w.setCell ⟨b, 0, none⟩ x0).setCell ⟨b, 1, none⟩ x1).setCell ⟨b, 2, none⟩ x2).setCell ⟨b, 3, none⟩ x3).setCell ⟨b, 4, none⟩ x4) most ns :=
  h.kept (((((((Keep.refl (fun i => i = b) w).set _ _ (fun _ => rfl)).set _ _ (fun _ => rfl)).set _ _ (fun _ => rfl)).set _ _ (fun _ => rfl)).set _ _ (fun _ => rfl))) hb
theorem set5 {w : World} {b : Nat} {y0 y1 y2 y3 y4 : Value} (h : Blk w b [y0, y1, y2, y3, y4]) (x0 x1 x2 x3 x4 : Value) : Blk (((((w.setCell ⟨b, 0, none⟩ x0).setCell ⟨b, 1, none⟩ x1).setCell ⟨b, 2, none⟩ x2).setCell ⟨b, 3, none⟩ x3).setCell ⟨b, 4, none⟩ x4) b [x0, x1, x2, x3, x4] :=
  ((((h.set 0 x0 (by simp)).set 1 x1 (by simp)).set 2 x2 (by simp)).set 3 x3 (by simp)).set 4 x4 (by simp)
/-- What a round of SatSteps takes on. -/
structure Stp (Z : Nat → Prop) (p bl : Nat) (W : World) (i q : Nat) (ns : List Nd) (a b : Nat) (w : World) : Prop where
  sta : Sta Z p w 262144 ns
  bel : Below W.heap.size W w
  blk : Blk w bl [.int .u32 (fd (a) : Nat), .int .u32 (fs (a) : Nat), .int .u8 (fd (b) : Nat), .int .u16 (fx (b) : Nat), .int .u16 (fy (b) : Nat)]
  lt : q < ns.length
  few : ns.length ≤ 184322 + 250 * i
  wb : WB a b
  lst : 0 < i → ∀ a' b', WB a' b' → ev ns (tE a' b') q = true → cmpW a b a' b' < 0
set_option maxRecDepth 100000 in
set_option maxHeartbeats 8000000 in
theorem ssteps_any (L : List Ex) (la : Option Addr) (lc : Nat) (x : Nat) (hx : x < 256) (W : World) (hL : Rw W la (L.flatMap Ex.cells)) (hlen : L.length ≤ maxLen) (hrng : ∀ x ∈ L, -9223372036854775808 ≤ x.v ∧ x.v ≤ 9223372036854775807) :
    Calls Try.prog 7 #[.slice la L.length lc, .int .u8 (x : Nat)] W fun e w' => e = .returned (.bool true) ∧ Below W.heap.size W w' := by
  have CA := Lib.hid (fun w => sawake_any w)
  have CN := Lib.hid (fun w => sNew 262144 (by omega) (by omega) w)
  have CM := Lib.hid (fun (Z : Nat → Prop) (p : Nat) (w : World) (h : Sta Z p w 262144 [bot, top]) (hr : Rw w la (L.flatMap Ex.cells)) (hZ : ∀ b off, la = some ⟨b, off, none⟩ → 0 < L.length → Z b) (lt : Lt L) => make_big (lc := lc) h hr hZ lt)
  have CL := Lib.hid (fun (w : World) (hb : Below W.heap.size W w) => light_any L la lc w (hL.on hb) hlen hrng)
  have HL0 := Lib.hid hL
  obtain ⟨n, hn⟩ : ∃ n, L.length = n := ⟨_, rfl⟩
  rw [hn] at CL CM hlen ⊢
  have HN := Lib.hid hn
  clear hn hL hrng
  go_enter Try.func7, Try.ntmps7

  go_wp2_with fail
  refine (CL.out W (Below.refl _ _)).mono ?_
  rintro e w1 ⟨r, rfl, hr, hb⟩
  have B1 := Lib.hid (hb)
  clear hb CL
  cases r with
  | false =>
    clear hr
    go_wp2_with fail
    refine (CA.out _).mono ?_
    rintro e w2 ⟨rfl, hb⟩
    have B2 := Lib.hid (bel_on' B1.out hb)
    clear hb
    go_wp2
    go_ret
    exact ⟨rfl, B2.out⟩
  | true =>
    have LT := Lib.hid (hr rfl)
    clear hr
    have h60 : n ≤ 60 := by rw [← HN.out]; exact LT.out.len
    by_cases hfew : n < 1
    · have hfew' : (n : Int) = 0 := by omega
      go_wp2_with fail
      refine (CA.out _).mono ?_
      rintro e w2 ⟨rfl, hb⟩
      have B2 := Lib.hid (bel_on' B1.out hb)
      clear hb
      go_wp2
      go_ret
      exact ⟨rfl, B2.out⟩
    · have hfew' : ((n : Int) == 0) = false := by first | omega | (rw [beq_eq_false_iff_ne]; omega)
      go_wp2_with fail
      refine (CN.out _).mono ?_
      rintro e w2 ⟨p, rfl, hS, hb⟩
      have S2 := Lib.hid hS
      have B2 := Lib.hid (bel_on' B1.out hb)
      clear hS CN
      have CM2 := Lib.hid (CM.out _ p w2 S2.out (HL0.out.on B2.out) (fun b off e hl => by show b < w1.heap.size; have := rw_z HL0.out b off e (by rw [HN.out]; exact hl); have := B1.out.size; omega) LT.out)
      clear CM S2
      go_wp2_with fail
      refine CM2.out.mono ?_
      rintro e w3 ⟨v, o, B, ns, rfl, hS, hH, hR, hF⟩
      have hon : o.length = n := by rw [hF.len]; exact HN.out
      obtain ⟨g, cap, hv, hg⟩ := row_form hR (by omega)
      rw [hon] at hg hv
      have B3 := Lib.hid (B2.out.trans (hH.below B2.out.size (fun k hk => by show k < w1.heap.size; have := B1.out.size; omega)))
      obtain ⟨Z, hZ⟩ : ∃ Z, Zv (fun k => k < w1.heap.size) v = Z := ⟨_, rfl⟩
      have hzl : ∀ k, k < w1.heap.size → Z k := by rw [← hZ]; exact Zv_lt (fun k hk => hk)
      have hzg : Z g := by rw [← hZ, hv]; exact Or.inr rfl
      rw [hZ] at hS
      have HZL := Lib.hid (And.intro hzl hzg)
      have HF := Lib.hid hF
      have HG := Lib.hid hg
      have S3 := Lib.hid hS
      have WN := Lib.hid hS.wf
      subst hv
      clear CM2 hR hZ hzl hzg hH hF hg hS hon hb B2
      obtain ⟨m, hm⟩ : ∃ m, n = m + 1 := ⟨n - 1, by omega⟩
      have hw1 : IntKind.i64.wrap ((n : Int) - 1) = ((m : Nat) : Int) := by rw [IntKind.wrap_i64]; omega
      have hmn : m < n := by omega
      have Ff := Lib.hid (HF.out.at_ (i := m) (by rw [HN.out]; exact hmn))
      have g_1 := HG.out m hmn
      obtain ⟨f, hf⟩ : ∃ f, o.getD m 0 = f := ⟨_, rfl⟩
      rw [hf] at Ff g_1
      have LF := Lib.hid (show f < ns.length from Ff.out.1)
      have hl3 := Lib.hid HF.out.most
      clear hf HF HG hm Ff WN
      obtain ⟨R, hR⟩ : ∃ R, x % 6 = R := ⟨_, rfl⟩
      have hR5 : R ≤ 5 := by omega
      have hR' : (x : Int) % 6 = (R : Int) := by omega
      go_upto_region 11 with fail
      refine at_code (S := fun w => Blk w w3.heap.size [.int .u32 (fd (0) : Nat), .int .u32 (fs (0) : Nat), .int .u8 (fd (0) : Nat), .int .u16 (fx (0) : Nat), .int .u16 (fy (0) : Nat)] ∧ Below w3.heap.size w3 w ∧ w3.heap.size < w.heap.size) ⟨Blk.new _ _ [.int .u32 0, .int .u32 0, .int .u8 0, .int .u16 0, .int .u16 0], bel_al (Below.refl _ _) _, by simp⟩ (fun w4 hW => ?_)
      obtain ⟨hT, hb, hlt⟩ := hW
      have T4 := Lib.hid hT
      obtain ⟨Z4, hZ4⟩ : ∃ Z4 : Nat → Prop, (fun k => Z k ∨ k = w3.heap.size) = Z4 := ⟨_, rfl⟩
      have S4 := Lib.hid (show Sta Z4 p w4 262144 ns by rw [← hZ4]; exact S3.out.grow hb (Y := fun k => k = w3.heap.size) (fun k e => by rw [e]; exact ⟨Nat.le_refl _, hlt⟩))
      have HZ4 := Lib.hid (show (∀ k, k < W.heap.size → Z4 k) ∧ Z4 w3.heap.size by rw [← hZ4]; exact ⟨fun k hk => Or.inl (HZL.out.1 k (by have := B1.out.size; omega)), Or.inr rfl⟩)
      have NB := Lib.hid (show W.heap.size ≤ w3.heap.size from B3.out.size)
      have B4 := Lib.hid (bel_on' B3.out hb)
      generalize w3.heap.size = bl at *
      have I0 := Lib.hid (show Stp Z4 p bl W 0 f ns 0 0 w4 from ⟨S4.out, B4.out, T4.out, LF.out, by have := hl3.out; omega, wb_zero, fun h => absurd h (by omega)⟩)
      clear hT hb hlt hZ4 S3 B3 B1 HZL g_1 hw1 hmn hfew hfew' h60 S4 B4 T4 LF hl3
      as_aux_lemma =>
        go_wp2_with fail
        first | rw [hR'] | skip
        go_loopw [9, 60] (fun fv iv' wr => ∃ (q i : Nat) (nq : List Nd) (la' lb : Nat), fv = .int .i64 (q : Nat) ∧ iv' = .int .i64 (i : Nat) ∧ i ≤ R ∧ Hid (Stp Z4 p bl W i q nq la' lb wr)) (fun _ iv' _ => R - (intOf iv').toNat)
        case atStart => exact ⟨f, 0, ns, 0, 0, rfl, rfl, Nat.zero_le _, I0⟩
        case round =>
          clear I0
          obtain ⟨q, i, nq, la', lb, rfl, rfl, hile, HI⟩ := hrel
          obtain ⟨w10, rfl⟩ : ∃ w, w = wr := ⟨_, rfl⟩
          by_cases hiR : i < R
          · have hwi : IntKind.i64.wrap ((i : Int) + 1) = ((i + 1 : Nat) : Int) := by rw [IntKind.wrap_i64]; omega
            have S10 := Lib.hid HI.out.sta
            have B10 := Lib.hid HI.out.bel
            have T10 := Lib.hid HI.out.blk
            have WNq := Lib.hid HI.out.sta.wf
            have LQ := Lib.hid HI.out.lt
            have HWI := Lib.hid hwi
            have HIR := Lib.hid hiR
            clear hwi
            obtain ⟨c, hc⟩ : ∃ c, many (fun e => ev nq e q) = c := ⟨_, rfl⟩
            have CC := Lib.hid (sCount S10.out q LQ.out)
            rw [hc] at CC
            have HC := Lib.hid hc
            clear hc
            go_wp2_with fail
            refine (CC.out).mono ?_
            rintro e w11 ⟨rfl, hb⟩
            have S11 := Lib.hid (S10.out.on hb)
            have B11 := Lib.hid (bel_on' B10.out hb)
            have T11 := Lib.hid (T10.out.on hb)
            clear CC
            clear hb S10 B10 T10
            go_upto_region 15 with fail
            refine at_code (S := fun w => Blk w w11.heap.size [.int .u64 (hi c), .int .u64 (lo c)] ∧ Below w11.heap.size w11 w) ⟨Blk.new _ _ _, bel_al (Below.refl _ _) _⟩ (fun w12 hW => ?_)
            obtain ⟨hX, hb⟩ := hW
            have D12 := Lib.hid hX
            obtain ⟨Z5, hZ5⟩ : ∃ Z5 : Nat → Prop, (fun k => Z4 k ∨ k = w11.heap.size) = Z5 := ⟨_, rfl⟩
            have S12 := Lib.hid (show Sta Z5 p w12 262144 nq by rw [← hZ5]; exact S11.out.grow hb (Y := fun k => k = w11.heap.size) (fun k e => by rw [e]; exact ⟨Nat.le_refl _, hX.lt⟩))
            have HZ5 := Lib.hid (show (∀ k, Z4 k → Z5 k) ∧ Z5 w11.heap.size by rw [← hZ5]; exact ⟨fun k hk => Or.inl hk, Or.inr rfl⟩)
            clear hZ5
            have B12 := Lib.hid (bel_on' B11.out hb)
            have T12 := Lib.hid (T11.out.on hb)
            clear hX hb S11 B11 T11
            by_cases q0 : q = 0
            · subst q0
              have c0 : c = 0 := by rw [← HC.out]; exact (many_zero WNq.out LQ.out).2 rfl
              subst c0
              go_wp2_with fail
              refine ((show Calls Try.prog 15 #[.pointer (some ⟨p, 0, none⟩), .int .i64 0] w12 fun e w' => e = .returned (.tuple #[hv 0 0 0 0 0, .bool false]) ∧ Below w12.heap.size w12 w' from sLeast_none S12.out 0 (fun _ => rfl))).mono ?_
              rintro e w13 ⟨rfl, hb⟩
              have S13 := Lib.hid (S12.out.on hb)
              have B13 := Lib.hid (bel_on' B12.out hb)
              have T13 := Lib.hid (T12.out.on hb)
              have D13 := Lib.hid (D12.out.on hb)
              clear hb S12 B12 T12 D12
              go_upto_region 16 with fail
              refine at_code (S := fun w => Blk w w13.heap.size [.int .u32 0, .int .u32 0, .int .u8 0, .int .u16 0, .int .u16 0] ∧ Below w13.heap.size w13 w) ⟨Blk.new _ _ _, bel_al (Below.refl _ _) _⟩ (fun w14 hW => ?_)
              obtain ⟨hX, hb⟩ := hW
              have X14 := Lib.hid hX
              have S14 := Lib.hid (S13.out.on hb)
              have B14 := Lib.hid (bel_on' B13.out hb)
              have T14 := Lib.hid (T13.out.on hb)
              have D14 := Lib.hid (D13.out.on hb)
              clear hX hb S13 B13 T13 D13
              go_wp2_with fail
              refine (CA.out w14).mono ?_
              rintro e w15 ⟨rfl, hb⟩
              have S15 := Lib.hid (S14.out.on hb)
              have B15 := Lib.hid (bel_on' B14.out hb)
              have T15 := Lib.hid (T14.out.on hb)
              have D15 := Lib.hid (D14.out.on hb)
              clear hb S14 B14 T14 D14
              have CZ := Lib.hid (zero_any 0 w15)
              obtain ⟨d_0, d_1⟩ := cells2 D15.out
              go_wp2_with fail
              refine (CZ.out).mono ?_
              rintro e w16 ⟨rfl, hb⟩
              have S16 := Lib.hid (S15.out.on hb)
              have B16 := Lib.hid (bel_on' B15.out hb)
              have T16 := Lib.hid (T15.out.on hb)
              have D16 := Lib.hid (D15.out.on hb)
              clear CZ d_0 d_1
              clear hb S15 B15 T15 D15
              go_wp2
              go_ret
              exact ⟨rfl, B16.out⟩
            · have q0i : ¬ (q : Int) = 0 := by omega
              have U1 := Lib.hid (utm_of WNq.out false LQ.out q0)
              have CLe := Lib.hid (sLeast S12.out q LQ.out q0)
              obtain ⟨a1, ha1⟩ : ∃ x, (uW nq false q 104).1 = x := ⟨_, rfl⟩
              obtain ⟨b1, hb1⟩ : ∃ x, (uW nq false q 104).2 = x := ⟨_, rfl⟩
              rw [ha1, hb1] at U1 CLe
              clear ha1 hb1
              go_wp2_with fail
              refine (CLe.out).mono ?_
              rintro e w13 ⟨rfl, hb⟩
              have S13 := Lib.hid (S12.out.on hb)
              have B13 := Lib.hid (bel_on' B12.out hb)
              have T13 := Lib.hid (T12.out.on hb)
              have D13 := Lib.hid (D12.out.on hb)
              clear CLe
              clear hb S12 B12 T12 D12
              go_upto_region 16 with fail
              refine at_code (S := fun w => Blk w w13.heap.size [.int .u32 (fd (a1) : Nat), .int .u32 (fs (a1) : Nat), .int .u8 (fd (b1) : Nat), .int .u16 (fx (b1) : Nat), .int .u16 (fy (b1) : Nat)] ∧ Below w13.heap.size w13 w) ⟨Blk.new _ _ _, bel_al (Below.refl _ _) _⟩ (fun w14 hW => ?_)
              obtain ⟨hX, hb⟩ := hW
              have X14 := Lib.hid hX
              have HNE := Lib.hid (show bl < w13.heap.size from T13.out.lt)
              obtain ⟨Z6, hZ6⟩ : ∃ Z6 : Nat → Prop, (fun k => Z5 k ∨ k = w13.heap.size) = Z6 := ⟨_, rfl⟩
              have S14 := Lib.hid (show Sta Z6 p w14 262144 nq by rw [← hZ6]; exact S13.out.grow hb (Y := fun k => k = w13.heap.size) (fun k e => by rw [e]; exact ⟨Nat.le_refl _, hX.lt⟩))
              have HZ6 := Lib.hid (show (∀ k, Z4 k → Z6 k) ∧ Z6 w11.heap.size ∧ Z6 w13.heap.size by rw [← hZ6]; exact ⟨fun k hk => Or.inl (HZ5.out.1 k hk), Or.inl HZ5.out.2, Or.inr rfl⟩)
              clear hZ6
              have B14 := Lib.hid (bel_on' B13.out hb)
              have T14 := Lib.hid (T13.out.on hb)
              have D14 := Lib.hid (D13.out.on hb)
              clear hX hb S13 B13 T13 D13
              go_upto_region 18 with fail
              go_cut [90] (fun u wx => u = .bool false ∧ Below w14.heap.size w14 wx)
              case first =>
                by_cases i0 : i = 0
                · subst i0
                  as_aux_lemma =>
                    go_wp2_with fail
                    go_meet
                    exact ⟨rfl, Below.refl _ _⟩
                · have i0' : 0 < i := by omega
                  have hlt := HI.out.lst (by omega) a1 b1 U1.out.wb U1.out.mem
                  have CK := Lib.hid (comp_w la' lb a1 b1 HI.out.wb U1.out.wb w14)
                  generalize cmpW la' lb a1 b1 = cc at *
                  have cc' : ¬ (0 : Int) ≤ cc := by omega
                  obtain ⟨t_0, t_1, t_2, t_3, t_4⟩ : _ ∧ _ ∧ _ ∧ _ ∧ _ := ⟨T14.out.1 0 _ rfl, T14.out.1 1 _ rfl, T14.out.1 2 _ rfl, T14.out.1 3 _ rfl, T14.out.1 4 _ rfl⟩
                  obtain ⟨x_0, x_1, x_2, x_3, x_4⟩ : _ ∧ _ ∧ _ ∧ _ ∧ _ := ⟨X14.out.1 0 _ rfl, X14.out.1 1 _ rfl, X14.out.1 2 _ rfl, X14.out.1 3 _ rfl, X14.out.1 4 _ rfl⟩
                  as_aux_lemma =>
                    go_wp2_with fail
                    refine CK.out.mono ?_
                    rintro e w15 ⟨rfl, hb⟩
                    have B := Lib.hid hb
                    clear hb CK
                    go_wp2_with fail
                    go_meet
                    exact ⟨congrArg Value.bool (decide_eq_false (by omega)), B.out⟩
              case rest =>
                obtain ⟨rfl, hb⟩ := hcut
                obtain ⟨w15, rfl⟩ : ∃ w : World, w = wc := ⟨_, rfl⟩
                have S15 := Lib.hid (S14.out.on hb)
                have B15 := Lib.hid (bel_on' B14.out hb)
                have T15 := Lib.hid (T14.out.on hb)
                have D15 := Lib.hid (D14.out.on hb)
                have X15 := Lib.hid (X14.out.on hb)
                have LB := Lib.hid (show W.heap.size ≤ w15.heap.size from B15.out.size)
                clear hb S14 B14 T14 D14 X14
                obtain ⟨H, hH⟩ : ∃ H, tE a1 b1 = H := ⟨_, rfl⟩
                have HH := Lib.hid hH
                have KB : Hid (∀ (k : Nat) w, Calls Try.prog 30 #[hw a1 b1, .int .i64 (k : Nat)] w fun e w' => e = .returned (.bool (H k)) ∧ Below w.heap.size w w') := Lib.hid (fun k w => by
                  have h1 := bits_w a1 b1 (k : Int) U1.out.wb w
                  have h4 : (decide ((a1 &&& ma (k : Int)) ≠ 0) || decide ((b1 &&& mb (k : Int)) ≠ 0)) = H k := by rw [← HH.out]; rfl
                  rw [h4] at h1
                  exact h1)
                clear hH
                go_wp2_with fail
                go_loopw [15, 91] (fun sv iv' wr => ∃ (v : Value) (k : Nat), sv = v ∧ iv' = .int .i64 (k : Nat) ∧ k ≤ 104 ∧ Hid (Below w15.heap.size w15 wr) ∧ Hid (wr.ownsRow w15.heap.size 65 2 v k (litCells (natL (lits 0 H k)))) ∧ Hid (k = 0 → v = .slice none 0 0)) (fun _ iv' _ => 104 - (intOf iv').toNat)
                case atStart => exact ⟨.slice none 0 0, 0, rfl, rfl, Nat.zero_le _, Lib.hid (Below.refl _ _), Lib.hid (World.ownsRow_nil _ _ _ _), Lib.hid (fun _ => rfl)⟩
                case round =>
                  obtain ⟨v, k, rfl, rfl, hk, hB, hO, hV⟩ := hrel
                  by_cases hkn : k < 104
                  · have hwk : IntKind.i64.wrap ((k : Int) + 1) = ((k + 1 : Nat) : Int) := by rw [IntKind.wrap_i64]; omega
                    have hki : (k : Int) < 104 := by omega
                    have XR := Lib.hid (X15.out.on hB.out)
                    obtain ⟨x_0, x_1, x_2, x_3, x_4⟩ : _ ∧ _ ∧ _ ∧ _ ∧ _ := ⟨XR.out.1 0 _ rfl, XR.out.1 1 _ rfl, XR.out.1 2 _ rfl, XR.out.1 3 _ rfl, XR.out.1 4 _ rfl⟩
                    go_wp2_with fail
                    refine (KB.out k _).mono ?_
                    rintro e w16 ⟨rfl, hb⟩
                    have hz : w15.heap.size ≤ w16.heap.size := Nat.le_trans hB.out.size hb.size
                    have hown := row_below hO.out hb
                    have HOw := Lib.hid hown
                    have HB16 := Lib.hid (bel_on' hB.out hb)
                    clear x_0 x_1 x_2 x_3 x_4 XR hb
                    obtain ⟨i0, hi0, hz0, hz1, hz2⟩ := einfo_parts infoLit
                    go_wp2_with (at_builtin; refine wpList_append_own _ rfl _ _ 62 rfl w15.heap.size 65 i0 (.agg #[.int .i64 0, .bool false]) 2 16 Try.underlying62 hi0 hz0 hz1 hz2 rfl (by decide) _ _ _ rfl (hown.alloc _) ⟨w16.heap.size, 0, none⟩ 1 1 [.int .i64 (k : Nat), .bool (H k)] rfl rfl ?c1 ?c2 ?c3 ?c4 ?c5 ?_)
                    case c1 =>
                      intro j x hj
                      match j, hj with
                      | 0, hj => simp at hj; subst hj; simp [Addr.add, go_sem]
                      | 1, hj => simp at hj; subst hj; simp [Addr.add, go_sem]
                    case c2 => intro x hx; simp at hx; rcases hx with rfl | rfl <;> rfl
                    case c3 => unfold maxLen; omega
                    case c4 => omega
                    case c5 => simp; omega
                    · intro v' w3 hown' hgrow _
                      have HO' := Lib.hid hown'
                      have HG := Lib.hid hgrow
                      clear hown' hgrow hown
                      go_wp2_with fail
                      have hB2 : Below w15.heap.size w15 w3 := (bel_al HB16.out _).grown HG.out (by have := HB16.out.size; simp; omega) (fun g e => by have := (World.ownsRow.lt HOw.out g e).1; omega)
                      refine ⟨⟨v', k + 1, rfl, by first | rfl | rw [hwk], by omega, Lib.hid hB2, Lib.hid ?_, Lib.hid (fun e => by omega)⟩, by simp [intOf] <;> omega⟩
                      rw [lits_succ, natL_append, litCells_append, Nat.zero_add]
                      exact HO'.out
                  · have hkn' : k = 104 := by omega
                    subst hkn'
                    have hrise := lits_rise 0 H 104 (by omega)
                    have LA : Hid (LitAt wr w15.heap.size u15 (lits 0 H 104)) := Lib.hid (by
                        obtain ⟨g, cap, h1, h2, h3, h4⟩ := litC_of hO.out (by rw [natL_len, lits_len]) (by omega)
                        exact Or.inr ⟨g, cap, by rw [lits_len]; exact h1, h2, h3, h4⟩)
                    obtain ⟨va, vn, vc, hvs⟩ := LA.out.slice
                    obtain ⟨qx, ns1, hcf, hon, hqx⟩ := cF_big (most := 262144) WNq.out hrise.1 hrise.2 (B := fun _ => true) (fun _ _ _ _ => rfl) (fun _ _ => rfl) (k := 104) (by rw [lits_len]; omega) (by have := HI.out.few; have := HIR.out; omega)
                    have hq1 : q < ns1.length := by have := hon.ext.len; have := LQ.out; omega
                    obtain ⟨rr, ns2, hjf, hw2, hx2, hl2, hs2⟩ := join_one hon.wf H (f := q) (x := qx) (most := 262144) hq1 hqx.1 (fun e => by rw [hqx.2, lits_one]) (by have := HI.out.few; have := HIR.out; have := hon.len; omega)
                    have EV := Lib.hid (show ∀ e, ev ns2 e rr = (ev nq e q && !(one H e)) from fun e => by rw [hs2.2]; show (ev ns1 e q && !(one H e)) = _; rw [hon.ext.ev WNq.out hon.wf e q LQ.out])
                    have LEN := Lib.hid (show ns2.length ≤ 184322 + 250 * (i + 1) from by have := HI.out.few; have := hon.len; omega)
                    have LR := Lib.hid hs2.1
                    have CNT := Lib.hid (many_less WNq.out LQ.out (h := H) (by rw [← HH.out]; exact U1.out.mem))
                    have SZ := Lib.hid (S15.out.grow hB.out (Y := fun i => w15.heap.size ≤ i ∧ i < wr.heap.size) (fun i h => h))
                    have CC := Lib.hid (sCubeAt SZ.out hrise LA.out (Hold.of (Below.refl _ _)) (fun g h1 h2 => Or.inr ⟨h1, h2⟩))
                    rw [hcf] at CC
                    have BW := Lib.hid (bel_on' B15.out hB.out)
                    have TW := Lib.hid (T15.out.on hB.out)
                    have DW := Lib.hid (D15.out.on hB.out)
                    have XW := Lib.hid (X15.out.on hB.out)
                    obtain ⟨ZZ, hZZ⟩ : ∃ ZZ : Nat → Prop, (fun i => Z6 i ∨ (w15.heap.size ≤ i ∧ i < wr.heap.size)) = ZZ := ⟨_, rfl⟩
                    have HZZ := Lib.hid (show (∀ k, Z4 k → ZZ k) ∧ ZZ w11.heap.size ∧ ZZ w13.heap.size by rw [← hZZ]; exact ⟨fun k hk => Or.inl (HZ6.out.1 k hk), Or.inl HZ6.out.2.1, Or.inl HZ6.out.2.2⟩)
                    rw [hZZ] at CC
                    have LX := Lib.hid hqx.1
                    have LQ1 := Lib.hid hq1
                    have HJF := Lib.hid hjf
                    have WN2 := Lib.hid hw2
                    subst hvs
                    clear hcf hon hqx hq1 hjf hw2 hx2 hl2 hs2 SZ LA hZZ hrise S15 B15 T15 D15 X15 hB hO hV
                    replace CC : Hid (Calls Try.prog 31 #[.pointer (some ⟨p, 0, none⟩), .slice va vn vc] wr fun e w' => e = .returned (.tuple #[.int .i64 (qx : Nat), .int .i64 0]) ∧ Sta ZZ p w' 262144 ns1 ∧ Hold ZZ wr w') := CC
                    go_wp2_with fail
                    refine CC.out.mono ?_
                    rintro e w16 ⟨rfl, hS, hH⟩
                    have B16 := Lib.hid (BW.out.trans (hH.below BW.out.size (fun k hk => HZZ.out.1 k (HZ4.out.1 k hk))))
                    have T16 := Lib.hid (hH.blk (HZZ.out.1 _ HZ4.out.2) TW.out)
                    have D16 := Lib.hid (hH.blk HZZ.out.2.1 DW.out)
                    have X16 := Lib.hid (hH.blk HZZ.out.2.2 XW.out)
                    have CJ := Lib.hid (sJoin hS 3 q qx (by omega) LQ1.out LX.out)
                    rw [HJF.out] at CJ
                    clear hS hH CC BW TW DW XW
                    replace CJ : Hid (Calls Try.prog 18 #[.pointer (some ⟨p, 0, none⟩), .int .i64 3, .int .i64 (q : Nat), .int .i64 (qx : Nat)] w16 fun e w' => e = .returned (.tuple #[.int .i64 (rr : Nat), .int .i64 0]) ∧ Sta ZZ p w' 262144 ns2 ∧ Hold ZZ w16 w') := CJ
                    go_wp2_with fail
                    refine CJ.out.mono ?_
                    rintro e w17 ⟨rfl, hS, hH⟩
                    have S17 := Lib.hid hS
                    have B17 := Lib.hid (B16.out.trans (hH.below B16.out.size (fun k hk => HZZ.out.1 k (HZ4.out.1 k hk))))
                    have T17 := Lib.hid (hH.blk (HZZ.out.1 _ HZ4.out.2) T16.out)
                    have D17 := Lib.hid (hH.blk HZZ.out.2.1 D16.out)
                    have X17 := Lib.hid (hH.blk HZZ.out.2.2 X16.out)
                    clear hS hH CJ B16 T16 D16 X16 HJF
                    obtain ⟨c1, hc1⟩ : ∃ c1, many (fun e => ev ns2 e rr) = c1 := ⟨_, rfl⟩
                    have hcc : c1 + 1 = c := by
                      have h : many (fun e => ev ns2 e rr) = many (fun e => ev nq e q && !(one H e)) := congrArg many (funext EV.out)
                      rw [hc1] at h
                      rw [h, CNT.out]
                      exact HC.out
                    have CQ := Lib.hid (fun (w : World) (hb : Below w17.heap.size w17 w) => sCount (S17.out.on hb) rr LR.out)
                    rw [hc1] at CQ
                    have CO := Lib.hid (fun (w : World) => sof1 w)
                    have CAd := Lib.hid (fun (w : World) => sadd c1 1 c (by rw [← hc1]; exact many_lt _) (by decide) hcc (by rw [← HC.out]; exact many_lt _) w)
                    have CI := Lib.hid (fun (w : World) (hb : Below w17.heap.size w17 w) => sIn_w (S17.out.on hb) rr a1 b1 U1.out.wb LR.out)
                    have e0 : ev ns2 (tE a1 b1) rr = false := by rw [EV.out, HH.out, one_iff.2 (fun _ _ => rfl)]; simp
                    rw [e0] at CI
                    clear e0 hc1 hcc
                    go_upto_region 28 with fail
                    refine wp_region_noPanic ?_
                    refine wp_region_along (S := fun w' => Below w17.heap.size w17 w' ∧ Blk w' w11.heap.size [.int .u64 (hi c), .int .u64 (lo c)] ∧ Blk w' w13.heap.size [.int .u32 (fd (a1) : Nat), .int .u32 (fs (a1) : Nat), .int .u8 (fd (b1) : Nat), .int .u16 (fx (b1) : Nat), .int .u16 (fy (b1) : Nat)]) ([(0, true), (1, true), (2, true), (3, true), (4, true), (5, true), (6, true), (7, true), (8, true), (12, true), (9, false), (10, false), (11, false), (13, true), (14, true), (15, true)] ++ ([(16, true), (17, true), (18, true), (19, false), (20, true)])) (by kernel_rfl) (by as_aux_lemma => kernel_rfl) (by kernel_rfl) (by kernel_rfl) (alongPre_append _ _ _ (by as_aux_lemma => kernel_rfl) (by as_aux_lemma => kernel_rfl)) (by as_aux_lemma => kernel_rfl) (fun _ _ _ _ _ h => h) ⟨(Below.refl _ _).drew, D17.out.drew, X17.out.drew⟩ (fun hH => ?_)
                    simp only [List.cons_append, List.nil_append, stepsOf, pickOp]
                    iterate 10 (first | (refine along_skip (by rfl) ?_; try simp only [Act.put, List.setIfInBounds_toArray, List.set_cons_zero, List.set_cons_succ]) | (refine along_pure ?_ (by rfl) (fun w hSw => ?_) ?_; rotate_left; (obtain ⟨-, sd, sx⟩ := hSw; obtain ⟨s_0, s_1⟩ := cells2 sd; obtain ⟨x_0, x_1, x_2, x_3, x_4⟩ : _ ∧ _ ∧ _ ∧ _ ∧ _ := ⟨sx.1 0 _ rfl, sx.1 1 _ rfl, sx.1 2 _ rfl, sx.1 3 _ rfl, sx.1 4 _ rfl⟩; go_simp; try with_reducible rfl); try simp only [Act.put, List.setIfInBounds_toArray, List.set_cons_zero, List.set_cons_succ]))
                    refine along_bar (fun K hK => ?_)
                    go_simp
                    refine (CQ.out _ hH.1).mono ?_
                    rintro e w' ⟨rfl, hbx⟩
                    try go_wp2_with fail
                    refine hK.out _ _ ⟨bel_on' hH.1 hbx, hH.2.1.on hbx, hH.2.2.on hbx⟩ (fun hH' => ?_)
                    clear hK K hH
                    have hH := hH'
                    clear hH' hbx
                    try simp only [Act.put, List.setIfInBounds_toArray, List.set_cons_zero, List.set_cons_succ]
                    refine along_bar (fun K hK => ?_)
                    go_simp
                    refine (CO.out _).mono ?_
                    rintro e w' ⟨rfl, hbx⟩
                    try go_wp2_with fail
                    refine hK.out _ _ ⟨bel_on' hH.1 hbx, hH.2.1.on hbx, hH.2.2.on hbx⟩ (fun hH' => ?_)
                    clear hK K hH
                    have hH := hH'
                    clear hH' hbx
                    try simp only [Act.put, List.setIfInBounds_toArray, List.set_cons_zero, List.set_cons_succ]
                    refine along_bar (fun K hK => ?_)
                    go_simp
                    refine (CAd.out _).mono ?_
                    rintro e w' ⟨rfl, hbx⟩
                    try go_wp2_with fail
                    refine hK.out _ _ ⟨bel_on' hH.1 hbx, hH.2.1.on hbx, hH.2.2.on hbx⟩ (fun hH' => ?_)
                    clear hK K hH
                    have hH := hH'
                    clear hH' hbx
                    try simp only [Act.put, List.setIfInBounds_toArray, List.set_cons_zero, List.set_cons_succ]
                    iterate 6 (first | (refine along_skip (by rfl) ?_; try simp only [Act.put, List.setIfInBounds_toArray, List.set_cons_zero, List.set_cons_succ]) | (refine along_pure ?_ (by rfl) (fun w hSw => ?_) ?_; rotate_left; (obtain ⟨-, sd, sx⟩ := hSw; obtain ⟨s_0, s_1⟩ := cells2 sd; obtain ⟨x_0, x_1, x_2, x_3, x_4⟩ : _ ∧ _ ∧ _ ∧ _ ∧ _ := ⟨sx.1 0 _ rfl, sx.1 1 _ rfl, sx.1 2 _ rfl, sx.1 3 _ rfl, sx.1 4 _ rfl⟩; go_simp; try with_reducible rfl); try simp only [Act.put, List.setIfInBounds_toArray, List.set_cons_zero, List.set_cons_succ]))
                    refine along_bar (fun K hK => ?_)
                    go_simp
                    refine (CI.out _ hH.1).mono ?_
                    rintro e w' ⟨rfl, hbx⟩
                    try go_wp2_with fail
                    refine hK.out _ _ ⟨bel_on' hH.1 hbx, hH.2.1.on hbx, hH.2.2.on hbx⟩ (fun hH' => ?_)
                    clear hK K hH
                    have hH := hH'
                    clear hH' hbx
                    try simp only [Act.put, List.setIfInBounds_toArray, List.set_cons_zero, List.set_cons_succ]
                    iterate 1 (first | (refine along_skip (by rfl) ?_; try simp only [Act.put, List.setIfInBounds_toArray, List.set_cons_zero, List.set_cons_succ]) | (refine along_pure ?_ (by rfl) (fun w hSw => ?_) ?_; rotate_left; (obtain ⟨-, sd, sx⟩ := hSw; obtain ⟨s_0, s_1⟩ := cells2 sd; obtain ⟨x_0, x_1, x_2, x_3, x_4⟩ : _ ∧ _ ∧ _ ∧ _ ∧ _ := ⟨sx.1 0 _ rfl, sx.1 1 _ rfl, sx.1 2 _ rfl, sx.1 3 _ rfl, sx.1 4 _ rfl⟩; go_simp; try with_reducible rfl); try simp only [Act.put, List.setIfInBounds_toArray, List.set_cons_zero, List.set_cons_succ]))
                    refine along_end (NoPanic.normal ?_)
                    obtain ⟨w18, rfl⟩ : ∃ w : World, w = w' := ⟨_, rfl⟩
                    have S18 := Lib.hid (S17.out.on hH.1)
                    have B18 := Lib.hid (bel_on' B17.out hH.1)
                    have T18 := Lib.hid (T17.out.on hH.1)
                    have X18 := Lib.hid hH.2.2
                    clear hH S17 B17 T17 D17 X17 CQ CO CAd CI
                    go_upto_region 30 with fail
                    have hne : bl ≠ w13.heap.size := by have := HNE.out; omega
                    refine wp_region_noPanic ?_
                    refine wp_region_along (S := fun w' => Blk w' w13.heap.size [.int .u32 (fd (a1) : Nat), .int .u32 (fs (a1) : Nat), .int .u8 (fd (b1) : Nat), .int .u16 (fx (b1) : Nat), .int .u16 (fy (b1) : Nat)]) ([(0, true), (1, true), (2, true), (3, false)]) (by kernel_rfl) (by as_aux_lemma => kernel_rfl) (by kernel_rfl) (by kernel_rfl) (by as_aux_lemma => kernel_rfl) (by as_aux_lemma => kernel_rfl) (fun _ _ _ _ _ h => h) X18.out.drew (fun hH => ?_)
                    simp only [stepsOf, pickOp]
                    iterate 3 (first | (refine along_skip (by rfl) ?_; try simp only [Act.put, List.setIfInBounds_toArray, List.set_cons_zero, List.set_cons_succ]) | (refine along_pure ?_ (by rfl) (fun w hSw => ?_) ?_; rotate_left; (obtain ⟨x_0, x_1, x_2, x_3, x_4⟩ : _ ∧ _ ∧ _ ∧ _ ∧ _ := ⟨hSw.1 0 _ rfl, hSw.1 1 _ rfl, hSw.1 2 _ rfl, hSw.1 3 _ rfl, hSw.1 4 _ rfl⟩; go_simp; try with_reducible rfl); try simp only [Act.put, List.setIfInBounds_toArray, List.set_cons_zero, List.set_cons_succ]))
                    clear hH
                    obtain ⟨wd, hwd⟩ : ∃ x, x = w18.drew := ⟨_, rfl⟩
                    have TD := Lib.hid (show Blk wd bl [.int .u32 (fd (la') : Nat), .int .u32 (fs (la') : Nat), .int .u8 (fd (lb) : Nat), .int .u16 (fx (lb) : Nat), .int .u16 (fy (lb) : Nat)] by rw [hwd]; exact T18.out.drew)
                    have XD := Lib.hid (show Blk wd w13.heap.size [.int .u32 (fd (a1) : Nat), .int .u32 (fs (a1) : Nat), .int .u8 (fd (b1) : Nat), .int .u16 (fx (b1) : Nat), .int .u16 (fy (b1) : Nat)] by rw [hwd]; exact X18.out.drew)
                    have SD := Lib.hid (show Sta ZZ p wd 262144 ns2 by rw [hwd]; exact S18.out.on (Below.refl _ _).drew)
                    have BD := Lib.hid (show Below W.heap.size W wd by rw [hwd]; exact B18.out.drew)
                    rw [← hwd]
                    clear hwd S18 B18 T18 X18
                    refine along_bar (fun K hK => ?_)
                    obtain ⟨t_0, t_1, t_2, t_3, t_4⟩ : _ ∧ _ ∧ _ ∧ _ ∧ _ := ⟨TD.out.1 0 _ rfl, TD.out.1 1 _ rfl, TD.out.1 2 _ rfl, TD.out.1 3 _ rfl, TD.out.1 4 _ rfl⟩
                    obtain ⟨z_0, z_1, z_2, z_3, z_4⟩ : _ ∧ _ ∧ _ ∧ _ ∧ _ := ⟨TD.out.2 0 _ rfl, TD.out.2 1 _ rfl, TD.out.2 2 _ rfl, TD.out.2 3 _ rfl, TD.out.2 4 _ rfl⟩
                    go_simp
                    have XN := Lib.hid (far5 XD.out (c := bl) hne (.int .u32 (fd a1 : Nat)) (.int .u32 (fs a1 : Nat)) (.int .u8 (fd b1 : Nat)) (.int .u16 (fx b1 : Nat)) (.int .u16 (fy b1 : Nat)))
                    have FIN := Lib.hid (show Sta Z4 p _ 262144 ns2 ∧ Below W.heap.size W _ ∧ Blk _ bl [.int .u32 (fd (a1) : Nat), .int .u32 (fs (a1) : Nat), .int .u8 (fd (b1) : Nat), .int .u16 (fx (b1) : Nat), .int .u16 (fy (b1) : Nat)] from ⟨hld_set (SD.out.less HZZ.out.1) HZ4.out.2 (.int .u32 (fd a1 : Nat)) (.int .u32 (fs a1 : Nat)) (.int .u8 (fd b1 : Nat)) (.int .u16 (fx b1 : Nat)) (.int .u16 (fy b1 : Nat)), bel5 (c := bl) BD.out NB.out (.int .u32 (fd a1 : Nat)) (.int .u32 (fs a1 : Nat)) (.int .u8 (fd b1 : Nat)) (.int .u16 (fx b1 : Nat)) (.int .u16 (fy b1 : Nat)), Blk.five TD.out (.int .u32 (fd a1 : Nat)) (.int .u32 (fs a1 : Nat)) (.int .u8 (fd b1 : Nat)) (.int .u16 (fx b1 : Nat)) (.int .u16 (fy b1 : Nat))⟩)
                    refine hK.out _ _ XN.out (fun _ => ?_)
                    clear hK K t_0 t_1 t_2 t_3 t_4 z_0 z_1 z_2 z_3 z_4
                    try simp only [Act.put, List.setIfInBounds_toArray, List.set_cons_zero, List.set_cons_succ]
                    refine along_end (NoPanic.normal ?_)
                    go_upto_region 31 with fail
                    refine at_code (S := fun w => Sta Z4 p w 262144 ns2 ∧ Below W.heap.size W w ∧ Blk w bl [.int .u32 (fd (a1) : Nat), .int .u32 (fs (a1) : Nat), .int .u8 (fd (b1) : Nat), .int .u16 (fx (b1) : Nat), .int .u16 (fy (b1) : Nat)]) FIN.out (fun w19 hW => ?_)
                    have HW := Lib.hid hW
                    have hwi := HWI.out
                    clear hW FIN XN SD BD TD XD hne
                    go_wp2_with fail
                    have LST : ∀ a' b', WB a' b' → ev ns2 (tE a' b') rr = true → cmpW a1 b1 a' b' < 0 := fun a' b' hw' he => by
                      rw [EV.out, Bool.and_eq_true] at he
                      have h1 := U1.out.least hw' he.1
                      rcases Int.lt_or_eq_of_le h1 with h2 | h2
                      · exact h2
                      · exfalso
                        obtain ⟨h3, h4⟩ := (cmpW_zero _ _ _ _).1 h2
                        subst h3 h4
                        have h5 := he.2
                        rw [HH.out, one_iff.2 (fun _ _ => rfl)] at h5
                        exact absurd h5 (by simp)
                    refine ⟨⟨rr, i + 1, ns2, a1, b1, rfl, by first | rfl | rw [hwi], by omega, Lib.hid ⟨HW.out.1, HW.out.2.1, HW.out.2.2, LR.out, LEN.out, U1.out.wb, fun _ => LST⟩⟩, by simp [intOf] <;> omega⟩
          · have hki : ¬ (i : Int) < (R : Int) := by omega
            have B10 := Lib.hid HI.out.bel
            go_wp2_with fail
            refine (CA.out _).mono ?_
            rintro e w11 ⟨rfl, hb⟩
            have B11 := Lib.hid (bel_on' B10.out hb)
            clear hb
            go_wp2
            go_ret
            exact ⟨rfl, B11.out⟩
end Go.Proofs.Yteiemcnjcdjglaa
/- Expressions and small numbers that are handed in. -/
namespace Go.Proofs.Yteiemcnjcdjglaa
open Go.ChangeShapes Go.WideShapes Go.ChangeAt Go.RowKit Go.Joins Go.Deep Go.WideElems Go.Maps

set_option maxRecDepth 100000 in
theorem exs_open' {H : Type} {enc : TypeId × Value → H} {w : World} {sp : Nat → Bool} {held : Bool} {b0 : Nat} {v : Value} {d : DataW H} {p : List MemPlace} (hv : Value.okWide Try.prog w .any b0 22 v) (h : DataW.Trod enc Try.prog w 0 sp held 22 v d p) : ∃ L la lc, Exs w v L la lc := by
  obtain ⟨a, len, cap, rfl⟩ := okWide_slice Try.underlying22 hv
  exact exs_open h ⟨_, by simp [Value.cells], rfl⟩
theorem nat_u8 {x : Int} (h : (Lit.int .u8 x).wf = true) : ∃ i : Nat, i < 256 ∧ x = (i : Nat) := by
  rw [Lit.wf, Bool.and_eq_true, decide_eq_true_eq, decide_eq_true_eq, show IntKind.u8.min = 0 from rfl, show IntKind.u8.max = 255 from rfl] at h
  exact ⟨x.toNat, by omega, by omega⟩
end Go.Proofs.Yteiemcnjcdjglaa
