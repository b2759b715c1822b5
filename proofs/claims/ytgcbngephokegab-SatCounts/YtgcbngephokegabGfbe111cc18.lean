/- Texts joined, in their order: C5, RE. -/
import Derived.Test.YtgcbngephokegabGC4
import Derived.Test.YtgcbngephokegabG4a99f1b385
import Derived.Test.YtgcbngephokegabG8b7a4b7559
/- SatCounts: the walk. (gen/mkc5.py) -/
namespace Go.Proofs.Ytgcbngephokegab
open Go.RowKit Wd
set_option linter.unusedVariables false
set_option linter.unusedSimpArgs false

theorem ckeepB {W w : World} (h : Below W.heap.size W w) : Below W.heap.size W w ∧ ∀ b o, (W.cell? ⟨b, o, none⟩).isSome = true → w.cell? ⟨b, o, none⟩ = W.cell? ⟨b, o, none⟩ :=
  ⟨h, fun b o hc => h.cell (p := ⟨b, o, none⟩) (cell_lt hc)⟩
theorem hcells_one {a b a' b' : Nat} (h : WB a b) (h' : WB a' b') (he : ∀ j, j < 104 → tE a b j = tE a' b' j) : hcells (a, b) = hcells (a', b') := by
  obtain ⟨n1, n2, n3, n4, n5⟩ := back_nums (fun j => tb a b j) a b h (fun j _ => rfl)
  obtain ⟨m1, m2, m3, m4, m5⟩ := back_nums (fun j => tb a b j) a' b' h' (fun j hj => he j hj)
  unfold hcells
  rw [← n1, ← n2, ← n3, ← n4, ← n5, m1, m2, m3, m4, m5]
/-- How many a set has, by its ways. -/
theorem many_up {L : List Ex} (hok : OkL 0 L) (h7 : (varsL L).length ≤ 7) (i : Nat) : upI (cW (phi L i) (varsL L) (2 ^ (varsL L).length)) (104 - (varsL L).length : Nat) = many (phi L i) := by
  obtain ⟨h1, h2⟩ := many_cntW (varsL_rise L) (varsL_lt L) (sem_dep hok i)
  have h3 := many_le (phi L i)
  have h4 : many (phi L i) = cW (phi L i) (varsL L) (2 ^ (varsL L).length) * 2 ^ (104 - (varsL L).length) := h2
  unfold upI
  rw [if_pos (by omega), Int.toNat_natCast]
  unfold upN
  rw [← h4, Nat.mod_eq_of_lt]
  have : (2 : Nat) ^ 104 < MM := by decide
  omega
theorem sW_many {L : List Ex} (hok : OkL 0 L) (i : Nat) : sW (phi L i) (varsL L) (2 ^ (varsL L).length) = true ↔ many (phi L i) ≠ 0 := by
  obtain ⟨h1, h2⟩ := many_cntW (varsL_rise L) (varsL_lt L) (sem_dep hok i)
  have h4 : many (phi L i) = cntW (phi L i) (varsL L) (fun _ => false) (2 ^ (varsL L).length) * 2 ^ (104 - (varsL L).length) := h2
  rw [h4]
  have hp := Nat.two_pow_pos (104 - (varsL L).length)
  unfold sW cntW
  rw [List.any_eq_true]
  constructor
  · rintro ⟨x, hx, hq⟩
    have := (List.countP_pos_iff (p := fun w => phi L i (envW (varsL L) w (fun _ => false)))).2 ⟨x, hx, hq⟩
    exact Nat.pos_iff_ne_zero.1 (Nat.mul_pos this hp)
  · intro hne
    have : 0 < (List.range (2 ^ (varsL L).length)).countP (fun w => phi L i (envW (varsL L) w (fun _ => false))) := by
      refine Nat.pos_of_ne_zero (fun e => hne (by rw [e, Nat.zero_mul]))
    exact List.countP_pos_iff.1 this
/-- The least one of a set is the first way's header. -/
theorem least_is {L : List Ex} (hok : OkL 0 L) {ns : List Nd} (hw : WF ns) {f i : Nat} (hf : f < ns.length) (h0 : f ≠ 0) (he : ∀ e, ev ns e f = phi L i e) : hcells (uW ns false f 104) = hcells (lW (phi L i) (varsL L) (2 ^ (varsL L).length)) := by
  obtain ⟨e1, e2⟩ := ut_end hw false hf h0
  obtain ⟨u1, u2⟩ := uW_ok ns false f 104 (Nat.le_refl _)
  obtain ⟨w0, hw0, ha, hb, hc⟩ := least_way (φ := phi L i) (varsL_rise L) (varsL_lt L) (sem_dep hok i) (h := (ut ns false f 104).2) (by rw [← he]; exact e1)
    (fun e hq j hj hk hne => (e2 e (by rw [he]; exact hq) j hj hk hne).1)
  have hl : lW (phi L i) (varsL L) (2 ^ (varsL L).length) = wayW (varsL L) w0 := by
    unfold lW
    have : (List.range (2 ^ (varsL L).length)).find? (fun x => phi L i (envW (varsL L) x (fun _ => false))) = some w0 := by
      rw [List.find?_range_eq_some]
      exact ⟨hb, List.mem_range.2 hw0, fun j hj => by rw [hc j hj]; rfl⟩
    rw [this]
  rw [hl]
  obtain ⟨v1, v2⟩ := wayW_ok (varsL_lt L) w0
  exact hcells_one u1 v1 (fun j hj => (congrFun u2 j).trans ((ha j hj).symm.trans (congrFun v2 j).symm))
set_option maxRecDepth 100000 in
set_option maxHeartbeats 16000000 in
theorem scounts_any (L : List Ex) (la : Option Addr) (lc : Nat) (W : World) (hL : Rw W la (L.flatMap Ex.cells)) (hlen : L.length ≤ maxLen) (hcap : L.length ≤ lc) (hrng : ∀ x ∈ L, -9223372036854775808 ≤ x.v ∧ x.v ≤ 9223372036854775807) :
    Calls Try.prog 3 #[.slice la L.length lc] W fun e w' => e = .returned (.bool true) ∧ Below W.heap.size W w' := by
  have CA := Lib.hid (fun w => sawake_any w)
  have CN := Lib.hid (fun w => sNew 262144 (by omega) (by omega) w)
  have CM := Lib.hid (fun (Z : Nat → Prop) (p : Nat) (w : World) (h : Sta Z p w 262144 [bot, top]) (hr : Rw w la (L.flatMap Ex.cells)) (hZ : ∀ b off, la = some ⟨b, off, none⟩ → 0 < L.length → Z b) (lt : Lt L) => make_big (lc := lc) h hr hZ lt)
  have CL := Lib.hid (fun (w : World) (hb : Below W.heap.size W w) => light8_any L la lc w (hL.on hb) hlen hrng)
  have CC := Lib.hid (fun (w : World) (hr : Rw w la (L.flatMap Ex.cells)) (lt : Lt8 L) => rcounts_any L la lc w hr lt.lt.ok lt.len lt.few hcap)
  have HL0 := Lib.hid hL
  obtain ⟨n, hn⟩ : ∃ n, L.length = n := ⟨_, rfl⟩
  rw [hn] at CL CM CC hlen ⊢
  have HN := Lib.hid hn
  clear hn hL hrng hcap
  go_enter Try.func3, Try.ntmps3
  go_wp2_with fail
  refine (CL.out W (Below.refl _ _)).mono ?_
  rintro e w1 ⟨r, rfl, hr, hb⟩
  have B1 := Lib.hid (hb)
  clear hb CL
  cases r with
  | false =>
    clear hr
    go_wp2_with fail
    refine (CA.out _).mono ?_
    rintro e w2 ⟨rfl, hb⟩
    have B2 := Lib.hid (bel_on' B1.out hb)
    clear hb
    go_wp2
    go_ret
    exact ⟨rfl, B2.out⟩
  | true =>
    have LT := Lib.hid (hr rfl)
    clear hr
    have h30 : n ≤ 30 := by rw [← HN.out]; exact LT.out.len
    go_wp2_with fail
    refine (CN.out _).mono ?_
    rintro e w2 ⟨p, rfl, hS, hb⟩
    have S2 := Lib.hid hS
    have B2 := Lib.hid (bel_on' B1.out hb)
    clear hS CN
    have CM2 := Lib.hid (CM.out _ p w2 S2.out (HL0.out.on B2.out) (fun b off e hl => by show b < w1.heap.size; have := rw_z HL0.out b off e (by rw [HN.out]; exact hl); have := B1.out.size; omega) LT.out.lt)
    clear CM S2
    go_wp2_with fail
    refine CM2.out.mono ?_
    rintro e w3 ⟨v, o, B, ns, rfl, hS, hH, hR, hF⟩
    have hon : o.length = n := by rw [hF.len]; exact HN.out
    have hvs : ∃ va vc, v = .slice va n vc := by
      rcases hR.2 with ⟨e1, e2⟩ | ⟨g, cap, cur, e1, -⟩
      · exact ⟨none, 0, by rw [e1, ← hon, e2]⟩
      · exact ⟨_, cap, by rw [e1, hon]⟩
    have hcs : 0 < n → ∃ g, (∃ cap, v = .slice (some ⟨g, 0, none⟩) n cap) ∧ ∀ i, i < n → w3.cell? ⟨g, i, none⟩ = some (.int .i64 ((o.getD i 0 : Nat) : Int)) := fun q => by
      obtain ⟨g, cap, hv, hg⟩ := row_form hR (by omega)
      rw [hon] at hg hv
      exact ⟨g, ⟨cap, hv⟩, hg⟩
    have B3 := Lib.hid (B2.out.trans (hH.below B2.out.size (fun k hk => by show k < w1.heap.size; have := B1.out.size; omega)))
    obtain ⟨Z, hZ⟩ : ∃ Z, Zv (fun k => k < w1.heap.size) v = Z := ⟨_, rfl⟩
    rw [hZ] at hS
    obtain ⟨va, vc, rfl⟩ := hvs
    have HF := Lib.hid hF
    have HCS := Lib.hid hcs
    have S3 := Lib.hid hS
    have WN := Lib.hid hS.wf
    clear CM2 hR hZ hH hF hS hon hb B2 hcs
    have CC3 := Lib.hid (CC.out w3 (HL0.out.on B3.out) LT.out)
    clear CC
    go_wp2_with fail
    refine CC3.out.mono ?_
    rintro e w4 ⟨g1, g2, g3, rfl, t1, t2, t3, hb⟩
    have T1 := Lib.hid t1
    have T2 := Lib.hid t2
    have T3 := Lib.hid t3
    have S4 := Lib.hid (S3.out.on hb)
    have B4 := Lib.hid (bel_on' B3.out hb)
    have K4 := Lib.hid hb
    clear t1 t2 t3 hb S3 CC3
    go_wp2_with fail
    go_loopw [48] (fun iv' wr => ∃ i : Nat, iv' = .int .i64 (i : Nat) ∧ i ≤ n ∧ Hid (Below w4.heap.size w4 wr)) (fun iv' _ => n - (intOf iv').toNat)
    case atStart => exact ⟨0, rfl, Nat.zero_le _, Lib.hid (Below.refl _ _)⟩
    case round =>
      obtain ⟨i, rfl, hile, K⟩ := hrel
      by_cases hin : i < n
      · have hwi : IntKind.i64.wrap ((i : Int) + 1) = ((i + 1 : Nat) : Int) := by rw [IntKind.wrap_i64]; omega
        obtain ⟨g, ⟨cap, hvg⟩, hg⟩ := HCS.out (by omega)
        cases hvg
        have hc0 : wr.cell? ⟨g, i, none⟩ = some (.int .i64 ((o.getD i 0 : Nat) : Int)) := by
          have h1 := hg i hin
          have hlt := cell_lt (w := w3) (b := g) (o := i) (by rw [h1]; rfl)
          have hk := K4.out.trans (K.out.mono K4.out.size)
          exact (hk.cell (p := ⟨g, i, none⟩) hlt).trans h1
        have Ff := HF.out.at_ (i := i) (by rw [HN.out]; exact hin)
        obtain ⟨f, hf⟩ : ∃ f, o.getD i 0 = f := ⟨_, rfl⟩
        rw [hf] at Ff hc0
        have hev : ∀ e, ev ns e f = phi L i e := Ff.2
        have hmany : many (fun e => ev ns e f) = many (phi L i) := many_eq hev
        have hmz := many_zero WN.out Ff.1
        have hup := many_up LT.out.lt.ok LT.out.few i
        have hsw := sW_many LT.out.lt.ok i
        have S5 := Lib.hid (S4.out.on K.out)
        obtain ⟨c, hcm⟩ : ∃ c, many (phi L i) = c := ⟨_, rfl⟩
        obtain ⟨sb, hsb⟩ : ∃ b, sW (phi L i) (varsL L) (2 ^ (varsL L).length) = b := ⟨_, rfl⟩
        have hfz : f = 0 ↔ c = 0 := by rw [← hmz, hmany, hcm]
        have hsbc : sb = true ↔ c ≠ 0 := by rw [← hsb, hsw, hcm]
        have CCt := Lib.hid (fun w (h : Sta Z p w 262144 ns) => sCount h f Ff.1)
        rw [hmany, hcm] at CCt
        have CLs : Hid (∃ hp : Nat × Nat, (∀ w, Sta Z p w 262144 ns → Calls Try.prog 10 #[.pointer (some ⟨p, 0, none⟩), .int .i64 (f : Nat)] w fun e w' => e = .returned (.tuple #[hw hp.1 hp.2, .bool sb]) ∧ Below w.heap.size w w') ∧ hcells hp = hcells (lW (phi L i) (varsL L) (2 ^ (varsL L).length))) := Lib.hid (by
          by_cases h0 : f = 0
          · have hs0 : sb = false := by
              cases sb with
              | false => rfl
              | true => exact absurd (hfz.1 h0) (hsbc.1 rfl)
            refine ⟨(0, 0), fun w h => ?_, ?_⟩
            · rw [hs0]; exact sLeast_none h f (fun _ => by rw [h0]; rfl)
            · rw [lW_none (by rw [hsb]; exact hs0)]
          · have hs0 : sb = true := hsbc.2 (fun q => h0 (hfz.2 q))
            exact ⟨uW ns false f 104, fun w h => by rw [hs0]; exact sLeast h f Ff.1 h0, least_is LT.out.lt.ok WN.out Ff.1 h0 hev⟩)
        have CZ : Hid (∀ w, Calls Try.prog 11 #[cn c] w fun e w' => e = .returned (.bool (!sb)) ∧ Below w.heap.size w w') := Lib.hid (fun w => by
          have := zero_any c w
          have e : decide (c = 0) = !sb := by
            by_cases q : c = 0
            · rw [decide_eq_true q]; cases sb with
              | false => rfl
              | true => exact absurd q (hsbc.1 rfl)
            · rw [decide_eq_false q, hsbc.2 q]; rfl
          rw [e] at this; exact this)
        obtain ⟨⟨h1, h2⟩, hcls, hhp⟩ := CLs.out
        have CLS := Lib.hid hcls
        have HHP := Lib.hid hhp
        have HUP : Hid (upI (cW (phi L i) (varsL L) (2 ^ (varsL L).length)) (104 - (varsL L).length : Nat) = c) := Lib.hid (by rw [hup]; exact hcm)
        have HSB := Lib.hid hsb
        clear CLs hcls hhp hf Ff hev hmany hmz hup hsw hcm hsb hfz hsbc hg
        go_wp2_with fail
        refine (CCt.out wr S5.out).mono ?_
        rintro e w5 ⟨rfl, hb⟩
        have S6 := Lib.hid (S5.out.on hb)
        have K6 := Lib.hid (K.out.trans (hb.mono K.out.size))
        obtain ⟨b12, hb12⟩ : ∃ b, w5.heap.size = b := ⟨_, rfl⟩
        clear hb S5 CCt hc0
        go_upto_region 14 with fail
        refine at_code (S := fun w' => Blk w' b12 [.int .u64 (hi c), .int .u64 (lo c)] ∧ Sta Z p w' 262144 ns ∧ Below w4.heap.size w4 w') ⟨by rw [← hb12]; exact Blk.new w5 39 [.int .u64 (hi c), .int .u64 (lo c)], S6.out.on (bel_al (Below.refl _ _) _), K6.out.alloc K6.out.size _⟩ (fun w6 h6 => ?_)
        have X6 := Lib.hid h6.1
        have S7 := Lib.hid h6.2.1
        have K7 := Lib.hid h6.2.2
        clear h6 S6 K6 hb12
        go_wp2_with fail
        refine (CLS.out w6 S7.out).mono ?_
        rintro e w7 ⟨rfl, hb⟩
        have X7 := Lib.hid (X6.out.on hb)
        have K8 := Lib.hid (K7.out.trans (hb.mono K7.out.size))
        obtain ⟨b13, hb13⟩ : ∃ b, w7.heap.size = b := ⟨_, rfl⟩
        clear hb X6 S7 K7 CLS
        go_upto_region 15 with fail
        refine at_code (S := fun w' => Blk w' b13 (hcells (h1, h2)) ∧ Blk w' b12 [.int .u64 (hi c), .int .u64 (lo c)] ∧ Below w4.heap.size w4 w') ⟨by rw [← hb13]; exact Blk.new w7 44 (hcells (h1, h2)), X7.out.on (bel_al (Below.refl _ _) _), K8.out.alloc K8.out.size _⟩ (fun w8 h8 => ?_)
        have X8 := Lib.hid h8.2.1
        have K9 := Lib.hid h8.2.2
        have a_0 := h8.2.1.1 0 _ rfl
        have a_1 := h8.2.1.1 1 _ rfl
        have hh8 := h8.1
        rw [HHP.out] at hh8
        obtain ⟨d_0, d_1, d_2, d_3, d_4⟩ : _ ∧ _ ∧ _ ∧ _ ∧ _ := ⟨hh8.1 0 _ rfl, hh8.1 1 _ rfl, hh8.1 2 _ rfl, hh8.1 3 _ rfl, hh8.1 4 _ rfl⟩
        obtain ⟨u_0, -⟩ := (T1.out.on K9.out) i 0 _ hin rfl
        obtain ⟨u_1, -⟩ := (T1.out.on K9.out) i 1 _ hin rfl
        rw [HUP.out] at u_0 u_1
        rw [Nat.add_zero] at u_0
        have tt2 := fun k v (hv : (hcells (lW (phi L i) (varsL L) (2 ^ (varsL L).length)))[k]? = some v) => ((T2.out.on K9.out) i k v hin hv).1
        obtain ⟨l_0, l_1, l_2, l_3, l_4⟩ : _ ∧ _ ∧ _ ∧ _ ∧ _ := ⟨tt2 0 _ rfl, tt2 1 _ rfl, tt2 2 _ rfl, tt2 3 _ rfl, tt2 4 _ rfl⟩
        rw [Nat.add_zero] at l_0
        obtain ⟨s_0, -⟩ := (T3.out.on K9.out) i 0 _ hin rfl
        rw [Nat.mul_one, Nat.add_zero, HSB.out] at s_0
        obtain ⟨lp, hlp⟩ : ∃ q, lW (phi L i) (varsL L) (2 ^ (varsL L).length) = q := ⟨_, rfl⟩
        rw [hlp] at d_0 d_1 d_2 d_3 d_4 l_0 l_1 l_2 l_3 l_4
        obtain ⟨q0, hq0⟩ : ∃ q, ((fd lp.1 : Nat) : Int) = q := ⟨_, rfl⟩
        obtain ⟨q1, hq1⟩ : ∃ q, ((fs lp.1 : Nat) : Int) = q := ⟨_, rfl⟩
        obtain ⟨q2, hq2⟩ : ∃ q, ((fd lp.2 : Nat) : Int) = q := ⟨_, rfl⟩
        obtain ⟨q3, hq3⟩ : ∃ q, ((fx lp.2 : Nat) : Int) = q := ⟨_, rfl⟩
        obtain ⟨q4, hq4⟩ : ∃ q, ((fy lp.2 : Nat) : Int) = q := ⟨_, rfl⟩
        obtain ⟨chi, hchi⟩ : ∃ q, hi c = q := ⟨_, rfl⟩
        obtain ⟨clo, hclo⟩ : ∃ q, lo c = q := ⟨_, rfl⟩
        rw [hq0] at d_0 l_0
        rw [hq1] at d_1 l_1
        rw [hq2] at d_2 l_2
        rw [hq3] at d_3 l_3
        rw [hq4] at d_4 l_4
        have CZ' := CZ
        unfold cn at CZ'
        rw [hchi, hclo] at CZ'
        rw [hchi] at a_0 u_0
        rw [hclo] at a_1 u_1
        clear CZ
        have CZ := CZ'
        have hsn : (sb != sb) = false := by simp
        have hsn2 : (sb != !(!sb)) = false := by simp
        clear CZ' h8 hh8 tt2 hlp hq0 hq1 hq2 hq3 hq4 hchi hclo hb13 X7 K8 K
        refine wp_region_noPanic ?_
        refine wp_region_along (S := fun w' => Below w8.heap.size w8 w' ∧ ∀ b o, (w8.cell? ⟨b, o, none⟩).isSome = true → w'.cell? ⟨b, o, none⟩ = w8.cell? ⟨b, o, none⟩) ([(0, true), (1, true), (2, true), (3, true), (4, true), (5, true), (6, true), (7, true), (8, true), (9, true), (10, true), (11, true), (12, true), (13, true), (14, true), (15, true)] ++ ([(16, true), (17, true), (18, true), (19, true), (20, true), (21, true), (22, true), (23, true), (24, true), (25, true), (26, true), (27, true), (28, true), (29, true), (30, true), (31, true)] ++ ([(32, true), (33, true), (34, true), (35, true), (36, true), (37, false), (38, true), (39, true), (40, true)]))) (by kernel_rfl) (by as_aux_lemma => kernel_rfl) (by kernel_rfl) (by kernel_rfl) (alongPre_append _ _ _ (by as_aux_lemma => kernel_rfl) (alongPre_append _ _ _ (by as_aux_lemma => kernel_rfl) (by as_aux_lemma => kernel_rfl))) (by as_aux_lemma => kernel_rfl) (fun _ _ _ _ _ h => h) (ckeepB (Below.refl _ _).drew) (fun hH => ?_)
        simp only [List.cons_append, List.nil_append, stepsOf, pickOp]
        iterate 37 (first | (refine along_skip (by rfl) ?_; try simp only [Act.put, List.setIfInBounds_toArray, List.set_cons_zero, List.set_cons_succ]) | (refine along_pure ?_ (by rfl) (fun w hSw => ?_) ?_; rotate_left; ((try dsimp only at hSw); go_simp; try with_reducible rfl); try simp only [Act.put, List.setIfInBounds_toArray, List.set_cons_zero, List.set_cons_succ]))
        refine along_bar (fun K hK => ?_)
        go_simp
        refine (CZ.out _).mono ?_
        rintro e w' ⟨rfl, hbx⟩
        try go_wp2_with fail
        refine hK.out _ _ (ckeepB (bel_on' hH.1 hbx)) (fun hH' => ?_)
        clear hK K hH
        have hH := hH'
        clear hH'
        clear hbx
        try simp only [Act.put, List.setIfInBounds_toArray, List.set_cons_zero, List.set_cons_succ]
        iterate 3 (first | (refine along_skip (by rfl) ?_; try simp only [Act.put, List.setIfInBounds_toArray, List.set_cons_zero, List.set_cons_succ]) | (refine along_pure ?_ (by rfl) (fun w hSw => ?_) ?_; rotate_left; ((try dsimp only at hSw); go_simp; try with_reducible rfl); try simp only [Act.put, List.setIfInBounds_toArray, List.set_cons_zero, List.set_cons_succ]))
        refine along_end (NoPanic.normal ?_)
        have KF := Lib.hid (K9.out.trans (hH.1.mono K9.out.size))
        clear hH a_0 a_1 d_0 d_1 d_2 d_3 d_4 u_0 u_1 l_0 l_1 l_2 l_3 l_4 s_0 X8 K9
        go_wp2_with fail
        refine ⟨⟨i + 1, by first | rfl | rw [hwi], by omega, KF⟩, by simp [intOf] <;> omega⟩
      · obtain rfl : i = n := by omega
        have B5 := Lib.hid (bel_on' B4.out K.out)
        go_wp2_with fail
        refine (CA.out _).mono ?_
        rintro e w5 ⟨rfl, hb⟩
        have B6 := Lib.hid (bel_on' B5.out hb)
        clear hb
        go_wp2
        go_ret
        exact ⟨rfl, B6.out⟩
end Go.Proofs.Ytgcbngephokegab
/- Expressions and small numbers that are handed in. -/
namespace Go.Proofs.Ytgcbngephokegab
open Go.ChangeShapes Go.WideShapes Go.ChangeAt Go.RowKit Go.Joins Go.Deep Go.WideElems Go.Maps

set_option maxRecDepth 100000 in
theorem exs_open' {H : Type} {enc : TypeId × Value → H} {w : World} {sp : Nat → Bool} {held : Bool} {b0 : Nat} {v : Value} {d : DataW H} {p : List MemPlace} (hv : Value.okWide Try.prog w .any b0 22 v) (h : DataW.Trod enc Try.prog w 0 sp held 22 v d p) : ∃ L la lc, Exs w v L la lc := by
  obtain ⟨a, len, cap, rfl⟩ := okWide_slice Try.underlying22 hv
  exact exs_open h ⟨_, by simp [Value.cells], rfl⟩
theorem nat_u8 {x : Int} (h : (Lit.int .u8 x).wf = true) : ∃ i : Nat, i < 256 ∧ x = (i : Nat) := by
  rw [Lit.wf, Bool.and_eq_true, decide_eq_true_eq, decide_eq_true_eq, show IntKind.u8.min = 0 from rfl, show IntKind.u8.max = 255 from rfl] at h
  exact ⟨x.toNat, by omega, by omega⟩
end Go.Proofs.Ytgcbngephokegab
