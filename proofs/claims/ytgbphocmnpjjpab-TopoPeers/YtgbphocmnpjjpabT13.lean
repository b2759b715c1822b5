/- The ports that no link joins. -/
import Derived.Test.YtgbphocmnpjjpabT7
namespace Go.Proofs.Ytgbphocmnpjjpab
open Go.RowKit
set_option linter.unusedVariables false

/-- Of one device the ports below so many that are no end. -/
def freeN (E : List (Int × Int)) (d : Nat) : Nat → List Lk
  | 0 => []
  | n + 1 => freeN E d n ++ (if ((d : Int), (n : Int)) ∈ E then [] else [⟨d, n, -1, -1⟩])
/-- Of the devices below so many. -/
def freeA (E : List (Int × Int)) (ps : List Int) : Nat → List Lk
  | 0 => []
  | k + 1 => freeA E ps k ++ freeN E k (ps.getD k 0).toNat
theorem freeN_len (E : List (Int × Int)) (d : Nat) : ∀ n, (freeN E d n).length ≤ n
  | 0 => Nat.le_refl _
  | n + 1 => by
    have := freeN_len E d n
    rw [freeN, List.length_append]
    split
    · rw [List.length_nil]; omega
    · rw [List.length_cons, List.length_nil]; omega
theorem cntE_all : ∀ {ps : List Int}, cntE ps = 0 → ∀ k, k < ps.length → 0 ≤ ps.getD k 0 ∧ ps.getD k 0 ≤ 8
  | [], _, k, hk => by simp at hk
  | x :: r, h, k, hk => by
    rw [cntE] at h
    by_cases c : x < 0 ∨ 8 < x
    · rw [if_pos c] at h; exact absurd h (by omega)
    · rw [if_neg c] at h
      cases k with
      | zero => simp; omega
      | succ k => simpa using cntE_all h k (by simpa using hk)
theorem freeA_len (E : List (Int × Int)) {ps : List Int} (hc : cntE ps = 0) : ∀ k, k ≤ ps.length → (freeA E ps k).length ≤ 8 * k
  | 0, _ => by simp [freeA]
  | k + 1, hk => by
    have h1 := freeA_len E hc k (by omega)
    have h2 := freeN_len E k (ps.getD k 0).toNat
    have h3 := cntE_all hc k (by omega)
    rw [freeA, List.length_append]; omega
theorem lnkE_apart {ps : List Int} : ∀ {R seen : List (Int × Int)}, lnkE ps seen R = 0 → ∀ i e, R[i]? = some e → e ∉ seen ++ R.take i
  | [], _, _, i, e, he => by simp at he
  | x :: r, seen, h, i, e, he => by
    rw [lnkE] at h
    by_cases c1 : portE ps x.1 x.2 = 0
    · rw [if_neg (by omega)] at h
      by_cases c2 : x ∈ seen
      · rw [if_pos c2] at h; exact absurd h (by omega)
      · rw [if_neg c2] at h
        cases i with
        | zero => simp at he; subst he; simpa using c2
        | succ i =>
          have := lnkE_apart h i e (by simpa using he)
          simpa using this
    · rw [if_pos c1] at h; exact absurd h c1
theorem infoLnk : (Try.prog.info? 46).map (fun i => (i.zero, i.size, i.bytes)) = some (some (.agg #[.int .i64 0, .int .i64 0, .int .i64 0, .int .i64 0]), 4, 32) := by kernel_rfl
theorem wfI {k : Nat} (h : k < 1000000) : (Lit.int .i64 (k : Int)).wf = true := by
  simp [Lit.wf, IntKind.min, IntKind.max, IntKind.signed, IntKind.bits]; omega
theorem chk_parts {ps : List Int} {ls : List Lk} {es : List Ac} (h : TP.chk ⟨ps, ls, es⟩ = 0) : ps.length ≤ 16 ∧ cntE ps = 0 ∧ lnkE ps [] (ends ls) = 0 := by
  unfold TP.chk at h
  simp only at h
  by_cases c1 : ps.length < 1 ∨ 16 < ps.length ∨ 32 < es.length
  · rw [if_pos c1] at h; exact absurd h (by omega)
  · rw [if_neg c1] at h
    by_cases c2 : cntE ps = 0
    · rw [if_neg (by omega)] at h
      by_cases c3 : lnkE ps [] (ends ls) = 0
      · exact ⟨by omega, c2, c3⟩
      · rw [if_pos c3] at h; exact absurd h c3
    · rw [if_pos c2] at h; exact absurd h c2
set_option maxRecDepth 100000 in
set_option maxHeartbeats 8000000 in
theorem edges_any (ps : List Int) (ls : List Lk) (es : List Ac) (pa : Option Addr) (pc : Nat) (la : Option Addr) (lc : Nat) (aa : Option Addr) (ac : Nat) (w : World) (hol : ∀ c ∈ ls, c.Ok) (hok : ∀ c ∈ es, c.Ok) (hp : Rw w pa (ints ps)) (hl : Rw w la (ls.flatMap Lk.cells)) (he : Rw w aa (es.flatMap Ac.cells))
    (hlp : ps.length < 100000) (hll : ls.length < 100000) (hle : es.length < 100000) (hchk : TP.chk ⟨ps, ls, es⟩ = 0) :
    Calls Try.prog 19 #[tv pa ps.length pc la ls.length lc aa es.length ac] w fun e w' => ∃ a cap, e = .returned (.slice a (freeA (ends ls) ps ps.length).length cap) ∧ Rw w' a ((freeA (ends ls) ps ps.length).flatMap Lk.cells) ∧ Below w.heap.size w w' := by
  obtain ⟨h16, hcn, hln⟩ := chk_parts hchk
  have HA := Lib.hid (lnkE_apart hln)
  have HC := Lib.hid (cntE_all hcn)
  have HF := Lib.hid (freeA_len (ends ls) hcn)
  obtain ⟨W0, hW0⟩ : ∃ W0, w.alloc (Obj.cells (tc pa ps.length pc la ls.length lc aa es.length ac).toArray 26) = W0 := ⟨_, rfl⟩
  have hb0 : Below w.heap.size w W0 := by rw [← hW0]; exact cbelow_al (Below.refl _ _) _
  have T9 := Lib.hid (show Blk W0 w.heap.size (tc pa ps.length pc la ls.length lc aa es.length ac) by rw [← hW0]; exact Blk.new _ _ _)
  have P9 := Lib.hid (hp.on hb0)
  have L9 := Lib.hid (hl.on hb0)
  have BB9 := Lib.hid hb0
  have CC := Lib.hid (tcheck_any ps ls es pa pc la lc aa ac W0 hol hok (hp.on hb0) (hl.on hb0) (he.on hb0) hlp hll hle)
  rw [hchk] at CC
  have HO := Lib.hid hol
  clear hb0 hp hl he hol hok hchk hcn hln
  unfold tc at *
  unfold tv at *
  have hel := Lib.hid (ends_len ls)
  obtain ⟨na, hna⟩ : ∃ n, es.length = n := ⟨_, rfl⟩
  obtain ⟨nl, hnl⟩ : ∃ n, ls.length = n := ⟨_, rfl⟩
  obtain ⟨np, hnp⟩ : ∃ n, ps.length = n := ⟨_, rfl⟩
  rw [hna] at T9 hW0 CC ⊢
  rw [hnl] at T9 hW0 CC hll hel ⊢
  rw [hnp] at T9 hW0 CC h16 HC HF ⊢
  have HG := Lib.hid (ends_get ls)
  generalize ends ls = E at *
  have hmm := @run_makeMap Try.prog
  have hwo : IntKind.i64.wrap 1 = 1 := by rw [IntKind.wrap_i64]; omega
  go_enter Try.func19, Try.ntmps19
  go_upto_region 1 with fail
  clear hW0
  obtain ⟨t_0, t_1, t_2⟩ : _ ∧ _ ∧ _ := ⟨T9.out.1 0 _ rfl, T9.out.1 1 _ rfl, T9.out.1 2 _ rfl⟩
  go_wp2_with fail
  refine CC.out.mono ?_
  rintro e V0 ⟨rfl, hb⟩
  have T0 := Lib.hid (T9.out.on hb)
  have P0 := Lib.hid (P9.out.on hb)
  have L0 := Lib.hid (L9.out.on hb)
  have BB := Lib.hid (cbelow_on BB9.out hb)
  clear hb t_0 t_1 t_2 T9 P9 L9 BB9 CC
  obtain ⟨W0, rfl⟩ : ∃ W0 : World, W0 = V0 := ⟨_, rfl⟩
  go_upto_region 4 with fail
  refine at_code (S := fun W => MapS W W0.heap.size [] ∧ Below W0.heap.size W0 W) ⟨MapS.made _, (Below.refl _ _).alloc (Nat.le_refl _) _⟩ (fun W1 hW => ?_)
  obtain ⟨M0, hB0⟩ := hW
  have T1 := Lib.hid (T0.out.on hB0)
  obtain ⟨t_0, t_1, t_2⟩ : _ ∧ _ ∧ _ := ⟨T1.out.1 0 _ rfl, T1.out.1 1 _ rfl, T1.out.1 2 _ rfl⟩
  go_wp2_with fail
  clear t_0 t_1 t_2 hmm T1
  go_loopw [19] (fun iv wr => ∃ i : Nat, iv = .int .i64 i ∧ i ≤ nl ∧ Hid (Below W0.heap.size W0 wr) ∧ Hid (MapS wr W0.heap.size (E.take (2 * i)))) (fun iv _ => nl - (intOf iv).toNat)
  case atStart => exact ⟨0, rfl, Nat.zero_le _, Lib.hid hB0, Lib.hid M0⟩
  case round =>
    obtain ⟨i, rfl, hi, B1, M1⟩ := hrel
    have T1 := Lib.hid (T0.out.on B1.out)
    have L1 := Lib.hid (L0.out.on B1.out)
    clear M0 hB0
    by_cases hlt : i < nl
    · obtain ⟨c, hc1, hc2, hc3⟩ := drop_at (l := ls) (i := i) (by omega)
      obtain ⟨bb, off, rfl⟩ := L1.out.elemAd 3 (fun _ => rfl) hc1
      have k0 : wr.cell? ⟨bb, off + i * 4, none⟩ = some (.int .i64 c.a) := L1.out.elem 4 (fun _ => rfl) hc1 0 rfl
      have k1 : wr.cell? ⟨bb, off + i * 4 + 1, none⟩ = some (.int .i64 c.b) := L1.out.elem 4 (fun _ => rfl) hc1 1 rfl
      have k2 : wr.cell? ⟨bb, off + i * 4 + 2, none⟩ = some (.int .i64 c.c) := L1.out.elem 4 (fun _ => rfl) hc1 2 rfl
      have k3 : wr.cell? ⟨bb, off + i * 4 + 3, none⟩ = some (.int .i64 c.d) := L1.out.elem 4 (fun _ => rfl) hc1 3 rfl
      obtain ⟨g1, g2⟩ := HG.out i c hc1
      obtain ⟨ok1, ok2⟩ := HO.out c hc3
      have n1 := HA.out (2 * i) _ g1
      have n2 := HA.out (2 * i + 1) _ g2
      rw [List.nil_append] at n1 n2
      obtain ⟨ca, cb, cc, cd'⟩ := c
      simp only at *
      clear hc1 hc2 hc3 HO HG L0 HA HC HF
      have CT := Lib.hid (fun w => tends_any ca cb cc cd' w)
      have hw1 : IntKind.i64.wrap ((i : Int) + 1) = (i : Int) + 1 := by rw [IntKind.wrap_i64]; omega
      have ix0 : ∀ w : World, (Instr.index 62 (.agg #[.int .i64 ca, .int .i64 cb, .int .i64 cc, .int .i64 cd']) (.int .i64 0)).run Try.prog w = .ok (.agg #[.int .i64 ca, .int .i64 cb]) w := fun _ => by kernel_rfl
      have ix1 : ∀ w : World, (Instr.index 62 (.agg #[.int .i64 ca, .int .i64 cb, .int .i64 cc, .int .i64 cd']) (.int .i64 1)).run Try.prog w = .ok (.agg #[.int .i64 cc, .int .i64 cd']) w := fun _ => by kernel_rfl
      go_upto_region 7 with fail
      refine at_code (S := fun W => Blk W wr.heap.size [.int .i64 ca, .int .i64 cb, .int .i64 cc, .int .i64 cd'] ∧ Below wr.heap.size wr W) ⟨Blk.new _ _ _, cbelow_al (Below.refl _ _) _⟩ (fun W2 hW => ?_)
      obtain ⟨hN, hb⟩ := hW
      have B2 := Lib.hid (cbelow_on B1.out hb)
      have M2 := Lib.hid (M1.out.on hb)
      clear hb k0 k1 k2 k3 B1 M1 T1 L1
      obtain ⟨c_0, c_1, c_2, c_3⟩ : _ ∧ _ ∧ _ ∧ _ := ⟨hN.1 0 _ rfl, hN.1 1 _ rfl, hN.1 2 _ rfl, hN.1 3 _ rfl⟩
      go_wp2_with fail
      refine (CT.out _).mono ?_
      rintro e w3 ⟨rfl, hb⟩
      have B3 := Lib.hid (cbelow_on B2.out hb)
      have M3 := Lib.hid (M2.out.on hb)
      clear hb c_0 c_1 c_2 c_3 hN CT B2 M2
      go_wp2_with fail
      refine wp_loop_rounds 3 ?_
      rw [rounds_succ]
      go_upto_region 10 with fail
      refine at_code (S := fun W => Blk W w3.heap.size [.int .i64 ca, .int .i64 cb] ∧ Below w3.heap.size w3 W) ⟨Blk.new _ _ _, cbelow_al (Below.refl _ _) _⟩ (fun v0 hW => ?_)
      obtain ⟨hN, hb⟩ := hW
      have BM := Lib.hid (cbelow_on B3.out hb)
      have M := Lib.hid (M3.out.on hb)
      clear hb B3 M3
      obtain ⟨x_0, x_1⟩ : _ ∧ _ := ⟨hN.1 0 _ rfl, hN.1 1 _ rfl⟩
      clear hN
      have hek : eOk (ca, cb) := ok1
      have hmem : (ca, cb) ∉ (E.take (2 * i)) := n1
      have hSlen : (E.take (2 * i)).length < 1000000 := by rw [List.length_take]; omega
      have htk : E.take (2 * i + 1) = (E.take (2 * i)) ++ [(ca, cb)] := take_at g1
      skip
      refine wp_region_noPanic ?_
      refine wp_region_alongT (S := fun w' => ∀ b o, (v0.cell? ⟨b, o, none⟩).isSome = true → w'.cell? ⟨b, o, none⟩ = v0.cell? ⟨b, o, none⟩) (.pure 0 (.pure 1 (.b2 2 (.pure 3 (.b1 4 (.pure 5 (.b1 6 .done)))) 4 (.pure 5 (.b1 2 (.pure 3 (.b1 6 .done))))))) (by kernel_rfl) (by as_aux_lemma => kernel_rfl) (by decide) (by as_aux_lemma => kernel_rfl) (fun _ _ _ _ _ h => h) (fun _ _ _ => rfl) (fun hH => ?_)
      iterate 2 (refine T_pure ?_ (by rfl) (fun w hSw => ?_) ?_; rotate_left; ((try dsimp only at hSw); simp only [pickOp]; go_simp; try with_reducible rfl); try simp only [pickOp, Act.put, List.setIfInBounds_toArray, List.set_cons_zero, List.set_cons_succ])
      obtain ⟨wd, hwd⟩ : ∃ x, x = v0.drew := ⟨_, rfl⟩
      rw [← hwd] at hH ⊢
      have MD : MapS wd W0.heap.size (E.take (2 * i)) := by rw [hwd]; exact M.out.drew
      have cd : ∀ b o, (v0.cell? ⟨b, o, none⟩).isSome = true → wd.cell? ⟨b, o, none⟩ = v0.cell? ⟨b, o, none⟩ := by rw [hwd]; exact fun _ _ _ => rfl
      have BD : Below W0.heap.size W0 wd := by rw [hwd]; exact BM.out.drew
      clear hwd
      have hlk := mapS_lookup MD hek
      rw [if_neg hmem] at hlk
      obtain ⟨st, w1, w2, hme, hlk1, hes, MS, o1, o2⟩ := mapS_entry MD hek hmem hSlen
      obtain ⟨mes, mclk, mb, -⟩ := MD
      have s1 : ∀ b o, (v0.cell? ⟨b, o, none⟩).isSome = true → w1.cell? ⟨b, o, none⟩ = v0.cell? ⟨b, o, none⟩ := fun b o h => (o1.cell mb b o (by rw [cd b o h]; exact h)).trans (cd b o h)
      have s2 : ∀ b o, (v0.cell? ⟨b, o, none⟩).isSome = true → w2.cell? ⟨b, o, none⟩ = v0.cell? ⟨b, o, none⟩ := fun b o h => (o2.cell mb b o (by rw [cd b o h]; exact h)).trans (cd b o h)
      have B7 := Lib.hid (o2.below BD (Nat.le_refl _))
      have M7 := Lib.hid MS
      unfold kv at hlk hme hlk1
      clear MS o1 o2 mb BD
      refine T_b2 (fun K hK => ?_) (fun K hK => ?_)
      · simp only [pickOp]
        go_simp
        refine hK.out _ _ cd (fun hH' => ?_)
        clear hK K
        try simp only [pickOp, Act.put, List.setIfInBounds_toArray, List.set_cons_zero, List.set_cons_succ]
        refine T_pure ?_ (by rfl) (fun w hSw => ?_) ?_; rotate_left; ((try dsimp only at hSw); simp only [pickOp]; go_simp; try with_reducible rfl); try simp only [pickOp, Act.put, List.setIfInBounds_toArray, List.set_cons_zero, List.set_cons_succ]
        refine T_b1 (fun K hK => ?_)
        simp only [pickOp]
        go_simp
        refine hK.out _ _ s1 (fun hH' => ?_)
        clear hK K
        try simp only [pickOp, Act.put, List.setIfInBounds_toArray, List.set_cons_zero, List.set_cons_succ]
        refine T_pure ?_ (by rfl) (fun w hSw => ?_) ?_; rotate_left; ((try dsimp only at hSw); simp only [pickOp]; go_simp; try with_reducible rfl); try simp only [pickOp, Act.put, List.setIfInBounds_toArray, List.set_cons_zero, List.set_cons_succ]
        refine T_b1 (fun K hK => ?_)
        simp only [pickOp]
        go_simp
        refine hK.out _ _ s2 (fun hH' => ?_)
        clear hK K
        try simp only [pickOp, Act.put, List.setIfInBounds_toArray, List.set_cons_zero, List.set_cons_succ]
        refine T_done (NoPanic.normal ?_)
        clear hH' hlk hme hlk1 hes s1 s2 cd
        have M8 : Hid (MapS w2 W0.heap.size (E.take (2 * i + 1))) := by
          show MapS _ _ _
          rw [htk]; exact M7.out
        have B3 := B7
        have M3 := M8
        clear B7 M7 M8 htk hSlen M BM hek hmem x_0 x_1
        go_wp2_with fail
        rw [rounds_succ]
        go_upto_region 10 with fail
        refine at_code (S := fun W => Blk W w2.heap.size [.int .i64 cc, .int .i64 cd'] ∧ Below w2.heap.size w2 W) ⟨Blk.new _ _ _, cbelow_al (Below.refl _ _) _⟩ (fun v1 hW => ?_)
        obtain ⟨hN, hb⟩ := hW
        have BM := Lib.hid (cbelow_on B3.out hb)
        have M := Lib.hid (M3.out.on hb)
        clear hb B3 M3
        obtain ⟨x_0, x_1⟩ : _ ∧ _ := ⟨hN.1 0 _ rfl, hN.1 1 _ rfl⟩
        clear hN
        have hek : eOk (cc, cd') := ok2
        have hmem : (cc, cd') ∉ (E.take (2 * i + 1)) := n2
        have hSlen : (E.take (2 * i + 1)).length < 1000000 := by rw [List.length_take]; omega
        have htk : E.take (2 * i + 1 + 1) = (E.take (2 * i + 1)) ++ [(cc, cd')] := take_at g2
        skip
        refine wp_region_noPanic ?_
        refine wp_region_alongT (S := fun w' => ∀ b o, (v1.cell? ⟨b, o, none⟩).isSome = true → w'.cell? ⟨b, o, none⟩ = v1.cell? ⟨b, o, none⟩) (.pure 0 (.pure 1 (.b2 2 (.pure 3 (.b1 4 (.pure 5 (.b1 6 .done)))) 4 (.pure 5 (.b1 2 (.pure 3 (.b1 6 .done))))))) (by kernel_rfl) (by as_aux_lemma => kernel_rfl) (by decide) (by as_aux_lemma => kernel_rfl) (fun _ _ _ _ _ h => h) (fun _ _ _ => rfl) (fun hH => ?_)
        iterate 2 (refine T_pure ?_ (by rfl) (fun w hSw => ?_) ?_; rotate_left; ((try dsimp only at hSw); simp only [pickOp]; go_simp; try with_reducible rfl); try simp only [pickOp, Act.put, List.setIfInBounds_toArray, List.set_cons_zero, List.set_cons_succ])
        obtain ⟨wd, hwd⟩ : ∃ x, x = v1.drew := ⟨_, rfl⟩
        rw [← hwd] at hH ⊢
        have MD : MapS wd W0.heap.size (E.take (2 * i + 1)) := by rw [hwd]; exact M.out.drew
        have cd : ∀ b o, (v1.cell? ⟨b, o, none⟩).isSome = true → wd.cell? ⟨b, o, none⟩ = v1.cell? ⟨b, o, none⟩ := by rw [hwd]; exact fun _ _ _ => rfl
        have BD : Below W0.heap.size W0 wd := by rw [hwd]; exact BM.out.drew
        clear hwd
        have hlk := mapS_lookup MD hek
        rw [if_neg hmem] at hlk
        obtain ⟨st, w1, w2, hme, hlk1, hes, MS, o1, o2⟩ := mapS_entry MD hek hmem hSlen
        obtain ⟨mes, mclk, mb, -⟩ := MD
        have s1 : ∀ b o, (v1.cell? ⟨b, o, none⟩).isSome = true → w1.cell? ⟨b, o, none⟩ = v1.cell? ⟨b, o, none⟩ := fun b o h => (o1.cell mb b o (by rw [cd b o h]; exact h)).trans (cd b o h)
        have s2 : ∀ b o, (v1.cell? ⟨b, o, none⟩).isSome = true → w2.cell? ⟨b, o, none⟩ = v1.cell? ⟨b, o, none⟩ := fun b o h => (o2.cell mb b o (by rw [cd b o h]; exact h)).trans (cd b o h)
        have B7 := Lib.hid (o2.below BD (Nat.le_refl _))
        have M7 := Lib.hid MS
        unfold kv at hlk hme hlk1
        clear MS o1 o2 mb BD
        refine T_b2 (fun K hK => ?_) (fun K hK => ?_)
        · simp only [pickOp]
          go_simp
          refine hK.out _ _ cd (fun hH' => ?_)
          clear hK K
          try simp only [pickOp, Act.put, List.setIfInBounds_toArray, List.set_cons_zero, List.set_cons_succ]
          refine T_pure ?_ (by rfl) (fun w hSw => ?_) ?_; rotate_left; ((try dsimp only at hSw); simp only [pickOp]; go_simp; try with_reducible rfl); try simp only [pickOp, Act.put, List.setIfInBounds_toArray, List.set_cons_zero, List.set_cons_succ]
          refine T_b1 (fun K hK => ?_)
          simp only [pickOp]
          go_simp
          refine hK.out _ _ s1 (fun hH' => ?_)
          clear hK K
          try simp only [pickOp, Act.put, List.setIfInBounds_toArray, List.set_cons_zero, List.set_cons_succ]
          refine T_pure ?_ (by rfl) (fun w hSw => ?_) ?_; rotate_left; ((try dsimp only at hSw); simp only [pickOp]; go_simp; try with_reducible rfl); try simp only [pickOp, Act.put, List.setIfInBounds_toArray, List.set_cons_zero, List.set_cons_succ]
          refine T_b1 (fun K hK => ?_)
          simp only [pickOp]
          go_simp
          refine hK.out _ _ s2 (fun hH' => ?_)
          clear hK K
          try simp only [pickOp, Act.put, List.setIfInBounds_toArray, List.set_cons_zero, List.set_cons_succ]
          refine T_done (NoPanic.normal ?_)
          clear hH' hlk hme hlk1 hes s1 s2 cd
          have M8 : Hid (MapS w2 W0.heap.size (E.take (2 * (i + 1)))) := by
            show MapS _ _ _
            rw [show 2 * (i + 1) = 2 * i + 1 + 1 by omega, htk]; exact M7.out
          go_wp2_with fail
          rw [rounds_succ]
          go_wp2
          refine ⟨?_, ?_⟩
          · first | exact ⟨i + 1, by go_num, by omega, B7, M8⟩ | ((repeat apply Exists.intro); exact ⟨⟨i + 1, by go_num, by omega, B7, M8⟩, rfl⟩)
          · simp [intOf]; omega
        · simp only [pickOp]
          go_simp
          refine hK.out _ _ s1 (fun hH' => ?_)
          clear hK K
          try simp only [pickOp, Act.put, List.setIfInBounds_toArray, List.set_cons_zero, List.set_cons_succ]
          refine T_pure ?_ (by rfl) (fun w hSw => ?_) ?_; rotate_left; ((try dsimp only at hSw); simp only [pickOp]; go_simp; try with_reducible rfl); try simp only [pickOp, Act.put, List.setIfInBounds_toArray, List.set_cons_zero, List.set_cons_succ]
          refine T_b1 (fun K hK => ?_)
          simp only [pickOp]
          go_simp
          refine hK.out _ _ s1 (fun hH' => ?_)
          clear hK K
          try simp only [pickOp, Act.put, List.setIfInBounds_toArray, List.set_cons_zero, List.set_cons_succ]
          refine T_pure ?_ (by rfl) (fun w hSw => ?_) ?_; rotate_left; ((try dsimp only at hSw); simp only [pickOp]; go_simp; try with_reducible rfl); try simp only [pickOp, Act.put, List.setIfInBounds_toArray, List.set_cons_zero, List.set_cons_succ]
          refine T_b1 (fun K hK => ?_)
          simp only [pickOp]
          go_simp
          refine hK.out _ _ s2 (fun hH' => ?_)
          clear hK K
          try simp only [pickOp, Act.put, List.setIfInBounds_toArray, List.set_cons_zero, List.set_cons_succ]
          refine T_done (NoPanic.normal ?_)
          clear hH' hlk hme hlk1 hes s1 s2 cd
          have M8 : Hid (MapS w2 W0.heap.size (E.take (2 * (i + 1)))) := by
            show MapS _ _ _
            rw [show 2 * (i + 1) = 2 * i + 1 + 1 by omega, htk]; exact M7.out
          go_wp2_with fail
          rw [rounds_succ]
          go_wp2
          refine ⟨?_, ?_⟩
          · first | exact ⟨i + 1, by go_num, by omega, B7, M8⟩ | ((repeat apply Exists.intro); exact ⟨⟨i + 1, by go_num, by omega, B7, M8⟩, rfl⟩)
          · simp [intOf]; omega
      · simp only [pickOp]
        go_simp
        refine hK.out _ _ s1 (fun hH' => ?_)
        clear hK K
        try simp only [pickOp, Act.put, List.setIfInBounds_toArray, List.set_cons_zero, List.set_cons_succ]
        refine T_pure ?_ (by rfl) (fun w hSw => ?_) ?_; rotate_left; ((try dsimp only at hSw); simp only [pickOp]; go_simp; try with_reducible rfl); try simp only [pickOp, Act.put, List.setIfInBounds_toArray, List.set_cons_zero, List.set_cons_succ]
        refine T_b1 (fun K hK => ?_)
        simp only [pickOp]
        go_simp
        refine hK.out _ _ s1 (fun hH' => ?_)
        clear hK K
        try simp only [pickOp, Act.put, List.setIfInBounds_toArray, List.set_cons_zero, List.set_cons_succ]
        refine T_pure ?_ (by rfl) (fun w hSw => ?_) ?_; rotate_left; ((try dsimp only at hSw); simp only [pickOp]; go_simp; try with_reducible rfl); try simp only [pickOp, Act.put, List.setIfInBounds_toArray, List.set_cons_zero, List.set_cons_succ]
        refine T_b1 (fun K hK => ?_)
        simp only [pickOp]
        go_simp
        refine hK.out _ _ s2 (fun hH' => ?_)
        clear hK K
        try simp only [pickOp, Act.put, List.setIfInBounds_toArray, List.set_cons_zero, List.set_cons_succ]
        refine T_done (NoPanic.normal ?_)
        clear hH' hlk hme hlk1 hes s1 s2 cd
        have M8 : Hid (MapS w2 W0.heap.size (E.take (2 * i + 1))) := by
          show MapS _ _ _
          rw [htk]; exact M7.out
        have B3 := B7
        have M3 := M8
        clear B7 M7 M8 htk hSlen M BM hek hmem x_0 x_1
        go_wp2_with fail
        rw [rounds_succ]
        go_upto_region 10 with fail
        refine at_code (S := fun W => Blk W w2.heap.size [.int .i64 cc, .int .i64 cd'] ∧ Below w2.heap.size w2 W) ⟨Blk.new _ _ _, cbelow_al (Below.refl _ _) _⟩ (fun v1 hW => ?_)
        obtain ⟨hN, hb⟩ := hW
        have BM := Lib.hid (cbelow_on B3.out hb)
        have M := Lib.hid (M3.out.on hb)
        clear hb B3 M3
        obtain ⟨x_0, x_1⟩ : _ ∧ _ := ⟨hN.1 0 _ rfl, hN.1 1 _ rfl⟩
        clear hN
        have hek : eOk (cc, cd') := ok2
        have hmem : (cc, cd') ∉ (E.take (2 * i + 1)) := n2
        have hSlen : (E.take (2 * i + 1)).length < 1000000 := by rw [List.length_take]; omega
        have htk : E.take (2 * i + 1 + 1) = (E.take (2 * i + 1)) ++ [(cc, cd')] := take_at g2
        skip
        refine wp_region_noPanic ?_
        refine wp_region_alongT (S := fun w' => ∀ b o, (v1.cell? ⟨b, o, none⟩).isSome = true → w'.cell? ⟨b, o, none⟩ = v1.cell? ⟨b, o, none⟩) (.pure 0 (.pure 1 (.b2 2 (.pure 3 (.b1 4 (.pure 5 (.b1 6 .done)))) 4 (.pure 5 (.b1 2 (.pure 3 (.b1 6 .done))))))) (by kernel_rfl) (by as_aux_lemma => kernel_rfl) (by decide) (by as_aux_lemma => kernel_rfl) (fun _ _ _ _ _ h => h) (fun _ _ _ => rfl) (fun hH => ?_)
        iterate 2 (refine T_pure ?_ (by rfl) (fun w hSw => ?_) ?_; rotate_left; ((try dsimp only at hSw); simp only [pickOp]; go_simp; try with_reducible rfl); try simp only [pickOp, Act.put, List.setIfInBounds_toArray, List.set_cons_zero, List.set_cons_succ])
        obtain ⟨wd, hwd⟩ : ∃ x, x = v1.drew := ⟨_, rfl⟩
        rw [← hwd] at hH ⊢
        have MD : MapS wd W0.heap.size (E.take (2 * i + 1)) := by rw [hwd]; exact M.out.drew
        have cd : ∀ b o, (v1.cell? ⟨b, o, none⟩).isSome = true → wd.cell? ⟨b, o, none⟩ = v1.cell? ⟨b, o, none⟩ := by rw [hwd]; exact fun _ _ _ => rfl
        have BD : Below W0.heap.size W0 wd := by rw [hwd]; exact BM.out.drew
        clear hwd
        have hlk := mapS_lookup MD hek
        rw [if_neg hmem] at hlk
        obtain ⟨st, w1, w2, hme, hlk1, hes, MS, o1, o2⟩ := mapS_entry MD hek hmem hSlen
        obtain ⟨mes, mclk, mb, -⟩ := MD
        have s1 : ∀ b o, (v1.cell? ⟨b, o, none⟩).isSome = true → w1.cell? ⟨b, o, none⟩ = v1.cell? ⟨b, o, none⟩ := fun b o h => (o1.cell mb b o (by rw [cd b o h]; exact h)).trans (cd b o h)
        have s2 : ∀ b o, (v1.cell? ⟨b, o, none⟩).isSome = true → w2.cell? ⟨b, o, none⟩ = v1.cell? ⟨b, o, none⟩ := fun b o h => (o2.cell mb b o (by rw [cd b o h]; exact h)).trans (cd b o h)
        have B7 := Lib.hid (o2.below BD (Nat.le_refl _))
        have M7 := Lib.hid MS
        unfold kv at hlk hme hlk1
        clear MS o1 o2 mb BD
        refine T_b2 (fun K hK => ?_) (fun K hK => ?_)
        · simp only [pickOp]
          go_simp
          refine hK.out _ _ cd (fun hH' => ?_)
          clear hK K
          try simp only [pickOp, Act.put, List.setIfInBounds_toArray, List.set_cons_zero, List.set_cons_succ]
          refine T_pure ?_ (by rfl) (fun w hSw => ?_) ?_; rotate_left; ((try dsimp only at hSw); simp only [pickOp]; go_simp; try with_reducible rfl); try simp only [pickOp, Act.put, List.setIfInBounds_toArray, List.set_cons_zero, List.set_cons_succ]
          refine T_b1 (fun K hK => ?_)
          simp only [pickOp]
          go_simp
          refine hK.out _ _ s1 (fun hH' => ?_)
          clear hK K
          try simp only [pickOp, Act.put, List.setIfInBounds_toArray, List.set_cons_zero, List.set_cons_succ]
          refine T_pure ?_ (by rfl) (fun w hSw => ?_) ?_; rotate_left; ((try dsimp only at hSw); simp only [pickOp]; go_simp; try with_reducible rfl); try simp only [pickOp, Act.put, List.setIfInBounds_toArray, List.set_cons_zero, List.set_cons_succ]
          refine T_b1 (fun K hK => ?_)
          simp only [pickOp]
          go_simp
          refine hK.out _ _ s2 (fun hH' => ?_)
          clear hK K
          try simp only [pickOp, Act.put, List.setIfInBounds_toArray, List.set_cons_zero, List.set_cons_succ]
          refine T_done (NoPanic.normal ?_)
          clear hH' hlk hme hlk1 hes s1 s2 cd
          have M8 : Hid (MapS w2 W0.heap.size (E.take (2 * (i + 1)))) := by
            show MapS _ _ _
            rw [show 2 * (i + 1) = 2 * i + 1 + 1 by omega, htk]; exact M7.out
          go_wp2_with fail
          rw [rounds_succ]
          go_wp2
          refine ⟨?_, ?_⟩
          · first | exact ⟨i + 1, by go_num, by omega, B7, M8⟩ | ((repeat apply Exists.intro); exact ⟨⟨i + 1, by go_num, by omega, B7, M8⟩, rfl⟩)
          · simp [intOf]; omega
        · simp only [pickOp]
          go_simp
          refine hK.out _ _ s1 (fun hH' => ?_)
          clear hK K
          try simp only [pickOp, Act.put, List.setIfInBounds_toArray, List.set_cons_zero, List.set_cons_succ]
          refine T_pure ?_ (by rfl) (fun w hSw => ?_) ?_; rotate_left; ((try dsimp only at hSw); simp only [pickOp]; go_simp; try with_reducible rfl); try simp only [pickOp, Act.put, List.setIfInBounds_toArray, List.set_cons_zero, List.set_cons_succ]
          refine T_b1 (fun K hK => ?_)
          simp only [pickOp]
          go_simp
          refine hK.out _ _ s1 (fun hH' => ?_)
          clear hK K
          try simp only [pickOp, Act.put, List.setIfInBounds_toArray, List.set_cons_zero, List.set_cons_succ]
          refine T_pure ?_ (by rfl) (fun w hSw => ?_) ?_; rotate_left; ((try dsimp only at hSw); simp only [pickOp]; go_simp; try with_reducible rfl); try simp only [pickOp, Act.put, List.setIfInBounds_toArray, List.set_cons_zero, List.set_cons_succ]
          refine T_b1 (fun K hK => ?_)
          simp only [pickOp]
          go_simp
          refine hK.out _ _ s2 (fun hH' => ?_)
          clear hK K
          try simp only [pickOp, Act.put, List.setIfInBounds_toArray, List.set_cons_zero, List.set_cons_succ]
          refine T_done (NoPanic.normal ?_)
          clear hH' hlk hme hlk1 hes s1 s2 cd
          have M8 : Hid (MapS w2 W0.heap.size (E.take (2 * (i + 1)))) := by
            show MapS _ _ _
            rw [show 2 * (i + 1) = 2 * i + 1 + 1 by omega, htk]; exact M7.out
          go_wp2_with fail
          rw [rounds_succ]
          go_wp2
          refine ⟨?_, ?_⟩
          · first | exact ⟨i + 1, by go_num, by omega, B7, M8⟩ | ((repeat apply Exists.intro); exact ⟨⟨i + 1, by go_num, by omega, B7, M8⟩, rfl⟩)
          · simp [intOf]; omega
    · obtain rfl : i = nl := by omega
      rw [List.take_of_length_le (by rw [hel.out]; omega)] at M1
      obtain ⟨W2, rfl⟩ : ∃ W2 : World, W2 = wr := ⟨_, rfl⟩
      have BB2 := Lib.hid (cbelow_on BB.out B1.out)
      have P2 := Lib.hid (P0.out.on B1.out)
      clear L1 HA HG HO P0 L0 T0 B1 BB hel
      obtain ⟨t_0, t_1, t_2⟩ : _ ∧ _ ∧ _ := ⟨T1.out.1 0 _ rfl, T1.out.1 1 _ rfl, T1.out.1 2 _ rfl⟩
      go_wp2_with fail
      clear t_0 t_1 t_2
      go_loopw [8, 39] (fun vv iv wr => ∃ i : Nat, iv = .int .i64 i ∧ i ≤ np ∧ Hid (Below W2.heap.size W2 wr) ∧ Hid (wr.ownsRow W2.heap.size 46 4 vv (freeA E ps i).length ((freeA E ps i).flatMap Lk.cells))) (fun _ iv _ => np - (intOf iv).toNat)
      case atStart => exact ⟨0, rfl, Nat.zero_le _, Lib.hid (Below.refl _ _), Lib.hid ⟨rfl, Or.inl ⟨rfl, rfl⟩⟩⟩
      case round =>
        obtain ⟨i, rfl, hi, B3, O3⟩ := hrel
        by_cases hlt2 : i < np
        · have hg := ints_get (l := ps) (k := i) (by omega)
          have P3 := P2.out.on B3.out
          obtain ⟨bb, off, rfl, -⟩ := P3 i _ hg
          have k0 := P3.cell hg
          obtain ⟨hx0, hx8⟩ := HC.out i hlt2
          have hfa := HF.out i (by omega)
          have hS : freeA E ps (i + 1) = freeA E ps i ++ freeN E i (ps.getD i 0).toNat := rfl
          have HS := Lib.hid hS
          generalize ps.getD i 0 = x at *
          obtain ⟨n, rfl⟩ := Int.eq_ofNat_of_zero_le hx0
          have hn8 : n ≤ 8 := by omega
          rw [show ((n : Nat) : Int).toNat = n from rfl] at HS
          have hw1 : IntKind.i64.wrap ((i : Int) + 1) = (i : Int) + 1 := by rw [IntKind.wrap_i64]; omega
          clear hg P3 hS hx0 hx8
          generalize freeA E ps i = X at *
          go_wp2_with fail
          clear k0
          go_loopw [8, 45] (fun vv jv wr2 => ∃ j : Nat, jv = .int .i64 j ∧ j ≤ n ∧ Hid (Below W2.heap.size W2 wr2) ∧ Hid (wr2.ownsRow W2.heap.size 46 4 vv (X ++ freeN E i j).length ((X ++ freeN E i j).flatMap Lk.cells))) (fun _ jv _ => n - (intOf jv).toNat)
          case atStart => exact ⟨0, rfl, Nat.zero_le _, B3, by show World.ownsRow _ _ _ _ _ _ _; rw [show X ++ freeN E i 0 = X from List.append_nil X]; exact O3.out⟩
          case round =>
            obtain ⟨j, rfl, hj, B4, O4⟩ := hrel
            by_cases hlt3 : j < n
            · have hlk := mapS_lookup (M1.out.on B4.out) (e := ((i : Int), (j : Int))) ⟨wfI (by omega), wfI (by omega)⟩
              unfold kv at hlk
              have hw2 : IntKind.i64.wrap ((j : Int) + 1) = (j : Int) + 1 := by rw [IntKind.wrap_i64]; omega
              have hfl := freeN_len E i j
              by_cases hm : ((i : Int), (j : Int)) ∈ E
              · rw [if_pos hm] at hlk
                have e1 : freeN E i (j + 1) = freeN E i j := by rw [freeN, if_pos hm, List.append_nil]
                have O5 := O4
                rw [← e1] at O5
                clear e1 hm
                go_wp2
                refine ⟨?_, ?_⟩
                · first | exact ⟨j + 1, by go_num, by omega, B4, O5⟩ | ((repeat apply Exists.intro); exact ⟨⟨j + 1, by go_num, by omega, B4, O5⟩, rfl⟩)
                · simp [intOf]; omega
              · rw [if_neg hm] at hlk
                have e1 : freeN E i (j + 1) = freeN E i j ++ [⟨i, j, -1, -1⟩] := by rw [freeN, if_neg hm]
                clear hm
                obtain ⟨Y, hY⟩ : ∃ Y, X ++ freeN E i j = Y := ⟨_, rfl⟩
                have HE : Hid (X ++ freeN E i (j + 1) = Y ++ [⟨i, j, -1, -1⟩]) := by show _ = _; rw [e1, ← List.append_assoc, hY]
                have hlen : Y.length ≤ 1000 := by rw [← hY, List.length_append]; omega
                rw [hY] at O4
                clear hY e1
                obtain ⟨nY, hnY⟩ : ∃ n, Y.length = n := ⟨_, rfl⟩
                obtain ⟨cY, hcY⟩ : ∃ c, Y.flatMap Lk.cells = c := ⟨_, rfl⟩
                rw [hnY] at O4 hlen
                rw [hcY] at O4
                have HNY := Lib.hid hnY
                have HCY := Lib.hid hcY
                clear hnY hcY
                obtain ⟨i0, hi0, hz0, hz1, hz2⟩ := hinfo_parts infoLnk
                have hown := O4.out
                go_wp2_with (at_builtin; refine wpList_append_own _ rfl _ _ 23 rfl W2.heap.size 46 i0 (.agg #[.int .i64 0, .int .i64 0, .int .i64 0, .int .i64 0]) 4 32 Try.underlying23 hi0 hz0 hz1 hz2 rfl (by decide) _ _ _ rfl (hown.alloc _) ⟨wr.heap.size, 0, none⟩ 1 1 [.int .i64 (i : Int), .int .i64 (j : Int), .int .i64 (-1), .int .i64 (-1)] rfl rfl ?c1 ?c2 ?c3 ?c4 ?c5 ?_)
                case c2 => first | (intro x hx; simp at hx; rcases hx with rfl | rfl | rfl | rfl <;> rfl) | (intro x hx; simp at hx; rcases hx with rfl | rfl | rfl <;> rfl) | (refine ⟨?_, ?_, ?_, ?_⟩ <;> rfl) | (refine ⟨?_, ?_, ?_⟩ <;> rfl) | rfl | (simp [Value.oneCell'])
                case c3 => unfold maxLen; omega
                case c4 => omega
                case c5 => have := B4.out.size; simp; omega
                · intro v' w5 hown' hgrow _
                  have O5 := Lib.hid hown'
                  have HG := Lib.hid hgrow
                  clear hown' hgrow hown
                  go_wp2_with fail
                  have hB5 : Below W2.heap.size W2 w5 := (cbelow_al B4.out _).grown HG.out (by have := B4.out.size; simp; omega) (fun g e => (World.ownsRow.lt O4.out g e).1)
                  have O6 : Hid (w5.ownsRow W2.heap.size 46 4 v' (X ++ freeN E i (j + 1)).length ((X ++ freeN E i (j + 1)).flatMap Lk.cells)) := by
                    show World.ownsRow _ _ _ _ _ _ _
                    rw [HE.out, List.length_append, List.flatMap_append, HNY.out, HCY.out]
                    exact O5.out
                  refine ⟨?_, ?_⟩
                  · first | exact ⟨j + 1, by go_num, by omega, Lib.hid hB5, O6⟩ | ((repeat apply Exists.intro); exact ⟨⟨j + 1, by go_num, by omega, Lib.hid hB5, O6⟩, rfl⟩)
                  · simp [intOf]; omega
            · obtain rfl : j = n := by omega
              have O5 := O4
              rw [← HS.out] at O5
              go_wp2
              refine ⟨?_, ?_⟩
              · first | exact ⟨i + 1, by go_num, by omega, B4, O5⟩ | ((repeat apply Exists.intro); exact ⟨⟨i + 1, by go_num, by omega, B4, O5⟩, rfl⟩)
              · simp [intOf]; omega
        · obtain rfl : i = np := by omega
          go_wp2
          go_ret
          have BF := cbelow_on BB2.out B3.out
          have hO := O3.out
          generalize freeA E ps i = X at *
          obtain ⟨h1, ⟨h2, h3⟩ | ⟨g, cap, cur, h2, h3, h4, h5, h6, h7, h8⟩⟩ := hO
          · subst h2
            refine ⟨none, 0, by rw [h3]; rfl, fun j v hv => ?_, BF⟩
            rw [h3] at h1
            rw [List.eq_nil_of_length_eq_zero h1] at hv; cases hv
          · subst h2
            refine ⟨_, cap, rfl, fun j v hv => ⟨g, 0, rfl, ?_⟩, BF⟩
            rw [Nat.zero_add, World.ownsRow.cellAt O3.out j (by
              rw [← h1]
              rcases Nat.lt_or_ge j (X.flatMap Lk.cells).length with q | q
              · exact q
              · rw [List.getElem?_eq_none q] at hv; cases hv)]
            exact hv
end Go.Proofs.Ytgbphocmnpjjpab
