/- TriePlays: the walk. -/
import Derived.Test.YtgcbngephokegaaP13
import Derived.Test.YtgcbngephokegaaAlong
namespace Go.Proofs.Ytgcbngephokegaa
open Go.RowKit Go.Maps Go.MapKept Go.ChangeMaps Go.WideElems Go.Joins
set_option linter.unusedVariables false
set_option linter.unusedSimpArgs false

set_option maxRecDepth 100000 in
theorem plays_many (L : List OpR) (la : Option Addr) (lc A A2 : Nat) (n2 : Int) (hn : 60 < L.length) (W : World) : Calls Try.prog 3 #[.slice la L.length lc, .int .u32 (A : Nat), pv (A2 : Nat) n2] W fun e w' => e = .returned (.bool true) ∧ Below W.heap.size W w' := by
  have h := Lib.hid (awake_any)
  go_enter Try.func3, Try.ntmps3
  go_wp2_with fail
  refine (h.out _).mono ?_
  rintro e w' ⟨rfl, hb⟩
  have B := Lib.hid (bel_on' (bel_al (Below.refl W.heap.size W) _) hb)
  clear hb h
  go_wp2
  go_ret
  exact ⟨rfl, B.out⟩
set_option maxRecDepth 100000 in
set_option maxHeartbeats 4000000 in
theorem plays_few (L : List OpR) (la : Option Addr) (lc A A2 : Nat) (n2 : Int) (hA : A < 4294967296) (hA2 : A2 < 4294967296) (hok : ∀ x ∈ L, x.Ok) (hn : L.length ≤ 60) (W : World) (hr : Rw W la (L.flatMap OpR.cells)) :
    Calls Try.prog 3 #[.slice la L.length lc, .int .u32 (A : Nat), pv (A2 : Nat) n2] W fun e w' => e = .returned (.bool true) ∧ Below W.heap.size W w' := by
  have R := Lib.hid hr
  have OK := Lib.hid hok
  obtain ⟨n, hN⟩ : ∃ n, L.length = n := ⟨_, rfl⟩
  have hE1 : Hid (∀ i, (playL (L.take i)).length ≤ i) := Lib.hid (fun i => playL_len L i)
  rw [hN] at hn ⊢
  have HN := Lib.hid hN
  clear hr hok hN
  go_enter Try.func3, Try.ntmps3
  go_upto_region 1 with fail
  refine at_code (S := fun w => Blk w W.heap.size [.int .u32 (A2 : Nat), .int .i64 n2] ∧ Below W.heap.size W w) ⟨Blk.new W 25 [.int .u32 (A2 : Nat), .int .i64 n2], bel_al (Below.refl _ _) _⟩ (fun W1 h1 => ?_)
  have X1 := Lib.hid h1.1
  have B1 := Lib.hid h1.2
  have R1 := Lib.hid (R.out.on B1.out)
  clear h1 R
  obtain ⟨p, hp⟩ : ∃ p, W1.heap.size = p := ⟨_, rfl⟩
  go_upto_region 4 with fail
  refine at_code (S := fun w => TS W1 W1.heap.size w (playL (L.take 0))) (ts_new W1 _) (fun W2 h2 => ?_)
  rw [hp] at h2
  have P1 : Hid (PY (fun _ => False) W1 p W2 (.slice none 0 0) (playL (L.take 0))) := Lib.hid ⟨ty_of h2, by have e0 : all ([] : List Ent) = [] := List.length_eq_zero_iff.1 (srt_all_len List.nodup_nil); show REnts _ _ _ (all []); rw [e0]; exact row_nil _ _ _ _, fun i e => by cases e⟩
  clear h2 hp
  go_wp2_with fail
  go_loopw [8, 20] (fun lv iv wr => ∃ (i : Nat) (Y : Nat → Prop), iv = .int .i64 (i : Nat) ∧ i ≤ n ∧ Hid (PY Y W1 p wr lv (playL (L.take i)))) (fun _ iv _ => n - (intOf iv).toNat)
  case atStart => exact ⟨0, _, rfl, Nat.zero_le _, P1⟩
  case round =>
    obtain ⟨i, Y, rfl, hi, S⟩ := hrel
    clear P1
    by_cases hin : i < n
    · have hw1 : IntKind.i64.wrap ((i : Int) + 1) = ((i + 1 : Nat) : Int) := by rw [IntKind.wrap_i64]; omega
      obtain ⟨x, hx⟩ : ∃ x, L[i]? = some x := ⟨_, List.getElem?_eq_getElem (by rw [HN.out]; exact hin)⟩
      obtain ⟨b, o, rfl, c0, c1, c2, c3⟩ := op_at (ops_on R1.out S.out.t.ts.below) hx
      have hxo := Lib.hid (OK.out x (List.mem_of_getElem? hx))
      have hsn := Lib.hid (playL_snoc L i x hx)
      have hl1 := hE1.out i
      have hl2 := hE1.out (i + 1)
      rw [hsn.out] at hl2
      obtain ⟨E, hE⟩ : ∃ E, playL (L.take i) = E := ⟨_, rfl⟩
      rw [hE] at hsn S hl1 hl2
      have hEl : E.length ≤ 100000 := by omega
      have HL2 := Lib.hid hl2
      clear hx hE hl1 hl2
      obtain ⟨nb, hnb⟩ : ∃ n, wr.heap.size = n := ⟨_, rfl⟩
      go_upto_region 8 with fail
      refine at_code (S := fun w => Blk w nb [.bool x.d, .int .u32 x.a, .int .i64 x.n, .int .i64 x.v] ∧ PY (fun k => Y k ∨ k = nb) W1 p w u8 E) ⟨by rw [← hnb]; exact Blk.new _ _ _, by rw [← hnb]; exact S.out.box _⟩ (fun w2 h2 => ?_)
      have S2 := Lib.hid h2.2
      have X2 := Lib.hid h2.1
      have x_0 := h2.1.1 0 _ rfl
      have x_1 := h2.1.1 1 _ rfl
      have x_2 := h2.1.1 2 _ rfl
      have x_3 := h2.1.1 3 _ rfl
      clear h2 c0 c1 c2 c3 S hnb
      obtain ⟨E', hE'⟩ : ∃ E', stepE E x = E' := ⟨_, rfl⟩
      have FIN : Hid (∀ (w5 : World) (Y5 : Nat → Prop) (u : Value), PY Y5 W1 p w5 u E' → PY Y5 W1 p w5 u (playL (L.take (i + 1)))) := Lib.hid (fun w5 Y5 u h => by rw [hsn.out, hE']; exact h)
      have HEl : Hid (E'.length ≤ 60) := Lib.hid (by rw [← hE']; have := HL2.out; omega)
      cases hd : x.d with
      | true =>
        have hs1 : stepE E x = dropF E x.a x.n x.v := by unfold stepE; rw [hd]; rfl
        rw [hE'] at hs1
        have HS1 := Lib.hid hs1
        rw [hd] at x_0
        clear hE' hs1 hd
        go_wp2_with fail
        refine (ty_drop S2.out.t x hxo.out hEl).mono ?_
        rintro e w3 ⟨rfl, h3, hold⟩
        have V3 := Lib.hid (S2.out.tree h3 hold)
        have I3 := Lib.hid S2.out.y
        have X3 := Lib.hid (hold.blk (Or.inr rfl) X2.out)
        rw [← HS1.out] at h3
        have T3 := Lib.hid h3
        have EO := Lib.hid S2.out.ok
        have hbW : Hid (W1.heap.size ≤ w3.heap.size) := Lib.hid h3.h.size
        clear h3 hold S2 X2 x_0 x_1 x_2 x_3
        have x_1 := X3.out.1 1 _ rfl
        have x_2 := X3.out.1 2 _ rfl
        have x_3 := X3.out.1 3 _ rfl
        go_wp2_with fail
        refine (rdrop_any w3 W1.heap.size u8 E EO.out x.a x.n x.v hxo.out.1 V3.out hEl hbW.out).mono ?_
        rintro e w4 ⟨u, rfl, hl⟩
        rw [← HS1.out] at hl
        have S4 := Lib.hid (PY.step T3.out I3.out hl)
        have hce := Lib.hid (rfl : dropC E x.a x.n x.v = dropC E x.a x.n x.v)
        generalize dropC E x.a x.n x.v = ce
        have hne : (ce != ce) = false := by simp
        have OK4 := Lib.hid S4.out.ok
        obtain ⟨ad4, cap4, e4⟩ := Row.slice S4.out.l
        rw [srt_all_len OK4.out.1] at e4
        subst e4
        clear hl V3 T3 I3 X3 x_1 x_2 x_3 EO hbW hce HS1
        go_wp2_with fail
        refine (tLen S4.out.t.t).mono ?_
        rintro e w5 ⟨rfl, rfl⟩
        go_wp2_with fail
        refine (tSize S4.out.t.ts.t (by have := HEl.out; omega)).mono ?_
        rintro e w6 ⟨N2, hN2, rfl, rfl⟩
        have hsz := szL_nodes hN2 (all_lst OK4.out.1).2
        obtain ⟨m, hm⟩ : ∃ m, N2.length = m := ⟨_, rfl⟩
        rw [hm] at hsz ⊢
        have HSZ := Lib.hid hsz
        clear hN2 hsz hm
        go_wp2_with fail
        refine (rsz_any _ W1.heap.size _ (all E') S4.out.l (by rw [srt_all_len OK4.out.1]; have := HEl.out; omega) (fun x hx => OK4.out.2 x (((all_lst OK4.out.1).2 x).1 hx))).mono ?_
        rintro e w7 ⟨rfl, hb⟩
        rw [HSZ.out]
        have S7 := Lib.hid (FIN.out _ _ _ (S4.out.on hb))
        clear hb S4 HSZ
        go_wp2_with fail
        refine ⟨⟨i + 1, _, by first | rfl | rw [hw1], by omega, S7⟩, by simp [intOf] <;> omega⟩
      | false =>
        have hs1 : stepE E x = addF E x.a x.n x.v := by unfold stepE; rw [hd]; rfl
        rw [hE'] at hs1
        have HS1 := Lib.hid hs1
        rw [hd] at x_0
        clear hE' hs1 hd
        go_wp2_with fail
        refine (ty_add S2.out.t x hxo.out hEl).mono ?_
        rintro e w3 ⟨rfl, h3, hold⟩
        have V3 := Lib.hid (S2.out.tree h3 hold)
        have I3 := Lib.hid S2.out.y
        have X3 := Lib.hid (hold.blk (Or.inr rfl) X2.out)
        rw [← HS1.out] at h3
        have T3 := Lib.hid h3
        have EO := Lib.hid S2.out.ok
        have hbW : Hid (W1.heap.size ≤ w3.heap.size) := Lib.hid h3.h.size
        clear h3 hold S2 X2 x_0 x_1 x_2 x_3
        have x_1 := X3.out.1 1 _ rfl
        have x_2 := X3.out.1 2 _ rfl
        have x_3 := X3.out.1 3 _ rfl
        go_wp2_with fail
        refine (radd_any w3 W1.heap.size u8 E EO.out x.a x.n x.v hxo.out.1 V3.out hEl hbW.out).mono ?_
        rintro e w4 ⟨u, rfl, hl⟩
        rw [← HS1.out] at hl
        have S4 := Lib.hid (PY.step T3.out I3.out hl)
        have hce := Lib.hid (rfl : addC E x.a x.n x.v = addC E x.a x.n x.v)
        generalize addC E x.a x.n x.v = ce
        have hne : (ce != ce) = false := by simp
        have OK4 := Lib.hid S4.out.ok
        obtain ⟨ad4, cap4, e4⟩ := Row.slice S4.out.l
        rw [srt_all_len OK4.out.1] at e4
        subst e4
        clear hl V3 T3 I3 X3 x_1 x_2 x_3 EO hbW hce HS1
        go_wp2_with fail
        refine (tLen S4.out.t.t).mono ?_
        rintro e w5 ⟨rfl, rfl⟩
        go_wp2_with fail
        refine (tSize S4.out.t.ts.t (by have := HEl.out; omega)).mono ?_
        rintro e w6 ⟨N2, hN2, rfl, rfl⟩
        have hsz := szL_nodes hN2 (all_lst OK4.out.1).2
        obtain ⟨m, hm⟩ : ∃ m, N2.length = m := ⟨_, rfl⟩
        rw [hm] at hsz ⊢
        have HSZ := Lib.hid hsz
        clear hN2 hsz hm
        go_wp2_with fail
        refine (rsz_any _ W1.heap.size _ (all E') S4.out.l (by rw [srt_all_len OK4.out.1]; have := HEl.out; omega) (fun x hx => OK4.out.2 x (((all_lst OK4.out.1).2 x).1 hx))).mono ?_
        rintro e w7 ⟨rfl, hb⟩
        rw [HSZ.out]
        have S7 := Lib.hid (FIN.out _ _ _ (S4.out.on hb))
        clear hb S4 HSZ
        go_wp2_with fail
        refine ⟨⟨i + 1, _, by first | rfl | rw [hw1], by omega, S7⟩, by simp [intOf] <;> omega⟩
    · obtain rfl : i = n := by omega
      have hl1 := hE1.out i
      obtain ⟨E, hE⟩ : ∃ E, playL (L.take i) = E := ⟨_, rfl⟩
      rw [hE] at S hl1
      have HEl : Hid (E.length ≤ 60) := Lib.hid (by omega)
      have EO := Lib.hid S.out.ok
      have hEl : E.length ≤ 100000 := by omega
      clear hE hE1 HN R1 OK hl1
      have hel : (all E).length ≤ 100000 := by rw [srt_all_len EO.out.1]; exact hEl
      have hE6 : E.length ≤ 10000 := by have := HEl.out; omega
      have hol : (srt E (metQ (pth A 32))).length ≤ 100000 := Nat.le_trans (srt_len EO.out.1 _) hEl
      have hml : (metF E A2 n2).length ≤ 100000 := by
        unfold metF; split
        · exact Nat.le_trans (srt_len EO.out.1 _) hEl
        · simp
      have XR := Lib.hid (X1.out.on S.out.t.ts.below)
      have x_0 := XR.out.1 0 _ rfl
      have x_1 := XR.out.1 1 _ rfl
      go_upto_region 19 with fail
      dsimp only [List.append]
      refine wp_region_noPanic ?_
      refine wp_region_along (S := fun w' => Below wr.heap.size wr w' ∧ ∀ b o, (wr.cell? ⟨b, o, none⟩).isSome = true → w'.cell? ⟨b, o, none⟩ = wr.cell? ⟨b, o, none⟩) ([(0, false), (1, true), (3, true), (2, false), (4, false), (5, true), (6, true), (7, true), (9, true), (10, true), (8, false), (11, false), (12, false), (13, true), (14, true), (15, true)] ++ ([(17, true), (18, true), (16, false), (19, false), (20, false), (21, true), (22, true), (23, true), (24, true), (25, false), (26, true), (27, true), (28, true), (29, true), (30, true), (31, false)] ++ ([(32, true), (33, true), (34, true), (35, true), (36, false), (37, true), (38, true), (39, true), (40, true), (41, false), (42, true), (43, true), (44, true), (45, true), (46, true), (47, false)] ++ ([(48, true), (49, true), (50, true), (51, true), (52, true), (53, false), (54, true), (55, true), (56, true), (57, true), (58, true), (59, true), (60, false), (61, true), (62, true), (63, true)] ++ ([(64, true)]))))) (by kernel_rfl) (by as_aux_lemma => kernel_rfl) (by kernel_rfl) (by kernel_rfl) (alongPre_append _ _ _ (by as_aux_lemma => kernel_rfl) (alongPre_append _ _ _ (by as_aux_lemma => kernel_rfl) (alongPre_append _ _ _ (by as_aux_lemma => kernel_rfl) (alongPre_append _ _ _ (by as_aux_lemma => kernel_rfl) (by as_aux_lemma => kernel_rfl))))) (by as_aux_lemma => kernel_rfl) (fun _ _ _ _ _ h => h) (ckeep (Below.refl _ _).drew) (fun hH => ?_)
      simp only [List.cons_append, List.nil_append, stepsOf, pickOp]
      refine along_bar (fun K hK => ?_)
      go_simp
      refine (awake_any _).mono ?_
      rintro e w' ⟨rfl, hbx⟩
      try go_wp2_with fail
      refine hK.out _ _ (ckeep (bel_on' hH.1 hbx)) (fun hH' => ?_)
      clear hK K hH
      have hH := hH'
      clear hH'
      clear hbx
      try simp only [Act.put, List.setIfInBounds_toArray, List.set_cons_zero, List.set_cons_succ]
      iterate 2 (first | (refine along_skip (by rfl) ?_; try simp only [Act.put, List.setIfInBounds_toArray, List.set_cons_zero, List.set_cons_succ]) | (refine along_pure ?_ (by rfl) (fun w hSw => ?_) ?_; rotate_left; ((try dsimp only at hSw); go_simp; try with_reducible rfl); try simp only [Act.put, List.setIfInBounds_toArray, List.set_cons_zero, List.set_cons_succ]))
      refine along_bar (fun K hK => ?_)
      go_simp
      refine (tAll (S.out.on hH.1).t.ts.t hEl).mono ?_
      rintro e w' ⟨v2, rfl, hv, hbx⟩
      try go_wp2_with fail
      refine hK.out _ _ (ckeep (bel_on' hH.1 hbx)) (fun hH' => ?_)
      clear hK K hH
      have hH := hH'
      clear hH'
      have V2 := Lib.hid hv
      clear hv
      clear hbx
      try simp only [Act.put, List.setIfInBounds_toArray, List.set_cons_zero, List.set_cons_succ]
      refine along_bar (fun K hK => ?_)
      go_simp
      refine (same_any _ _ _ _ _ (all E) V2.out (S.out.on hH.1).l hel).mono ?_
      rintro e w' ⟨rfl, hbx⟩
      try go_wp2_with fail
      refine hK.out _ _ (ckeep (bel_on' hH.1 hbx)) (fun hH' => ?_)
      clear hK K hH
      have hH := hH'
      clear hH'
      clear V2
      clear hbx
      try simp only [Act.put, List.setIfInBounds_toArray, List.set_cons_zero, List.set_cons_succ]
      iterate 5 (first | (refine along_skip (by rfl) ?_; try simp only [Act.put, List.setIfInBounds_toArray, List.set_cons_zero, List.set_cons_succ]) | (refine along_pure ?_ (by rfl) (fun w hSw => ?_) ?_; rotate_left; ((try dsimp only at hSw); go_simp; try with_reducible rfl); try simp only [Act.put, List.setIfInBounds_toArray, List.set_cons_zero, List.set_cons_succ]))
      refine along_bar (fun K hK => ?_)
      go_simp
      refine (tOf (S.out.on hH.1).t.ts.t A hA hEl).mono ?_
      rintro e w' ⟨v4, rfl, hv, hbx⟩
      try go_wp2_with fail
      refine hK.out _ _ (ckeep (bel_on' hH.1 hbx)) (fun hH' => ?_)
      clear hK K hH
      have hH := hH'
      clear hH'
      have V4 := Lib.hid hv
      clear hv
      clear hbx
      try simp only [Act.put, List.setIfInBounds_toArray, List.set_cons_zero, List.set_cons_succ]
      refine along_bar (fun K hK => ?_)
      go_simp
      refine (rofs_any _ _ _ E EO.out A hA (S.out.on hH.1).l hE6).mono ?_
      rintro e w' ⟨u5, rfl, hu, hbx⟩
      try go_wp2_with fail
      refine hK.out _ _ (ckeep (bel_on' hH.1 hbx)) (fun hH' => ?_)
      clear hK K hH
      have hH := hH'
      clear hH'
      have V5 := Lib.hid (show Ents w' _ v4 _ from Row.on V4.out hbx)
      have U5 := Lib.hid hu
      clear hu V4
      clear hbx
      try simp only [Act.put, List.setIfInBounds_toArray, List.set_cons_zero, List.set_cons_succ]
      refine along_bar (fun K hK => ?_)
      go_simp
      refine (same_any _ _ _ _ _ _ V5.out U5.out hol).mono ?_
      rintro e w' ⟨rfl, hbx⟩
      try go_wp2_with fail
      refine hK.out _ _ (ckeep (bel_on' hH.1 hbx)) (fun hH' => ?_)
      clear hK K hH
      have hH := hH'
      clear hH'
      clear V5 U5
      clear hbx
      try simp only [Act.put, List.setIfInBounds_toArray, List.set_cons_zero, List.set_cons_succ]
      iterate 5 (first | (refine along_skip (by rfl) ?_; try simp only [Act.put, List.setIfInBounds_toArray, List.set_cons_zero, List.set_cons_succ]) | (refine along_pure ?_ (by rfl) (fun w hSw => ?_) ?_; rotate_left; ((try dsimp only at hSw); go_simp; try with_reducible rfl); try simp only [Act.put, List.setIfInBounds_toArray, List.set_cons_zero, List.set_cons_succ]))
      refine along_bar (fun K hK => ?_)
      go_simp
      refine (tMeeting (S.out.on hH.1).t.ts.t A2 n2 hA2 hEl).mono ?_
      rintro e w' ⟨v7, rfl, hv, hbx⟩
      try go_wp2_with fail
      refine hK.out _ _ (ckeep (bel_on' hH.1 hbx)) (fun hH' => ?_)
      clear hK K hH
      have hH := hH'
      clear hH'
      have V7 := Lib.hid hv
      clear hv
      clear hbx
      try simp only [Act.put, List.setIfInBounds_toArray, List.set_cons_zero, List.set_cons_succ]
      refine along_bar (fun K hK => ?_)
      go_simp
      refine (rmeet_any _ _ _ E EO.out A2 n2 hA2 (S.out.on hH.1).l hEl).mono ?_
      rintro e w' ⟨u9, rfl, hu, hbx⟩
      try go_wp2_with fail
      refine hK.out _ _ (ckeep (bel_on' hH.1 hbx)) (fun hH' => ?_)
      clear hK K hH
      have hH := hH'
      clear hH'
      have V8 := Lib.hid (show Ents w' _ v7 _ from Row.on V7.out hbx)
      have U8 := Lib.hid hu
      clear hu V7
      clear hbx
      try simp only [Act.put, List.setIfInBounds_toArray, List.set_cons_zero, List.set_cons_succ]
      refine along_bar (fun K hK => ?_)
      go_simp
      refine (same_any _ _ _ _ _ _ V8.out U8.out hml).mono ?_
      rintro e w' ⟨rfl, hbx⟩
      try go_wp2_with fail
      refine hK.out _ _ (ckeep (bel_on' hH.1 hbx)) (fun hH' => ?_)
      clear hK K hH
      have hH := hH'
      clear hH'
      clear V8 U8
      clear hbx
      try simp only [Act.put, List.setIfInBounds_toArray, List.set_cons_zero, List.set_cons_succ]
      iterate 4 (first | (refine along_skip (by rfl) ?_; try simp only [Act.put, List.setIfInBounds_toArray, List.set_cons_zero, List.set_cons_succ]) | (refine along_pure ?_ (by rfl) (fun w hSw => ?_) ?_; rotate_left; ((try dsimp only at hSw); go_simp; try with_reducible rfl); try simp only [Act.put, List.setIfInBounds_toArray, List.set_cons_zero, List.set_cons_succ]))
      refine along_bar (fun K hK => ?_)
      go_simp
      refine (add_nil _ A2 n2 1).mono ?_
      rintro e w' ⟨rfl, hbx⟩
      try go_wp2_with fail
      refine hK.out _ _ (ckeep (bel_on' hH.1 hbx)) (fun hH' => ?_)
      clear hK K hH
      have hH := hH'
      clear hH'
      clear hbx
      try simp only [Act.put, List.setIfInBounds_toArray, List.set_cons_zero, List.set_cons_succ]
      iterate 5 (first | (refine along_skip (by rfl) ?_; try simp only [Act.put, List.setIfInBounds_toArray, List.set_cons_zero, List.set_cons_succ]) | (refine along_pure ?_ (by rfl) (fun w hSw => ?_) ?_; rotate_left; ((try dsimp only at hSw); go_simp; try with_reducible rfl); try simp only [Act.put, List.setIfInBounds_toArray, List.set_cons_zero, List.set_cons_succ]))
      refine along_bar (fun K hK => ?_)
      go_simp
      refine (drop_nil _ A2 n2 1).mono ?_
      rintro e w' ⟨rfl, hbx⟩
      try go_wp2_with fail
      refine hK.out _ _ (ckeep (bel_on' hH.1 hbx)) (fun hH' => ?_)
      clear hK K hH
      have hH := hH'
      clear hH'
      clear hbx
      try simp only [Act.put, List.setIfInBounds_toArray, List.set_cons_zero, List.set_cons_succ]
      iterate 4 (first | (refine along_skip (by rfl) ?_; try simp only [Act.put, List.setIfInBounds_toArray, List.set_cons_zero, List.set_cons_succ]) | (refine along_pure ?_ (by rfl) (fun w hSw => ?_) ?_; rotate_left; ((try dsimp only at hSw); go_simp; try with_reducible rfl); try simp only [Act.put, List.setIfInBounds_toArray, List.set_cons_zero, List.set_cons_succ]))
      refine along_bar (fun K hK => ?_)
      go_simp
      refine (len_nil _).mono ?_
      rintro e w' ⟨rfl, rfl⟩
      try go_wp2_with fail
      refine hK.out _ _ hH (fun hH' => ?_)
      clear hK K hH
      have hH := hH'
      clear hH'
      try simp only [Act.put, List.setIfInBounds_toArray, List.set_cons_zero, List.set_cons_succ]
      iterate 4 (first | (refine along_skip (by rfl) ?_; try simp only [Act.put, List.setIfInBounds_toArray, List.set_cons_zero, List.set_cons_succ]) | (refine along_pure ?_ (by rfl) (fun w hSw => ?_) ?_; rotate_left; ((try dsimp only at hSw); go_simp; try with_reducible rfl); try simp only [Act.put, List.setIfInBounds_toArray, List.set_cons_zero, List.set_cons_succ]))
      refine along_bar (fun K hK => ?_)
      go_simp
      refine (size_nil _).mono ?_
      rintro e w' ⟨rfl, rfl⟩
      try go_wp2_with fail
      refine hK.out _ _ hH (fun hH' => ?_)
      clear hK K hH
      have hH := hH'
      clear hH'
      try simp only [Act.put, List.setIfInBounds_toArray, List.set_cons_zero, List.set_cons_succ]
      iterate 5 (first | (refine along_skip (by rfl) ?_; try simp only [Act.put, List.setIfInBounds_toArray, List.set_cons_zero, List.set_cons_succ]) | (refine along_pure ?_ (by rfl) (fun w hSw => ?_) ?_; rotate_left; ((try dsimp only at hSw); go_simp; try with_reducible rfl); try simp only [Act.put, List.setIfInBounds_toArray, List.set_cons_zero, List.set_cons_succ]))
      refine along_bar (fun K hK => ?_)
      go_simp
      refine (of_nil _ A hA).mono ?_
      rintro e w' ⟨rfl, hbx⟩
      try go_wp2_with fail
      refine hK.out _ _ (ckeep (bel_on' hH.1 hbx)) (fun hH' => ?_)
      clear hK K hH
      have hH := hH'
      clear hH'
      clear hbx
      try simp only [Act.put, List.setIfInBounds_toArray, List.set_cons_zero, List.set_cons_succ]
      iterate 5 (first | (refine along_skip (by rfl) ?_; try simp only [Act.put, List.setIfInBounds_toArray, List.set_cons_zero, List.set_cons_succ]) | (refine along_pure ?_ (by rfl) (fun w hSw => ?_) ?_; rotate_left; ((try dsimp only at hSw); go_simp; try with_reducible rfl); try simp only [Act.put, List.setIfInBounds_toArray, List.set_cons_zero, List.set_cons_succ]))
      refine along_bar (fun K hK => ?_)
      go_simp
      refine (all_nil _).mono ?_
      rintro e w' ⟨rfl, hbx⟩
      try go_wp2_with fail
      refine hK.out _ _ (ckeep (bel_on' hH.1 hbx)) (fun hH' => ?_)
      clear hK K hH
      have hH := hH'
      clear hH'
      clear hbx
      try simp only [Act.put, List.setIfInBounds_toArray, List.set_cons_zero, List.set_cons_succ]
      iterate 6 (first | (refine along_skip (by rfl) ?_; try simp only [Act.put, List.setIfInBounds_toArray, List.set_cons_zero, List.set_cons_succ]) | (refine along_pure ?_ (by rfl) (fun w hSw => ?_) ?_; rotate_left; ((try dsimp only at hSw); go_simp; try with_reducible rfl); try simp only [Act.put, List.setIfInBounds_toArray, List.set_cons_zero, List.set_cons_succ]))
      refine along_bar (fun K hK => ?_)
      go_simp
      refine (meeting_nil _ A2 n2).mono ?_
      rintro e w' ⟨rfl, hbx⟩
      try go_wp2_with fail
      refine hK.out _ _ (ckeep (bel_on' hH.1 hbx)) (fun hH' => ?_)
      clear hK K hH
      have hH := hH'
      clear hH'
      clear hbx
      try simp only [Act.put, List.setIfInBounds_toArray, List.set_cons_zero, List.set_cons_succ]
      iterate 4 (first | (refine along_skip (by rfl) ?_; try simp only [Act.put, List.setIfInBounds_toArray, List.set_cons_zero, List.set_cons_succ]) | (refine along_pure ?_ (by rfl) (fun w hSw => ?_) ?_; rotate_left; ((try dsimp only at hSw); go_simp; try with_reducible rfl); try simp only [Act.put, List.setIfInBounds_toArray, List.set_cons_zero, List.set_cons_succ]))
      refine along_end (NoPanic.normal ?_)
      have BF := Lib.hid (bel_on' S.out.t.ts.below hH.1)
      clear hH x_0 x_1 XR S
      go_wp2
      go_ret
      exact ⟨rfl, bel_on' B1.out BF.out⟩
theorem plays_any (L : List OpR) (la : Option Addr) (lc A A2 : Nat) (n2 : Int) (hA : A < 4294967296) (hA2 : A2 < 4294967296) (W : World) (hr : Rw W la (L.flatMap OpR.cells)) (hok : ∀ x ∈ L, x.Ok) :
    Calls Try.prog 3 #[.slice la L.length lc, .int .u32 (A : Nat), pv (A2 : Nat) n2] W fun e w' => e = .returned (.bool true) ∧ Below W.heap.size W w' := by
  by_cases c : 60 < L.length
  · exact plays_many L la lc A A2 n2 c W
  · exact plays_few L la lc A A2 n2 hA hA2 hok (by omega) W hr
end Go.Proofs.Ytgcbngephokegaa
