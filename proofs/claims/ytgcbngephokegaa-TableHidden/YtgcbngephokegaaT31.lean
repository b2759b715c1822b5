/- Hidden of a table. (gen/mkt31.py) -/
import Derived.Test.YtgcbngephokegaaT30
import Derived.Test.YtgcbngephokegaaAlong2
namespace Go.Proofs.Ytgcbngephokegaa
open Go.RowKit Go.Maps Go.MapKept Go.ChangeMaps Go.WideElems Go.Joins
set_option linter.unusedVariables false
set_option linter.unusedSimpArgs false

theorem rs_rise {E : List Ent} {rs : List Ru} {A : Nat} {n : Int} (hn : E.Nodup) (h : rs.map re = metF E A n) (hr : ∀ x ∈ rs, rightB x.a x.n = true ∧ x.Ok) : rs.Pairwise fun x y => x.a ≤ y.a := by
  have h1 : (rs.map re).Pairwise elt := by
    rw [h]; unfold metF; split
    · exact (srt_lst hn _).1
    · exact List.Pairwise.nil
  refine (List.pairwise_map.1 h1).imp_of_mem (fun {x y} hx hy q => ?_)
  have key : ∀ z : Ru, z ∈ rs → ad (re z).1 = z.a ∧ (re z).1.length ≤ 32 := fun z hz => by
    obtain ⟨c, d, -⟩ := hr z hz
    obtain ⟨h0, h1, h2⟩ := of_decide_eq_true c
    refine ⟨ad_right z.a z.n.toNat d (by omega) h2, ?_⟩
    show (pth z.a z.n.toNat).length ≤ 32
    rw [pth_len]; omega
  obtain ⟨ex, lx⟩ := key x hx
  obtain ⟨ey, ly⟩ := key y hy
  rw [← ex, ← ey]
  rcases q with q | ⟨q, -⟩
  · exact plt_le _ _ 0 lx ly q
  · rw [q]; exact Nat.le_refl _
theorem re_cells {x : Ru} (hx : rightB x.a x.n = true) (ha : x.a < 4294967296) : ad (re x).1 = x.a ∧ ((re x).1.length : Int) = x.n := by
  obtain ⟨h0, h1, h2⟩ := of_decide_eq_true hx
  refine ⟨ad_right x.a x.n.toNat ha (by omega) h2, ?_⟩
  show ((pth x.a x.n.toNat).length : Int) = x.n
  rw [pth_len]; omega
theorem take_le {rs : List Ru} (h : rs.Pairwise fun x y => x.a ≤ y.a) {i : Nat} {x : Ru} (hx : rs[i]? = some x) : ∀ y ∈ rs.take i, y.a ≤ x.a := fun y hy => by
  obtain ⟨j, hj, e⟩ := List.mem_iff_getElem.1 hy
  rw [List.length_take] at hj
  rw [List.getElem_take] at e
  obtain ⟨hi, ei⟩ := List.getElem?_eq_some_iff.1 hx
  have := List.pairwise_iff_getElem.1 h j i (by omega) hi (by omega)
  rw [e, ei] at this
  exact this
set_option maxRecDepth 100000 in
set_option maxHeartbeats 4000000 in
theorem thidden_out {Z : Nat → Prop} {p : Nat} {W : World} {M : List Ru} (h : Tab Z p W M) (id : Int) (hv : I64 id) (hn : id ∉ M.map Ru.id) :
    Calls Try.prog 37 #[.pointer (some ⟨p, 0, none⟩), .int .i64 id] W fun e w' => e = .returned (.bool false) ∧ Below W.heap.size W w' := by
  have CG := Lib.hid (get_any h id hv)
  rw [findI_out hn] at CG
  clear h
  go_enter Try.func37, Try.ntmps37
  go_wp2_with fail
  refine CG.out.mono ?_
  rintro e w1 ⟨rfl, hb⟩
  have B := Lib.hid hb
  clear hb CG
  go_wp2
  go_ret
  exact ⟨rfl, bel_al B.out _⟩
set_option maxRecDepth 100000 in
set_option maxHeartbeats 8000000 in
theorem thidden_in {Z : Nat → Prop} {p : Nat} {W : World} {M : List Ru} (h : Tab Z p W M) (r : Ru) (hr : r ∈ M) (hl : M.length ≤ 100000) :
    Calls Try.prog 37 #[.pointer (some ⟨p, 0, none⟩), .int .i64 r.id] W fun e w' => ∃ b, e = .returned (.bool b) ∧ (b = true ↔ HidP M r) ∧ Below W.heap.size W w' := by
  have hMR := tab_right h
  have hids := tab_ids h
  have CG := Lib.hid (get_any h r.id (hMR r hr).2.2)
  rw [findI_in hids hr] at CG
  obtain ⟨m, E, t, hm, hp, hle, hmz⟩ := h
  have hn := t.nodup
  obtain ⟨rs, e1, e2, e3⟩ := met_rules hp hn r.a r.n
  have hrl : rs.length ≤ 100000 := by
    have := nodup_le rs (meetR M r.a r.n) e2 (fun x hx => (e3 x).1 hx)
    have := meetR_len M r.a r.n
    omega
  have hrr := hMR r hr
  have hrs : ∀ x ∈ rs, x ∈ M := fun x hx => ((mem_meetR hrr.1).1 ((e3 x).1 hx)).1
  have HRise := Lib.hid (rs_rise hn e1 (fun x hx => hMR x (hrs x hx)))
  have HT := Lib.hid (fun w (hb : Below W.heap.size W w) => tMeeting (t.on hb) r.a r.n hrr.2.1 (by omega))
  rw [← e1] at HT
  have P0 := Lib.hid t.pre0.1
  have HM := Lib.hid hm
  have HP := Lib.hid hp
  have HR := Lib.hid hrs
  have HQ := Lib.hid e3
  have HMR := Lib.hid hMR
  have HIN := Lib.hid hr
  have HRR := Lib.hid hrr
  have hwa : IntKind.u64.wrap (r.a : Int) = (r.a : Int) := by rw [IntKind.wrap_u64]; have := hrr.2.1; omega
  obtain ⟨k, hK⟩ : ∃ k, rs.length = k := ⟨_, rfl⟩
  have HK := Lib.hid hK
  rw [hK] at hrl
  clear hm hp hle hmz t hn e1 e2 e3 hids hMR hr hrr hrs
  go_enter Try.func37, Try.ntmps37
  go_wp2_with fail
  refine CG.out.mono ?_
  rintro e w1 ⟨rfl, hb⟩
  have B1 := Lib.hid hb
  obtain ⟨nb, hnb⟩ : ∃ n, w1.heap.size = n := ⟨_, rfl⟩
  clear hb CG
  go_upto_region 2 with fail
  refine at_code (S := fun w => Blk w nb r.cells ∧ Below W.heap.size W w) ⟨by rw [← hnb]; exact Blk.new _ _ _, bel_al B1.out _⟩ (fun W2 h2 => ?_)
  have X2 := Lib.hid h2.1
  have B2 := Lib.hid h2.2
  obtain ⟨⟨r_0, r_1, r_2, r_3, r_4, r_5⟩, -⟩ := blk_ru h2.1
  clear h2 hnb B1
  go_upto_region 5 with fail
  refine wp_region_noPanic ?_
  refine wp_region_along (S := fun w' => Below W2.heap.size W2 w' ∧ ∀ b o, (W2.cell? ⟨b, o, none⟩).isSome = true → w'.cell? ⟨b, o, none⟩ = W2.cell? ⟨b, o, none⟩) ([(0, true), (1, true), (2, true), (3, true), (4, true), (7, true), (5, false), (6, true)]) (by kernel_rfl) (by as_aux_lemma => kernel_rfl) (by kernel_rfl) (by kernel_rfl) (by as_aux_lemma => kernel_rfl) (by as_aux_lemma => kernel_rfl) (fun _ _ _ _ _ h => h) (ckeep (Below.refl _ _).drew) (fun hH => ?_)
  simp only [stepsOf, pickOp]
  iterate 6 (first | (refine along_skip (by rfl) ?_; try simp only [Act.put, List.setIfInBounds_toArray, List.set_cons_zero, List.set_cons_succ]) | (refine along_pure ?_ (by rfl) (fun w hSw => ?_) ?_; rotate_left; ((try dsimp only at hSw); go_simp; try with_reducible rfl); try simp only [Act.put, List.setIfInBounds_toArray, List.set_cons_zero, List.set_cons_succ]))
  refine along_bar (fun K hK => ?_)
  go_simp
  refine (HT.out _ (bel_on' B2.out hH.1)).mono ?_
  rintro e w' ⟨v, rfl, hv, hbx⟩
  try go_wp2_with fail
  refine hK.out _ _ (ckeep (bel_on' hH.1 hbx)) (fun hH' => ?_)
  clear hK K hH
  have hH := hH'
  clear hH'
  obtain ⟨va, vc, ev⟩ := Row.slice hv
  rw [List.length_map, hK] at ev
  subst ev
  have V3 := Lib.hid hv
  clear hv hbx
  try simp only [Act.put, List.setIfInBounds_toArray, List.set_cons_zero, List.set_cons_succ]
  iterate 1 (first | (refine along_skip (by rfl) ?_; try simp only [Act.put, List.setIfInBounds_toArray, List.set_cons_zero, List.set_cons_succ]) | (refine along_pure ?_ (by rfl) (fun w hSw => ?_) ?_; rotate_left; ((try dsimp only at hSw); go_simp; try with_reducible rfl); try simp only [Act.put, List.setIfInBounds_toArray, List.set_cons_zero, List.set_cons_succ]))
  refine along_end (NoPanic.normal ?_)
  have X3 := Lib.hid (X2.out.on hH.1)
  have B3 := Lib.hid (bel_on' B2.out hH.1)
  obtain ⟨b0, hb0⟩ : ∃ b, Ents w' b (.slice va k vc) (rs.map re) := ⟨_, V3.out⟩
  have V4 := Lib.hid hb0
  have S0 := Lib.hid (sw_nil r HRR.out.2.1)
  clear hH r_0 r_1 r_2 r_3 r_4 r_5 X2 B2 HT V3 hb0
  go_wp2_with fail
  go_loopw [7, 29] (fun fv iv wr => ∃ (i F : Nat), fv = .int .u64 (F : Nat) ∧ iv = .int .i64 (i : Nat) ∧ i ≤ k ∧ Hid (Sw r (rs.take i) F) ∧ Hid (Blk wr nb r.cells) ∧ Hid (Ents wr b0 (.slice va k vc) (rs.map re)) ∧ Hid (Below W.heap.size W wr)) (fun _ iv _ => k - (intOf iv).toNat)
  case atStart => exact ⟨0, r.a, rfl, rfl, Nat.zero_le _, S0, X3, V4, B3⟩
  case round =>
    obtain ⟨i, F, rfl, rfl, hi, S, X, V, B⟩ := hrel
    clear S0 X3 V4 B3
    by_cases hin : i < k
    · have hw1 : IntKind.i64.wrap ((i : Int) + 1) = ((i + 1 : Nat) : Int) := by rw [IntKind.wrap_i64]; omega
      obtain ⟨x, hx⟩ : ∃ x, rs[i]? = some x := ⟨_, List.getElem?_eq_getElem (by rw [HK.out]; exact hin)⟩
      have hxM := HR.out x (List.mem_of_getElem? hx)
      obtain ⟨hxr, hxo⟩ := HMR.out x hxM
      obtain ⟨ea, en⟩ := re_cells hxr hxo.1
      have SN : Hid (Sw r (rs.take (i + 1)) (swp r F x)) := Lib.hid (by
        rw [List.take_add_one, hx, Option.toList_some]
        exact S.out.snoc (take_le HRise.out hx) hxr hxo.1)
      obtain ⟨g, cap, e1, hc⟩ := ent_at V.out (by rw [List.length_map, HK.out]; omega)
      rw [List.length_map, HK.out] at e1
      simp at e1
      obtain ⟨rfl, rfl⟩ := e1
      obtain ⟨c_0, c_1, c_2⟩ := hc i (re x) (by rw [List.getElem?_map, hx]; rfl)
      rw [ea] at c_0
      rw [en] at c_1
      have c_2 : wr.cell? ⟨g, i * 3 + 2, none⟩ = some (.int .i64 x.id) := c_2
      have HXR := Lib.hid hxr
      have HXO := Lib.hid hxo
      have HXM := Lib.hid hxM
      obtain ⟨nb2, hnb2⟩ : ∃ n, wr.heap.size = n := ⟨_, rfl⟩
      have hup := S.out.up
      have hxa := hxo.1
      have hll := lastR_lt hxr hxo.1
      clear hc hx ea en hxr hxo hxM
      go_upto_region 8 with fail
      refine at_code (S := fun w => Blk w nb2 [.int .u32 (x.a : Nat), .int .i64 x.n, .int .i64 x.id] ∧ Blk w nb r.cells ∧ Ents w b0 (.slice (some ⟨g, 0, none⟩) k vc) (rs.map re) ∧ Below W.heap.size W w) ⟨by rw [← hnb2]; exact Blk.new wr 83 [.int .u32 (x.a : Nat), .int .i64 x.n, .int .i64 x.id], X.out.on (bel_al (Below.refl _ _) _), Row.on V.out (bel_al (Below.refl _ _) _), bel_al B.out _⟩ (fun w3 h3 => ?_)
      have Z3 := Lib.hid h3.1
      have X3 := Lib.hid h3.2.1
      have V3 := Lib.hid h3.2.2.1
      have B3 := Lib.hid h3.2.2.2
      clear h3 c_0 c_1 c_2 S X V B hnb2
      have HS : Hid (∀ w', Below w3.heap.size w3 w' → (Below w3.heap.size w3 w' ∧ w'.cell? ⟨p, 0, none⟩ = some (.map m) ∧ w'.cell? ⟨nb2, 0, none⟩ = some (.int .u32 (x.a : Nat)) ∧ w'.cell? ⟨nb2, 1, none⟩ = some (.int .i64 x.n) ∧ w'.cell? ⟨nb2, 2, none⟩ = some (.int .i64 x.id) ∧ w'.cell? ⟨nb, 0, none⟩ = some (.int .i64 r.id) ∧ w'.cell? ⟨nb, 1, none⟩ = some (.int .i64 r.dev) ∧ w'.cell? ⟨nb, 2, none⟩ = some (.int .u32 (r.a : Nat)) ∧ w'.cell? ⟨nb, 3, none⟩ = some (.int .i64 r.n) ∧ w'.cell? ⟨nb, 4, none⟩ = some (.int .i64 r.prio) ∧ w'.cell? ⟨nb, 5, none⟩ = some (.int .i64 r.out) ∧ (Instr.lookup 106 (.map m) (.int .i64 x.id) false).run Try.prog w' = .ok (rv x) w')) := Lib.hid (fun w' hb => by
        have Z4 := Z3.out.on hb
        obtain ⟨⟨r_0, r_1, r_2, r_3, r_4, r_5⟩, -⟩ := blk_ru (X3.out.on hb)
        have hW := bel_on' B3.out hb
        exact ⟨hb, (hW.cell (p := ⟨p, 0, none⟩) (cell_lt (o := 0) (by rw [P0.out]; rfl))).trans P0.out, Z4.1 0 _ rfl, Z4.1 1 _ rfl, Z4.1 2 _ rfl, r_0, r_1, r_2, r_3, r_4, r_5, rm_some (HM.out.on hW) HP.out.n false x HXM.out HXO.out.2⟩)
      have hwx : IntKind.u64.wrap (x.a : Int) = (x.a : Int) := by rw [IntKind.wrap_u64]; omega
      have CC : Hid (∀ w, Calls Try.prog 40 #[rv x, rv r] w fun e w' => e = .returned (.int .i64 (compR x r)) ∧ Below w.heap.size w w') := Lib.hid (fun w => compare_any x r w)
      have CL := Lib.hid (fun w => hlast_any x HXR.out HXO.out.1 w)
      obtain ⟨l, hl'⟩ : ∃ l, lastR x = l := ⟨_, rfl⟩
      obtain ⟨z, hz⟩ : ∃ z, compR x r = z := ⟨_, rfl⟩
      have HSW : Hid (swp r F x = if x.a ≤ F ∧ z < 0 then max F (l + 1) else F) := Lib.hid (by rw [← hz, ← hl']; rfl)
      rw [hz] at CC
      rw [hl'] at CL hll
      rw [HSW.out] at SN
      clear hl' hz HSW
      by_cases c1 : x.a ≤ F
      · have d1 : decide ((x.a : Int) ≤ (F : Int)) = true := decide_eq_true (by omega)
        have d1' : (x.a : Int) ≤ (F : Int) := by omega
        cases d2 : decide (z < 0)
        · have hzn : ¬ z < 0 := of_decide_eq_false d2
          rw [if_neg (fun q => hzn q.2)] at SN
          refine wp_region_noPanic ?_
          refine wp_region_along (S := fun w' => Below w3.heap.size w3 w' ∧ w'.cell? ⟨p, 0, none⟩ = some (.map m) ∧ w'.cell? ⟨nb2, 0, none⟩ = some (.int .u32 (x.a : Nat)) ∧ w'.cell? ⟨nb2, 1, none⟩ = some (.int .i64 x.n) ∧ w'.cell? ⟨nb2, 2, none⟩ = some (.int .i64 x.id) ∧ w'.cell? ⟨nb, 0, none⟩ = some (.int .i64 r.id) ∧ w'.cell? ⟨nb, 1, none⟩ = some (.int .i64 r.dev) ∧ w'.cell? ⟨nb, 2, none⟩ = some (.int .u32 (r.a : Nat)) ∧ w'.cell? ⟨nb, 3, none⟩ = some (.int .i64 r.n) ∧ w'.cell? ⟨nb, 4, none⟩ = some (.int .i64 r.prio) ∧ w'.cell? ⟨nb, 5, none⟩ = some (.int .i64 r.out) ∧ (Instr.lookup 106 (.map m) (.int .i64 x.id) false).run Try.prog w' = .ok (rv x) w') ([(0, true), (1, true), (2, true), (3, true), (4, true), (5, true), (6, true), (7, true), (8, true), (9, true), (10, true), (11, true), (12, true), (13, true), (14, true), (15, false)] ++ ([(16, true), (17, true)])) (by kernel_rfl) (by as_aux_lemma => kernel_rfl) (by kernel_rfl) (by kernel_rfl) (alongPre_append _ _ _ (by as_aux_lemma => kernel_rfl) (by as_aux_lemma => kernel_rfl)) (by as_aux_lemma => kernel_rfl) (fun _ _ _ _ _ h => h) (HS.out _ (Below.refl _ _).drew) (fun hH => ?_)
          simp only [List.cons_append, List.nil_append, stepsOf, pickOp]
          iterate 15 (first | (refine along_skip (by rfl) ?_; try simp only [Act.put, List.setIfInBounds_toArray, List.set_cons_zero, List.set_cons_succ]) | (refine along_pure ?_ (by rfl) (fun w hSw => ?_) ?_; rotate_left; ((try dsimp only at hSw); go_simp; try with_reducible rfl); try simp only [Act.put, List.setIfInBounds_toArray, List.set_cons_zero, List.set_cons_succ]))
          refine along_bar (fun K hK => ?_)
          go_simp
          refine (CC.out _).mono ?_
          rintro e w' ⟨rfl, hbx⟩
          try go_wp2_with fail
          refine hK.out _ _ (HS.out _ (bel_on' hH.1 hbx)) (fun hH' => ?_)
          clear hK K hH
          have hH := hH'
          clear hH'
          clear hbx
          try simp only [Act.put, List.setIfInBounds_toArray, List.set_cons_zero, List.set_cons_succ]
          iterate 2 (first | (refine along_skip (by rfl) ?_; try simp only [Act.put, List.setIfInBounds_toArray, List.set_cons_zero, List.set_cons_succ]) | (refine along_pure ?_ (by rfl) (fun w hSw => ?_) ?_; rotate_left; ((try dsimp only at hSw); go_simp; try with_reducible rfl); try simp only [Act.put, List.setIfInBounds_toArray, List.set_cons_zero, List.set_cons_succ]))
          refine along_end (NoPanic.normal ?_)
          have BX := Lib.hid hH.1
          clear hH
          have X4 := Lib.hid (X3.out.on BX.out)
          have V4 := Lib.hid (show Ents _ b0 _ (rs.map re) from Row.on V3.out BX.out)
          have B4 := Lib.hid (bel_on' B3.out BX.out)
          clear X3 V3 B3 BX Z3 HS
          go_wp2_with fail
          refine ⟨⟨i + 1, F, rfl, by first | rfl | rw [hw1], by omega, SN, X4, V4, B4⟩, by simp [intOf] <;> omega⟩
        · have hzn : z < 0 := of_decide_eq_true d2
          rw [if_pos ⟨c1, hzn⟩] at SN
          refine wp_region_noPanic ?_
          refine wp_region_along (S := fun w' => Below w3.heap.size w3 w' ∧ w'.cell? ⟨p, 0, none⟩ = some (.map m) ∧ w'.cell? ⟨nb2, 0, none⟩ = some (.int .u32 (x.a : Nat)) ∧ w'.cell? ⟨nb2, 1, none⟩ = some (.int .i64 x.n) ∧ w'.cell? ⟨nb2, 2, none⟩ = some (.int .i64 x.id) ∧ w'.cell? ⟨nb, 0, none⟩ = some (.int .i64 r.id) ∧ w'.cell? ⟨nb, 1, none⟩ = some (.int .i64 r.dev) ∧ w'.cell? ⟨nb, 2, none⟩ = some (.int .u32 (r.a : Nat)) ∧ w'.cell? ⟨nb, 3, none⟩ = some (.int .i64 r.n) ∧ w'.cell? ⟨nb, 4, none⟩ = some (.int .i64 r.prio) ∧ w'.cell? ⟨nb, 5, none⟩ = some (.int .i64 r.out) ∧ (Instr.lookup 106 (.map m) (.int .i64 x.id) false).run Try.prog w' = .ok (rv x) w') ([(0, true), (1, true), (2, true), (3, true), (4, true), (5, true), (6, true), (7, true), (8, true), (9, true), (10, true), (11, true), (12, true), (13, true), (14, true), (15, false)] ++ ([(16, true), (17, true)])) (by kernel_rfl) (by as_aux_lemma => kernel_rfl) (by kernel_rfl) (by kernel_rfl) (alongPre_append _ _ _ (by as_aux_lemma => kernel_rfl) (by as_aux_lemma => kernel_rfl)) (by as_aux_lemma => kernel_rfl) (fun _ _ _ _ _ h => h) (HS.out _ (Below.refl _ _).drew) (fun hH => ?_)
          simp only [List.cons_append, List.nil_append, stepsOf, pickOp]
          iterate 15 (first | (refine along_skip (by rfl) ?_; try simp only [Act.put, List.setIfInBounds_toArray, List.set_cons_zero, List.set_cons_succ]) | (refine along_pure ?_ (by rfl) (fun w hSw => ?_) ?_; rotate_left; ((try dsimp only at hSw); go_simp; try with_reducible rfl); try simp only [Act.put, List.setIfInBounds_toArray, List.set_cons_zero, List.set_cons_succ]))
          refine along_bar (fun K hK => ?_)
          go_simp
          refine (CC.out _).mono ?_
          rintro e w' ⟨rfl, hbx⟩
          try go_wp2_with fail
          refine hK.out _ _ (HS.out _ (bel_on' hH.1 hbx)) (fun hH' => ?_)
          clear hK K hH
          have hH := hH'
          clear hH'
          clear hbx
          try simp only [Act.put, List.setIfInBounds_toArray, List.set_cons_zero, List.set_cons_succ]
          iterate 2 (first | (refine along_skip (by rfl) ?_; try simp only [Act.put, List.setIfInBounds_toArray, List.set_cons_zero, List.set_cons_succ]) | (refine along_pure ?_ (by rfl) (fun w hSw => ?_) ?_; rotate_left; ((try dsimp only at hSw); go_simp; try with_reducible rfl); try simp only [Act.put, List.setIfInBounds_toArray, List.set_cons_zero, List.set_cons_succ]))
          refine along_end (NoPanic.normal ?_)
          have BX := Lib.hid hH.1
          clear hH
          have X4 := Lib.hid (X3.out.on BX.out)
          have V4 := Lib.hid (show Ents _ b0 _ (rs.map re) from Row.on V3.out BX.out)
          have B4 := Lib.hid (bel_on' B3.out BX.out)
          have Z4 := Lib.hid (Z3.out.on BX.out)
          have z_0 := Z4.out.1 0 _ rfl
          have z_1 := Z4.out.1 1 _ rfl
          clear X3 V3 B3 BX Z3 HS
          have hwl : IntKind.u64.wrap (l : Int) = (l : Int) := by rw [IntKind.wrap_u64]; omega
          have hwl1 : IntKind.u64.wrap ((l : Int) + 1) = ((l + 1 : Nat) : Int) := by rw [IntKind.wrap_u64]; omega
          go_wp2_with fail
          refine (CL.out _).mono ?_
          rintro e w5 ⟨rfl, hb⟩
          have X5 := Lib.hid (X4.out.on hb)
          have V5 := Lib.hid (show Ents _ b0 _ (rs.map re) from Row.on V4.out hb)
          have B5 := Lib.hid (bel_on' B4.out hb)
          clear hb X4 V4 B4 Z4 z_0 z_1
          by_cases c3 : (l + 1 : Nat) ≤ F
          · have hmx : max F (l + 1) = F := by omega
            rw [hmx] at SN
            have d3 : decide ((F : Int) < ((l + 1 : Nat) : Int)) = false := decide_eq_false (by omega)
            go_wp2_with fail
            refine ⟨⟨i + 1, F, by first | rfl | (simp; omega), by first | rfl | rw [hw1], by omega, SN, X5, V5, B5⟩, by simp [intOf] <;> omega⟩
          · have hmx : max F (l + 1) = l + 1 := by omega
            rw [hmx] at SN
            have d3 : decide ((F : Int) < ((l + 1 : Nat) : Int)) = true := decide_eq_true (by omega)
            go_wp2_with fail
            refine ⟨⟨i + 1, l + 1, by first | rfl | (simp; omega), by first | rfl | rw [hw1], by omega, SN, X5, V5, B5⟩, by simp [intOf] <;> omega⟩
      · have d1 : decide ((x.a : Int) ≤ (F : Int)) = false := decide_eq_false (by omega)
        have d1' : ¬ (x.a : Int) ≤ (F : Int) := by omega
        rw [if_neg (fun q => c1 q.1)] at SN
        refine wp_region_noPanic ?_
        refine wp_region_along (S := fun w' => Below w3.heap.size w3 w' ∧ w'.cell? ⟨p, 0, none⟩ = some (.map m) ∧ w'.cell? ⟨nb2, 0, none⟩ = some (.int .u32 (x.a : Nat)) ∧ w'.cell? ⟨nb2, 1, none⟩ = some (.int .i64 x.n) ∧ w'.cell? ⟨nb2, 2, none⟩ = some (.int .i64 x.id) ∧ w'.cell? ⟨nb, 0, none⟩ = some (.int .i64 r.id) ∧ w'.cell? ⟨nb, 1, none⟩ = some (.int .i64 r.dev) ∧ w'.cell? ⟨nb, 2, none⟩ = some (.int .u32 (r.a : Nat)) ∧ w'.cell? ⟨nb, 3, none⟩ = some (.int .i64 r.n) ∧ w'.cell? ⟨nb, 4, none⟩ = some (.int .i64 r.prio) ∧ w'.cell? ⟨nb, 5, none⟩ = some (.int .i64 r.out) ∧ (Instr.lookup 106 (.map m) (.int .i64 x.id) false).run Try.prog w' = .ok (rv x) w') ([(0, true), (1, true), (2, true), (3, true), (4, true), (5, true), (6, true), (7, true), (8, true), (9, true), (10, true), (11, true), (12, true), (13, true), (14, true), (15, false)] ++ ([(16, true), (17, true)])) (by kernel_rfl) (by as_aux_lemma => kernel_rfl) (by kernel_rfl) (by kernel_rfl) (alongPre_append _ _ _ (by as_aux_lemma => kernel_rfl) (by as_aux_lemma => kernel_rfl)) (by as_aux_lemma => kernel_rfl) (fun _ _ _ _ _ h => h) (HS.out _ (Below.refl _ _).drew) (fun hH => ?_)
        simp only [List.cons_append, List.nil_append, stepsOf, pickOp]
        iterate 15 (first | (refine along_skip (by rfl) ?_; try simp only [Act.put, List.setIfInBounds_toArray, List.set_cons_zero, List.set_cons_succ]) | (refine along_pure ?_ (by rfl) (fun w hSw => ?_) ?_; rotate_left; ((try dsimp only at hSw); go_simp; try with_reducible rfl); try simp only [Act.put, List.setIfInBounds_toArray, List.set_cons_zero, List.set_cons_succ]))
        refine along_pass (by rfl) hH ?_
        try simp only [Act.put, List.setIfInBounds_toArray, List.set_cons_zero, List.set_cons_succ]
        iterate 2 (first | (refine along_skip (by rfl) ?_; try simp only [Act.put, List.setIfInBounds_toArray, List.set_cons_zero, List.set_cons_succ]) | (refine along_pure ?_ (by rfl) (fun w hSw => ?_) ?_; rotate_left; ((try dsimp only at hSw); go_simp; try with_reducible rfl); try simp only [Act.put, List.setIfInBounds_toArray, List.set_cons_zero, List.set_cons_succ]))
        refine along_end (NoPanic.normal ?_)
        have BX := Lib.hid hH.1
        clear hH
        have X4 := Lib.hid (X3.out.on BX.out)
        have V4 := Lib.hid (show Ents _ b0 _ (rs.map re) from Row.on V3.out BX.out)
        have B4 := Lib.hid (bel_on' B3.out BX.out)
        clear X3 V3 B3 BX Z3 HS
        go_wp2_with fail
        refine ⟨⟨i + 1, F, rfl, by first | rfl | rw [hw1], by omega, SN, X4, V4, B4⟩, by simp [intOf] <;> omega⟩
    · obtain rfl : i = k := by omega
      have hall := sw_all (M := M) (rs := rs) (r := r) (F := F) (by have := S.out; rwa [List.take_of_length_le (by rw [HK.out]; exact Nat.le_refl _)] at this) HMR.out HIN.out HQ.out
      have CL := Lib.hid (fun w => hlast_any r HRR.out.1 HRR.out.2.1 w)
      have hll := lastR_lt HRR.out.1 HRR.out.2.1
      obtain ⟨l, hl'⟩ : ∃ l, lastR r = l := ⟨_, rfl⟩
      rw [hl'] at CL hll hall
      have HALL := Lib.hid hall
      have hwl : IntKind.u64.wrap (l : Int) = (l : Int) := by rw [IntKind.wrap_u64]; omega
      obtain ⟨⟨r_0, r_1, r_2, r_3, r_4, r_5⟩, -⟩ := blk_ru X.out
      clear S V X hl' hall
      go_wp2_with fail
      refine (CL.out _).mono ?_
      rintro e w5 ⟨rfl, hb⟩
      have B5 := Lib.hid (bel_on' B.out hb)
      clear hb r_0 r_1 r_2 r_3 r_4 r_5 B
      go_wp2
      go_ret
      exact ⟨_, rfl, by rw [← HALL.out]; simp, B5.out⟩
theorem thidden_any {Z : Nat → Prop} {p : Nat} {W : World} {M : List Ru} (h : Tab Z p W M) (id : Int) (hv : I64 id) (hl : M.length ≤ 100000) :
    Calls Try.prog 37 #[.pointer (some ⟨p, 0, none⟩), .int .i64 id] W fun e w' => ∃ b, e = .returned (.bool b) ∧ (b = true ↔ HidQ M id) ∧ Below W.heap.size W w' := by
  by_cases c : id ∈ M.map Ru.id
  · obtain ⟨r, h1, rfl⟩ := List.mem_map.1 c
    refine (thidden_in h r h1 hl).mono ?_
    rintro e w' ⟨b, he, hb, hw⟩
    refine ⟨b, he, ?_, hw⟩
    rw [hb]
    constructor
    · exact fun q => ⟨r, h1, rfl, q⟩
    · rintro ⟨s, hs, e, q⟩
      rw [← id_inj (tab_ids h) hs h1 e]; exact q
  · refine (thidden_out h id hv c).mono ?_
    rintro e w' ⟨he, hw⟩
    refine ⟨false, he, ?_, hw⟩
    constructor
    · intro q; cases q
    · rintro ⟨s, hs, e, q⟩
      exact absurd (List.mem_map.2 ⟨s, hs, e⟩) c
end Go.Proofs.Ytgcbngephokegaa
