/- Meeting of a table. -/
import Derived.Test.YtgcbngephokegaaT16
import Derived.Test.YtgcbngephokegaaAlong
namespace Go.Proofs.Ytgcbngephokegaa
open Go.RowKit Go.Maps Go.MapKept Go.ChangeMaps Go.WideElems Go.Joins
set_option linter.unusedVariables false
set_option linter.unusedSimpArgs false

theorem mem_meetR {M : List Ru} {A : Nat} {n : Int} (hr : rightB A n = true) {r : Ru} : r ∈ meetR M A n ↔ r ∈ M ∧ metQ (pth A n.toNat) (re r).1 = true := by
  unfold meetR; rw [hr, if_pos rfl, List.mem_filter]
theorem meetR_strict {M : List Ru} (h : Strict M) (A : Nat) (n : Int) : Strict (meetR M A n) := by
  unfold meetR; split
  · exact h.filter _
  · exact List.Pairwise.nil
theorem meetR_ids {M : List Ru} (h : (M.map Ru.id).Nodup) (A : Nat) (n : Int) : ((meetR M A n).map Ru.id).Nodup := by
  unfold meetR; split
  · exact h.sublist (List.Sublist.map _ List.filter_sublist)
  · exact List.nodup_nil
theorem meetR_len (M : List Ru) (A : Nat) (n : Int) : (meetR M A n).length ≤ M.length := by
  unfold meetR; split
  · exact List.length_filter_le _ _
  · exact Nat.zero_le _
/-- The rules of a tree's answer. -/
theorem met_rules {R : List Ru} {E : List Ent} (hp : TabP R E) (hn : E.Nodup) (A : Nat) (n : Int) : ∃ rs : List Ru, rs.map re = metF E A n ∧ rs.Nodup ∧ ∀ r, r ∈ rs ↔ r ∈ meetR R A n := by
  cases hr : rightB A n with
  | false =>
    refine ⟨[], ?_, List.nodup_nil, fun r => ?_⟩
    · unfold metF; rw [hr]; rfl
    · unfold meetR; rw [hr]; simp
  | true =>
    have hf : metF E A n = srt E (metQ (pth A n.toNat)) := by unfold metF; rw [hr]; rfl
    rw [hf]
    obtain ⟨rs, e1, e2⟩ := rules_of (R := R) (srt E (metQ (pth A n.toNat))) (fun y hy => (hp.m y).1 (((srt_lst hn _).2 y).1 hy).1)
    refine ⟨rs, e1, ?_, fun r => ?_⟩
    · refine List.Pairwise.of_map (S := fun a b => a ≠ b) (f := re) (fun a b h e => h (congrArg _ e)) ?_
      rw [e1]; exact nodup_srt hn _
    · rw [mem_meetR hr]
      constructor
      · intro h
        have : re r ∈ srt E (metQ (pth A n.toNat)) := by rw [← e1]; exact List.mem_map.2 ⟨r, h, rfl⟩
        exact ⟨e2 r h, (((srt_lst hn _).2 _).1 this).2⟩
      · rintro ⟨h1, h2⟩
        have : re r ∈ srt E (metQ (pth A n.toNat)) := ((srt_lst hn _).2 _).2 ⟨(hp.m _).2 ⟨r, h1, rfl⟩, h2⟩
        rw [← e1] at this
        obtain ⟨s, hs, q⟩ := List.mem_map.1 this
        have : s = r := id_inj hp.n (e2 s hs) h1 (congrArg Prod.snd q)
        rw [← this]; exact hs
set_option maxRecDepth 100000 in
set_option maxHeartbeats 1000000 in
theorem tmeet_any {Z : Nat → Prop} {p : Nat} {W : World} {M : List Ru} (h : Tab Z p W M) (hM : Strict M) (A : Nat) (n : Int) (hA : A < 4294967296) (hl : M.length ≤ 100000) :
    Calls Try.prog 34 #[.pointer (some ⟨p, 0, none⟩), pv (A : Nat) n] W fun e w' => ∃ v, e = .returned v ∧ Rules w' W.heap.size v (meetR M A n) ∧ Below W.heap.size W w' := by
  have HH := Lib.hid h
  have hids := tab_ids h
  obtain ⟨m, E, t, hm, hp, hle, hmz⟩ := h
  have hn := t.nodup
  obtain ⟨rs, e1, e2, e3⟩ := met_rules hp hn A n
  have hrl : rs.length ≤ 100000 := by
    have := nodup_le rs (meetR M A n) e2 (fun x hx => (e3 x).1 hx)
    have := meetR_len M A n
    omega
  have hE : E.length ≤ 100000 := by omega
  have HT := Lib.hid (fun w (hb : Below W.heap.size W w) => tMeeting (t.on hb) A n hA hE)
  rw [← e1] at HT
  have HNm : Hid (∀ w v b0, Below W.heap.size W w → Ents w b0 v (rs.map re) → Calls Try.prog 55 #[.pointer (some ⟨p, 0, none⟩), v] w fun e w' => ∃ u, e = .returned u ∧ Rules w' W.heap.size u rs ∧ Below w.heap.size w w') := Lib.hid (fun w v b0 hb hv => (named_any (HH.out.on hb) rs (fun r hr => by
    have := (e3 r).1 hr
    unfold meetR at this
    split at this
    · exact (List.mem_filter.1 this).1
    · cases this) v b0 hv hrl).mono (fun e w' q => by obtain ⟨u, q1, q2, q3⟩ := q; exact ⟨u, q1, Row.base q2 hb.size, q3⟩))
  have HQ := Lib.hid e3
  have HND := Lib.hid e2
  have HMM := Lib.hid (meetR_strict hM A n)
  have HMI := Lib.hid (meetR_ids hids A n)
  clear hm hp hle hmz t hn hE e1 e2 e3 hids
  go_enter Try.func34, Try.ntmps34
  go_upto_region 1 with fail
  refine at_code (S := fun w => Blk w W.heap.size [.int .u32 (A : Nat), .int .i64 n] ∧ Below W.heap.size W w) ⟨Blk.new W 25 [.int .u32 (A : Nat), .int .i64 n], bel_al (Below.refl _ _) _⟩ (fun W1 h1 => ?_)
  have B1 := Lib.hid h1.2
  have x_0 := h1.1.1 0 _ rfl
  have x_1 := h1.1.1 1 _ rfl
  clear h1
  go_upto_region 3 with fail
  refine wp_region_noPanic ?_
  refine wp_region_along (S := fun w' => Below W1.heap.size W1 w' ∧ ∀ b o, (W1.cell? ⟨b, o, none⟩).isSome = true → w'.cell? ⟨b, o, none⟩ = W1.cell? ⟨b, o, none⟩) ([(0, true), (1, true), (2, true), (3, true), (4, true), (5, false), (6, false), (7, true)]) (by kernel_rfl) (by as_aux_lemma => kernel_rfl) (by kernel_rfl) (by kernel_rfl) (by as_aux_lemma => kernel_rfl) (by as_aux_lemma => kernel_rfl) (fun _ _ _ _ _ h => h) (ckeep (Below.refl _ _).drew) (fun hH => ?_)
  simp only [stepsOf, pickOp]
  iterate 5 (first | (refine along_skip (by rfl) ?_; try simp only [Act.put, List.setIfInBounds_toArray, List.set_cons_zero, List.set_cons_succ]) | (refine along_pure ?_ (by rfl) (fun w hSw => ?_) ?_; rotate_left; ((try dsimp only at hSw); go_simp; try with_reducible rfl); try simp only [Act.put, List.setIfInBounds_toArray, List.set_cons_zero, List.set_cons_succ]))
  refine along_bar (fun K hK => ?_)
  go_simp
  refine (HT.out _ (bel_on' B1.out hH.1)).mono ?_
  rintro e w' ⟨v, rfl, hv, hbx⟩
  try go_wp2_with fail
  refine hK.out _ _ (ckeep (bel_on' hH.1 hbx)) (fun hH' => ?_)
  clear hK K hH
  have hH := hH'
  clear hH'
  have V2 := Lib.hid hv
  clear hv hbx
  try simp only [Act.put, List.setIfInBounds_toArray, List.set_cons_zero, List.set_cons_succ]
  refine along_bar (fun K hK => ?_)
  go_simp
  refine (HNm.out _ _ _ (bel_on' B1.out hH.1) V2.out).mono ?_
  rintro e w' ⟨u, rfl, hu, hbx⟩
  try go_wp2_with fail
  refine hK.out _ _ (ckeep (bel_on' hH.1 hbx)) (fun hH' => ?_)
  clear hK K hH
  have hH := hH'
  clear hH'
  have U3 := Lib.hid hu
  clear hu hbx V2
  try simp only [Act.put, List.setIfInBounds_toArray, List.set_cons_zero, List.set_cons_succ]
  iterate 1 (first | (refine along_skip (by rfl) ?_; try simp only [Act.put, List.setIfInBounds_toArray, List.set_cons_zero, List.set_cons_succ]) | (refine along_pure ?_ (by rfl) (fun w hSw => ?_) ?_; rotate_left; ((try dsimp only at hSw); go_simp; try with_reducible rfl); try simp only [Act.put, List.setIfInBounds_toArray, List.set_cons_zero, List.set_cons_succ]))
  refine along_end (NoPanic.normal ?_)
  have B3 := Lib.hid (bel_on' B1.out hH.1)
  obtain ⟨W3, hW3⟩ : ∃ x, w' = x := ⟨_, rfl⟩
  rw [hW3] at B3 U3 ⊢
  clear hH x_0 x_1 HT HNm hW3 B1
  have U4 := U3.out
  obtain ⟨ad, cap, ev⟩ := Row.slice U4
  subst ev
  have CS := Lib.hid (sort_rows _ _ _ rs U4 (by omega))
  clear U4
  go_wp2_with fail
  refine CS.out.mono ?_
  rintro e w4 ⟨rfl, L', hpp, ha, hr, hk⟩
  have hL : L' = meetR M A n := asc_eq ha (fun r => by rw [hpp.mem_iff, HQ.out]) (hpp.nodup_iff.2 HND.out) HMM.out HMI.out
  rw [hL] at hr
  have HB := Lib.hid (show Below W.heap.size W w4 from B3.out.trans (hk.below B3.out.size (fun k hk2 e => by
    have := (row_own U3.out k e).1; omega)))
  have HR := Lib.hid (show Rules w4 W.heap.size _ (meetR M A n) from hr)
  clear hpp ha hr hk hL CS
  go_wp2
  go_ret
  exact ⟨_, rfl, HR.out, HB.out⟩
theorem tmeet_nil (W : World) (A : Nat) (n : Int) : Calls Try.prog 34 #[.pointer none, pv (A : Nat) n] W fun e w' => e = .returned (.slice none 0 0) ∧ Below W.heap.size W w' := by
  go_enter Try.func34, Try.ntmps34
  go_wp2
  go_ret
  exact ⟨rfl, bel_al (Below.refl _ _) _⟩
end Go.Proofs.Ytgcbngephokegaa
