/- Rules and Meeting of a table. Meeting of a table. -/
import Derived.Test.YtgcbngephokegaaT14
import Derived.Test.YtgcbngephokegaaAlong
namespace Go.Proofs.Ytgcbngephokegaa
open Go.RowKit Go.Maps Go.MapKept Go.ChangeMaps Go.WideElems Go.Joins
set_option linter.unusedVariables false
set_option linter.unusedSimpArgs false

/-- Rules as they are asked. -/
def Strict (L : List Ru) : Prop := L.Pairwise fun x y => compR x y < 0
theorem strict_uniq : ∀ {r s : List Ru}, Strict r → Strict s → (∀ x, x ∈ r ↔ x ∈ s) → r = s
  | [], [], _, _, _ => rfl
  | [], y :: s, _, _, h => by have := (h y).2 List.mem_cons_self; cases this
  | x :: r, [], _, _, h => by have := (h x).1 List.mem_cons_self; cases this
  | x :: r, y :: s, hr, hs, h => by
    obtain ⟨r1, r2⟩ := List.pairwise_cons.1 hr
    obtain ⟨s1, s2⟩ := List.pairwise_cons.1 hs
    have irr : ∀ z, ¬ compR z z < 0 := fun z => by rw [compR_self]; omega
    have e : x = y := by
      rcases List.mem_cons.1 ((h x).1 List.mem_cons_self) with e | e
      · exact e
      · rcases List.mem_cons.1 ((h y).2 List.mem_cons_self) with k | k
        · exact k.symm
        · exact absurd (compR_trans _ _ _ (s1 _ e) (r1 _ k)) (irr _)
    subst e
    congr 1
    refine strict_uniq r2 s2 (fun z => ?_)
    constructor
    · intro hz
      rcases List.mem_cons.1 ((h z).1 (List.mem_cons_of_mem _ hz)) with e | e
      · subst e; exact absurd (r1 _ hz) (irr _)
      · exact e
    · intro hz
      rcases List.mem_cons.1 ((h z).2 (List.mem_cons_of_mem _ hz)) with e | e
      · subst e; exact absurd (s1 _ hz) (irr _)
      · exact e
theorem asc_strict {L : List Ru} (h : Asc L) (hn : (L.map Ru.id).Nodup) : Strict L := by
  have h2 : L.Pairwise fun x y => x.id ≠ y.id := List.pairwise_map.1 hn
  refine (List.Pairwise.and h h2).imp (fun {x y} q => ?_)
  have h3 := compR_neg x y
  have h4 : compR x y ≠ 0 := fun e => q.2 ((compR_zero x y).1 e).2.2
  have := q.1
  omega
theorem Strict.nodup {L : List Ru} (h : Strict L) : L.Nodup := h.imp (fun {x y} q e => by rw [e, compR_self] at q; omega)
theorem asc_eq {L M : List Ru} (h : Asc L) (hp : ∀ r, r ∈ L ↔ r ∈ M) (hl : L.Nodup) (hM : Strict M) (hn : (M.map Ru.id).Nodup) : L = M := by
  have hpm : L.Perm M := (List.perm_ext_iff_of_nodup hl hM.nodup).2 hp
  exact strict_uniq (asc_strict h ((hpm.map Ru.id).nodup_iff.2 hn)) hM hp
theorem tab_ids {Z : Nat → Prop} {p : Nat} {w : World} {R : List Ru} (h : Tab Z p w R) : (R.map Ru.id).Nodup := by obtain ⟨m, E, -, -, hp, -⟩ := h; exact hp.n
theorem Tab.perm {Z : Nat → Prop} {p : Nat} {w : World} {R R' : List Ru} (h : Tab Z p w R) (he : ∀ r, r ∈ R' ↔ r ∈ R) (hn : (R'.map Ru.id).Nodup) : Tab Z p w R' := by
  obtain ⟨m, E, t, hm, hp, hl, hz⟩ := h
  have hp' : TabP R' E := ⟨fun y => by rw [hp.m]; exact ⟨fun ⟨r, h1, h2⟩ => ⟨r, (he r).2 h1, h2⟩, fun ⟨r, h1, h2⟩ => ⟨r, (he r).1 h1, h2⟩⟩, hn, fun r hr => hp.r r ((he r).1 hr)⟩
  refine ⟨m, E, t, ?_, hp', hp'.len t.nodup, hz⟩
  cases m with
  | none =>
    have h0 : R = [] := hm
    show R' = []
    cases R' with
    | nil => rfl
    | cons x xs => have := (he x).1 List.mem_cons_self; rw [h0] at this; cases this
  | some b => exact MapV.perm hm (fun p => by rw [mem_ruL, mem_ruL, he])
set_option maxRecDepth 100000 in
theorem sortedf_any (W : World) (m : Option Nat) (R M : List Ru) (h : RMap W m R) (hR : R.length ≤ 100000) (he : ∀ r, r ∈ R ↔ r ∈ M) (hRn : (R.map Ru.id).Nodup) (hM : Strict M) (hn : (M.map Ru.id).Nodup) :
    Calls Try.prog 57 #[valsF W, .func (.func 40) #[] #[]] (W.alloc (.cells #[.map m] 106)) fun e w' => ∃ v, e = .returned v ∧ Rules w' (W.heap.size + 1) v M ∧ Below (W.heap.size + 1) (W.alloc (.cells #[.map m] 106)) w' := by
  have cC := Lib.hid (collectR 73 #[.pointer (some ⟨W.heap.size, 0, none⟩)] (enters_of Try.func73 (by kernel_rfl) rfl) (AllOnce R) R.length (by omega) (W.alloc (.cells #[.map m] 106)) (values_gives 2 (by omega) m R hRn W h))
  have hs0 : (W.alloc (.cells #[.map m] 106)).heap.size = W.heap.size + 1 := by simp
  obtain ⟨W0, hW0⟩ : ∃ x, W.alloc (.cells #[.map m] 106) = x := ⟨_, rfl⟩
  rw [hW0] at cC hs0 ⊢
  rw [← hs0]
  clear hW0 hs0 h
  go_enter Try.func57, Try.ntmps57
  go_wp2_with fail
  refine cC.out.mono ?_
  rintro e w2 ⟨v, ss, rfl, hS, hv, hb⟩
  have hlen : ss.length ≤ 1000000 := by
    have := nodup_le ss R hS.1 (fun x hx => (hS.2 x).1 hx)
    omega
  have B2 := Lib.hid hb
  have CS := Lib.hid (sort_rows w2 W0.heap.size v ss hv hlen)
  have HS := Lib.hid hS
  have HV := Lib.hid hv
  obtain ⟨ad, cap, ev⟩ := Row.slice hv
  subst ev
  clear hb hS hv cC hlen
  go_wp2_with fail
  refine CS.out.mono ?_
  rintro e w3 ⟨rfl, L', hp, ha, hr, hk⟩
  have hL : L' = M := asc_eq ha (fun r => by rw [hp.mem_iff, HS.out.2, he]) (hp.nodup_iff.2 HS.out.1) hM hn
  rw [hL] at hr
  have HR := Lib.hid hr
  have HB := Lib.hid (show Below W0.heap.size W0 w3 from B2.out.trans (hk.below B2.out.size (fun k hk2 e => by
    have := (row_own HV.out k e).1; omega)))
  clear hp ha hr hk hL CS
  go_wp2
  go_ret
  exact ⟨_, rfl, HR.out, HB.out⟩
set_option maxRecDepth 100000 in
theorem rules_any {Z : Nat → Prop} {p : Nat} {W : World} {M : List Ru} (h : Tab Z p W M) (hM : Strict M) (hl : M.length ≤ 100000) :
    Calls Try.prog 33 #[.pointer (some ⟨p, 0, none⟩)] W fun e w' => ∃ v, e = .returned v ∧ Rules w' W.heap.size v M ∧ Below W.heap.size W w' := by
  obtain ⟨m, hp, hm, hn, -⟩ := tab_look h
  have cV := Lib.hid (values_any m W)
  have cS := Lib.hid (sortedf_any W m M M hm hl (fun r => Iff.rfl) hn hM hn)
  have B1 := Lib.hid (bel_al (Below.refl W.heap.size W) (.cells #[.map m] 106))
  clear hm hn h
  go_enter Try.func33, Try.ntmps33
  go_wp2_with fail
  refine cV.out.mono ?_
  rintro e w2 ⟨rfl, rfl⟩
  go_wp2_with fail
  refine cS.out.mono ?_
  rintro e w3 ⟨v, rfl, hr, hb⟩
  have HR := Lib.hid (show Rules w3 W.heap.size v M from Row.base hr (by omega))
  have HB := Lib.hid (show Below W.heap.size W w3 from B1.out.trans (hb.mono (by omega)))
  clear hr hb cS cV hp
  go_wp2
  go_ret
  exact ⟨v, rfl, HR.out, HB.out⟩
theorem rules_nil (W : World) : Calls Try.prog 33 #[.pointer none] W fun e w' => e = .returned (.slice none 0 0) ∧ W = w' := by
  go_enter Try.func33, Try.ntmps33
  go_wp2
  go_ret
  exact ⟨rfl, rfl⟩
/-- The rules that meet a prefix. -/
def meetR (M : List Ru) (A : Nat) (n : Int) : List Ru := if rightB A n then M.filter (fun r => metQ (pth A n.toNat) (re r).1) else []
end Go.Proofs.Ytgcbngephokegaa
namespace Go.Proofs.Ytgcbngephokegaa
open Go.RowKit Go.Maps Go.MapKept Go.ChangeMaps Go.WideElems Go.Joins
set_option linter.unusedVariables false
set_option linter.unusedSimpArgs false

theorem mem_meetR {M : List Ru} {A : Nat} {n : Int} (hr : rightB A n = true) {r : Ru} : r ∈ meetR M A n ↔ r ∈ M ∧ metQ (pth A n.toNat) (re r).1 = true := by
  unfold meetR; rw [hr, if_pos rfl, List.mem_filter]
theorem meetR_strict {M : List Ru} (h : Strict M) (A : Nat) (n : Int) : Strict (meetR M A n) := by
  unfold meetR; split
  · exact h.filter _
  · exact List.Pairwise.nil
theorem meetR_ids {M : List Ru} (h : (M.map Ru.id).Nodup) (A : Nat) (n : Int) : ((meetR M A n).map Ru.id).Nodup := by
  unfold meetR; split
  · exact h.sublist (List.Sublist.map _ List.filter_sublist)
  · exact List.nodup_nil
theorem meetR_len (M : List Ru) (A : Nat) (n : Int) : (meetR M A n).length ≤ M.length := by
  unfold meetR; split
  · exact List.length_filter_le _ _
  · exact Nat.zero_le _
/-- The rules of a tree's answer. -/
theorem met_rules {R : List Ru} {E : List Ent} (hp : TabP R E) (hn : E.Nodup) (A : Nat) (n : Int) : ∃ rs : List Ru, rs.map re = metF E A n ∧ rs.Nodup ∧ ∀ r, r ∈ rs ↔ r ∈ meetR R A n := by
  cases hr : rightB A n with
  | false =>
    refine ⟨[], ?_, List.nodup_nil, fun r => ?_⟩
    · unfold metF; rw [hr]; rfl
    · unfold meetR; rw [hr]; simp
  | true =>
    have hf : metF E A n = srt E (metQ (pth A n.toNat)) := by unfold metF; rw [hr]; rfl
    rw [hf]
    obtain ⟨rs, e1, e2⟩ := rules_of (R := R) (srt E (metQ (pth A n.toNat))) (fun y hy => (hp.m y).1 (((srt_lst hn _).2 y).1 hy).1)
    refine ⟨rs, e1, ?_, fun r => ?_⟩
    · refine List.Pairwise.of_map (S := fun a b => a ≠ b) (f := re) (fun a b h e => h (congrArg _ e)) ?_
      rw [e1]; exact nodup_srt hn _
    · rw [mem_meetR hr]
      constructor
      · intro h
        have : re r ∈ srt E (metQ (pth A n.toNat)) := by rw [← e1]; exact List.mem_map.2 ⟨r, h, rfl⟩
        exact ⟨e2 r h, (((srt_lst hn _).2 _).1 this).2⟩
      · rintro ⟨h1, h2⟩
        have : re r ∈ srt E (metQ (pth A n.toNat)) := ((srt_lst hn _).2 _).2 ⟨(hp.m _).2 ⟨r, h1, rfl⟩, h2⟩
        rw [← e1] at this
        obtain ⟨s, hs, q⟩ := List.mem_map.1 this
        have : s = r := id_inj hp.n (e2 s hs) h1 (congrArg Prod.snd q)
        rw [← this]; exact hs
set_option maxRecDepth 100000 in
set_option maxHeartbeats 1000000 in
theorem tmeet_any {Z : Nat → Prop} {p : Nat} {W : World} {M : List Ru} (h : Tab Z p W M) (hM : Strict M) (A : Nat) (n : Int) (hA : A < 4294967296) (hl : M.length ≤ 100000) :
    Calls Try.prog 34 #[.pointer (some ⟨p, 0, none⟩), pv (A : Nat) n] W fun e w' => ∃ v, e = .returned v ∧ Rules w' W.heap.size v (meetR M A n) ∧ Below W.heap.size W w' := by
  have HH := Lib.hid h
  have hids := tab_ids h
  obtain ⟨m, E, t, hm, hp, hle, hmz⟩ := h
  have hn := t.nodup
  obtain ⟨rs, e1, e2, e3⟩ := met_rules hp hn A n
  have hrl : rs.length ≤ 100000 := by
    have := nodup_le rs (meetR M A n) e2 (fun x hx => (e3 x).1 hx)
    have := meetR_len M A n
    omega
  have hE : E.length ≤ 100000 := by omega
  have HT := Lib.hid (fun w (hb : Below W.heap.size W w) => tMeeting (t.on hb) A n hA hE)
  rw [← e1] at HT
  have HNm : Hid (∀ w v b0, Below W.heap.size W w → Ents w b0 v (rs.map re) → Calls Try.prog 55 #[.pointer (some ⟨p, 0, none⟩), v] w fun e w' => ∃ u, e = .returned u ∧ Rules w' W.heap.size u rs ∧ Below w.heap.size w w') := Lib.hid (fun w v b0 hb hv => (named_any (HH.out.on hb) rs (fun r hr => by
    have := (e3 r).1 hr
    unfold meetR at this
    split at this
    · exact (List.mem_filter.1 this).1
    · cases this) v b0 hv hrl).mono (fun e w' q => by obtain ⟨u, q1, q2, q3⟩ := q; exact ⟨u, q1, Row.base q2 hb.size, q3⟩))
  have HQ := Lib.hid e3
  have HND := Lib.hid e2
  have HMM := Lib.hid (meetR_strict hM A n)
  have HMI := Lib.hid (meetR_ids hids A n)
  clear hm hp hle hmz t hn hE e1 e2 e3 hids
  go_enter Try.func34, Try.ntmps34
  go_upto_region 1 with fail
  refine at_code (S := fun w => Blk w W.heap.size [.int .u32 (A : Nat), .int .i64 n] ∧ Below W.heap.size W w) ⟨Blk.new W 25 [.int .u32 (A : Nat), .int .i64 n], bel_al (Below.refl _ _) _⟩ (fun W1 h1 => ?_)
  have B1 := Lib.hid h1.2
  have x_0 := h1.1.1 0 _ rfl
  have x_1 := h1.1.1 1 _ rfl
  clear h1
  go_upto_region 3 with fail
  refine wp_region_noPanic ?_
  refine wp_region_along (S := fun w' => Below W1.heap.size W1 w' ∧ ∀ b o, (W1.cell? ⟨b, o, none⟩).isSome = true → w'.cell? ⟨b, o, none⟩ = W1.cell? ⟨b, o, none⟩) ([(0, true), (1, true), (2, true), (3, true), (4, true), (5, false), (6, false), (7, true)]) (by kernel_rfl) (by as_aux_lemma => kernel_rfl) (by kernel_rfl) (by kernel_rfl) (by as_aux_lemma => kernel_rfl) (by as_aux_lemma => kernel_rfl) (fun _ _ _ _ _ h => h) (ckeep (Below.refl _ _).drew) (fun hH => ?_)
  simp only [stepsOf, pickOp]
  iterate 5 (first | (refine along_skip (by rfl) ?_; try simp only [Act.put, List.setIfInBounds_toArray, List.set_cons_zero, List.set_cons_succ]) | (refine along_pure ?_ (by rfl) (fun w hSw => ?_) ?_; rotate_left; ((try dsimp only at hSw); go_simp; try with_reducible rfl); try simp only [Act.put, List.setIfInBounds_toArray, List.set_cons_zero, List.set_cons_succ]))
  refine along_bar (fun K hK => ?_)
  go_simp
  refine (HT.out _ (bel_on' B1.out hH.1)).mono ?_
  rintro e w' ⟨v, rfl, hv, hbx⟩
  try go_wp2_with fail
  refine hK.out _ _ (ckeep (bel_on' hH.1 hbx)) (fun hH' => ?_)
  clear hK K hH
  have hH := hH'
  clear hH'
  have V2 := Lib.hid hv
  clear hv hbx
  try simp only [Act.put, List.setIfInBounds_toArray, List.set_cons_zero, List.set_cons_succ]
  refine along_bar (fun K hK => ?_)
  go_simp
  refine (HNm.out _ _ _ (bel_on' B1.out hH.1) V2.out).mono ?_
  rintro e w' ⟨u, rfl, hu, hbx⟩
  try go_wp2_with fail
  refine hK.out _ _ (ckeep (bel_on' hH.1 hbx)) (fun hH' => ?_)
  clear hK K hH
  have hH := hH'
  clear hH'
  have U3 := Lib.hid hu
  clear hu hbx V2
  try simp only [Act.put, List.setIfInBounds_toArray, List.set_cons_zero, List.set_cons_succ]
  iterate 1 (first | (refine along_skip (by rfl) ?_; try simp only [Act.put, List.setIfInBounds_toArray, List.set_cons_zero, List.set_cons_succ]) | (refine along_pure ?_ (by rfl) (fun w hSw => ?_) ?_; rotate_left; ((try dsimp only at hSw); go_simp; try with_reducible rfl); try simp only [Act.put, List.setIfInBounds_toArray, List.set_cons_zero, List.set_cons_succ]))
  refine along_end (NoPanic.normal ?_)
  have B3 := Lib.hid (bel_on' B1.out hH.1)
  obtain ⟨W3, hW3⟩ : ∃ x, w' = x := ⟨_, rfl⟩
  rw [hW3] at B3 U3 ⊢
  clear hH x_0 x_1 HT HNm hW3 B1
  have U4 := U3.out
  obtain ⟨ad, cap, ev⟩ := Row.slice U4
  subst ev
  have CS := Lib.hid (sort_rows _ _ _ rs U4 (by omega))
  clear U4
  go_wp2_with fail
  refine CS.out.mono ?_
  rintro e w4 ⟨rfl, L', hpp, ha, hr, hk⟩
  have hL : L' = meetR M A n := asc_eq ha (fun r => by rw [hpp.mem_iff, HQ.out]) (hpp.nodup_iff.2 HND.out) HMM.out HMI.out
  rw [hL] at hr
  have HB := Lib.hid (show Below W.heap.size W w4 from B3.out.trans (hk.below B3.out.size (fun k hk2 e => by
    have := (row_own U3.out k e).1; omega)))
  have HR := Lib.hid (show Rules w4 W.heap.size _ (meetR M A n) from hr)
  clear hpp ha hr hk hL CS
  go_wp2
  go_ret
  exact ⟨_, rfl, HR.out, HB.out⟩
theorem tmeet_nil (W : World) (A : Nat) (n : Int) : Calls Try.prog 34 #[.pointer none, pv (A : Nat) n] W fun e w' => e = .returned (.slice none 0 0) ∧ Below W.heap.size W w' := by
  go_enter Try.func34, Try.ntmps34
  go_wp2
  go_ret
  exact ⟨rfl, bel_al (Below.refl _ _) _⟩
end Go.Proofs.Ytgcbngephokegaa
