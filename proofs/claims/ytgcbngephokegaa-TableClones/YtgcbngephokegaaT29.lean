/- TableClones: the walk. -/
import Derived.Test.YtgcbngephokegaaT28
namespace Go.Proofs.Ytgcbngephokegaa
open Go.RowKit Go.Maps Go.MapKept Go.ChangeMaps Go.WideElems Go.Joins
set_option linter.unusedVariables false
set_option linter.unusedSimpArgs false

set_option maxRecDepth 100000 in
theorem clones_many0 (L L' : List ChR) (la la' : Option Addr) (lc lc' t : Nat) (hn : 40 < L.length) (W : World) : Calls Try.prog 6 #[.slice la L.length lc, .slice la' L'.length lc', .int .u8 (t : Nat)] W fun e w' => e = .returned (.bool true) ∧ Below W.heap.size W w' := by
  have h := Lib.hid (tawake_any W)
  go_enter Try.func6, Try.ntmps6
  go_wp2_with fail
  refine h.out.mono ?_
  rintro e w' ⟨rfl, hb⟩
  have B := Lib.hid hb
  clear hb h
  go_wp2
  go_ret
  exact ⟨rfl, B.out⟩
set_option maxRecDepth 100000 in
theorem clones_many1 (L L' : List ChR) (la la' : Option Addr) (lc lc' t : Nat) (h0 : L.length ≤ 40) (hn : 40 < L'.length) (W : World) : Calls Try.prog 6 #[.slice la L.length lc, .slice la' L'.length lc', .int .u8 (t : Nat)] W fun e w' => e = .returned (.bool true) ∧ Below W.heap.size W w' := by
  have h := Lib.hid (tawake_any W)
  obtain ⟨n, hN⟩ : ∃ n, L.length = n := ⟨_, rfl⟩
  rw [hN] at h0 ⊢
  clear hN
  go_enter Try.func6, Try.ntmps6
  go_wp2_with fail
  refine h.out.mono ?_
  rintro e w' ⟨rfl, hb⟩
  have B := Lib.hid hb
  clear hb h
  go_wp2
  go_ret
  exact ⟨rfl, B.out⟩
/-- What the other table has. -/
structure Oth (M Mo : List Ru) (t i : Nat) : Prop where
  m : ∀ r, r ∈ Mo ↔ ∃ j, j < i ∧ M[(j + t) % M.length]? = some r
  l : Mo.length = i
theorem oth_nil (M : List Ru) (t : Nat) : Oth M [] t 0 := ⟨fun r => ⟨fun h => (by cases h), fun ⟨j, hj, _⟩ => (by omega)⟩, rfl⟩
theorem oth_more {M Mo : List Ru} {t i : Nat} (h : Oth M Mo t i) (hi : i < M.length) (hn : (M.map Ru.id).Nodup) (hr : MRight M) {x : Ru} (hx : M[(i + t) % M.length]? = some x) : taddC Mo x = 0 ∧ Oth M (taddF Mo x) t (i + 1) := by
  have h0 : x.id ∉ Mo.map Ru.id := fun c => by
    obtain ⟨y, hy, e⟩ := List.mem_map.1 c
    obtain ⟨j, hj, hjy⟩ := (h.m y).1 hy
    obtain ⟨h1, e1⟩ := List.getElem?_eq_some_iff.1 hx
    obtain ⟨h2, e2⟩ := List.getElem?_eq_some_iff.1 hjy
    have h3 : (M.map Ru.id)[(j + t) % M.length]'(by rw [List.length_map]; exact h2) = (M.map Ru.id)[(i + t) % M.length]'(by rw [List.length_map]; exact h1) := by
      rw [List.getElem_map, List.getElem_map, e1, e2, e]
    exact mod_inj hj hi ((List.getElem_inj hn).1 h3)
  have hr := (hr x (List.mem_of_getElem? hx)).1
  unfold taddC taddF
  rw [hr, if_pos rfl, if_pos rfl, if_neg h0, if_neg h0]
  refine ⟨rfl, fun r => ?_, by rw [List.length_cons, h.l]⟩
  rw [List.mem_cons, h.m]
  constructor
  · rintro (rfl | ⟨j, hj, e⟩)
    · exact ⟨i, by omega, hx⟩
    · exact ⟨j, by omega, e⟩
  · rintro ⟨j, hj, e⟩
    by_cases c : j = i
    · subst c
      exact Or.inl (Option.some.inj (e.symm.trans hx))
    · exact Or.inr ⟨j, by omega, e⟩
theorem oth_all {M Mo : List Ru} {t : Nat} (h : Oth M Mo t M.length) : ∀ r, r ∈ M ↔ r ∈ Mo := fun r => by
  rw [h.m]
  constructor
  · intro hr
    obtain ⟨k, hk, e⟩ := List.mem_iff_getElem.1 hr
    have hn : 0 < M.length := by omega
    obtain ⟨s, hs⟩ : ∃ s, t % M.length = s := ⟨_, rfl⟩
    have hsl : s < M.length := by rw [← hs]; exact Nat.mod_lt _ hn
    refine ⟨(k + M.length - s) % M.length, Nat.mod_lt _ hn, ?_⟩
    have : ((k + M.length - s) % M.length + t) % M.length = k := by
      rw [Nat.mod_add_mod, ← Nat.add_mod_mod, hs, Nat.sub_add_cancel (by omega), Nat.add_mod_right, Nat.mod_eq_of_lt hk]
    rw [this, List.getElem?_eq_getElem hk, e]
  · rintro ⟨j, -, e⟩
    exact List.mem_of_getElem? e
set_option maxRecDepth 100000 in
set_option maxHeartbeats 8000000 in
theorem clones_few (L L' : List ChR) (la la' : Option Addr) (lc lc' t : Nat) (ht : t < 256) (hok : ∀ x ∈ L, x.Ok) (hok' : ∀ x ∈ L', x.Ok) (hn : L.length ≤ 40) (hn' : L'.length ≤ 40) (W : World) (hr : Rw W la (L.flatMap ChR.cells)) (hr' : Rw W la' (L'.flatMap ChR.cells)) :
    Calls Try.prog 6 #[.slice la L.length lc, .slice la' L'.length lc', .int .u8 (t : Nat)] W fun e w' => e = .returned (.bool true) ∧ Below W.heap.size W w' := by
  have CM := Lib.hid (made_any L la lc hok (by omega) W hr)
  have hml := madeL_len L L.length
  rw [List.take_of_length_le (Nat.le_refl _)] at hml
  have R' := Lib.hid hr'
  have OK' := Lib.hid hok'
  obtain ⟨M, hM⟩ : ∃ M, madeL L = M := ⟨_, rfl⟩
  rw [hM] at CM hml
  have hml0 : Hid (M.length ≤ 40) := Lib.hid (by omega)
  have hml : M.length ≤ 100000 := by omega
  obtain ⟨n, hN⟩ : ∃ n, L.length = n := ⟨_, rfl⟩
  rw [hN] at CM hn ⊢
  obtain ⟨n', hN'⟩ : ∃ n, L'.length = n := ⟨_, rfl⟩
  rw [hN'] at hn' ⊢
  have HN' := Lib.hid hN'
  clear hM hr hok hN hr' hok' hN'
  go_enter Try.func6, Try.ntmps6
  go_wp2_with fail
  refine CM.out.mono ?_
  rintro e w1 ⟨p, lv, Y, rfl, h1⟩
  have S1 := Lib.hid h1
  clear h1 CM
  go_wp2_with fail
  refine (tclone_any S1.out.t S1.out.a.s hml).mono ?_
  rintro e w2 ⟨rfl, ht2, hb⟩
  have S2 := Lib.hid (S1.out.on hb)
  clear ht2 hb S1
  go_wp2_with fail
  refine (tclone_any S2.out.t S2.out.a.s hml).mono ?_
  rintro e w3 ⟨rfl, ht3, hb⟩
  obtain ⟨a, ha⟩ : ∃ a, w2.heap.size = a := ⟨_, rfl⟩
  rw [ha] at ht3 hb
  have T3 := Lib.hid ht3
  have B3 := Lib.hid hb
  have HA := Lib.hid ha
  rw [ha]
  clear ht3 hb ha
  go_wp2_with fail
  go_loopw [44] (fun iv wr => ∃ (i : Nat) (Mc : List Ru), iv = .int .i64 (i : Nat) ∧ i ≤ n' ∧ Hid (Mc.length ≤ 40 + i) ∧ Hid (Tab (fun k => k < a) a wr Mc) ∧ Hid (Below a w2 wr)) (fun iv _ => n' - (intOf iv).toNat)
  case atStart => exact ⟨0, M, rfl, Nat.zero_le _, Lib.hid (by have := hml0.out; omega), T3, B3⟩
  case round =>
    obtain ⟨i, Mc, rfl, hi, Hl, T, B⟩ := hrel
    clear T3 B3
    by_cases hin : i < n'
    · have hw1 : IntKind.i64.wrap ((i : Int) + 1) = ((i + 1 : Nat) : Int) := by rw [IntKind.wrap_i64]; omega
      obtain ⟨x, hx⟩ : ∃ x, L'[i]? = some x := ⟨_, List.getElem?_eq_getElem (by rw [HN'.out]; exact hin)⟩
      obtain ⟨b, o, rfl, c_0, c_1, c_2, c_3, c_4, c_5, c_6⟩ := chg_at (R'.out.on (S2.out.on (show Below w2.heap.size w2 wr by rw [HA.out]; exact B.out)).below) hx
      have hxo := Lib.hid (show x.r.Ok from OK'.out x (List.mem_of_getElem? hx))
      have hl1 : Mc.length ≤ 100000 := by have := Hl.out; omega
      have hl2 : Hid ((dropI Mc x.r.id).length ≤ 40 + i) := Lib.hid (Nat.le_trans (dropI_len Mc x.r.id) Hl.out)
      have hl3 : (dropI Mc x.r.id).length ≤ 100000 := by have := hl2.out; omega
      clear hx
      obtain ⟨nb, hnb⟩ : ∃ n, wr.heap.size = n := ⟨_, rfl⟩
      have haw : a ≤ nb := by rw [← hnb, ← HA.out]; exact B.out.size
      go_upto_region 10 with fail
      refine at_code (S := fun w => Blk w nb x.cells ∧ Tab (fun k => k < a ∨ k = nb) a w Mc ∧ Below a w2 w) ⟨by rw [← hnb]; exact Blk.new wr 59 x.cells, (T.out.grow (bel_al (Below.refl _ _) _)).less (fun k c => c.imp id (fun e => by rw [e, ← hnb, World.size_alloc]; omega)), B.out.trans ((bel_al (Below.refl wr.heap.size wr) _).mono (by rw [hnb]; exact haw))⟩ (fun w4 h4 => ?_)
      have X4 := Lib.hid h4.1
      have T4 := Lib.hid h4.2.1
      have B4 := Lib.hid h4.2.2
      have x_1 := h4.1.1 1 _ rfl
      clear h4 c_0 c_1 c_2 c_3 c_4 c_5 c_6 T B hnb
      go_wp2_with fail
      refine (tdrop_any T4.out x.r.id hxo.out.2 hl1).mono ?_
      rintro e w5 ⟨rfl, h5, hold⟩
      have T5 := Lib.hid h5
      have B5 : Hid (Below a w2 w5) := Lib.hid (B4.out.trans (Hold.below hold (by have := X4.out.lt; omega) (fun k hk => Or.inl hk)))
      have X5 := Lib.hid (hold.blk (Or.inr rfl) X4.out)
      clear h5 hold X4 T4 B4 x_1
      generalize tdropC Mc x.r.id = ce
      have x_0 := X5.out.1 0 _ rfl
      have x_1 := X5.out.1 1 _ rfl
      have x_2 := X5.out.1 2 _ rfl
      have x_3 := X5.out.1 3 _ rfl
      have x_4 := X5.out.1 4 _ rfl
      have x_5 := X5.out.1 5 _ rfl
      have x_6 := X5.out.1 6 _ rfl
      go_wp2_with fail
      refine (tadd_any T5.out x.r hxo.out hl3).mono ?_
      rintro e w6 ⟨rfl, h6, hold⟩
      have T6 : Hid (Tab (fun k => k < a) a w6 (taddF (dropI Mc x.r.id) x.r)) := Lib.hid (h6.less (fun k c => Or.inl c))
      have B6 : Hid (Below a w2 w6) := Lib.hid (B5.out.trans (Hold.below hold (by have := X5.out.lt; omega) (fun k hk => Or.inl hk)))
      have Hl6 : Hid ((taddF (dropI Mc x.r.id) x.r).length ≤ 40 + (i + 1)) := Lib.hid (by
        have := hl2.out
        unfold taddF
        split
        · split
          · omega
          · rw [List.length_cons]; omega
        · omega)
      clear h6 hold X5 T5 B5 x_0 x_1 x_2 x_3 x_4 x_5 x_6 hl1 hl2 hl3 hxo haw
      generalize taddC (dropI Mc x.r.id) x.r = ce2
      go_wp2_with fail
      refine ⟨⟨i + 1, _, by first | rfl | rw [hw1], by omega, Hl6, T6, B6⟩, by simp [intOf] <;> omega⟩
    · obtain rfl : i = n' := by omega
      have S3 := Lib.hid (S2.out.on (show Below w2.heap.size w2 wr by rw [HA.out]; exact B.out))
      clear T B Hl HA S2 R' OK' HN'
      go_wp2_with fail
      refine (rules_any S3.out.t S3.out.a.s hml).mono ?_
      rintro e w4 ⟨v4, rfl, hv, hb⟩
      have S4 := Lib.hid (S3.out.on hb)
      have V4 := Lib.hid hv
      clear hv hb S3
      go_wp2_with fail
      refine (rsame_any w4 _ _ v4 lv M V4.out S4.out.l hml).mono ?_
      rintro e w5 ⟨rfl, hb⟩
      have S5 := Lib.hid (S4.out.on hb)
      clear hb S4 V4
      go_wp2_with fail
      refine (tclone_any S5.out.t S5.out.a.s hml).mono ?_
      rintro e w6 ⟨rfl, ht6, hb⟩
      have S6 := Lib.hid (S5.out.on hb)
      have T6 := Lib.hid ht6
      clear ht6 hb S5
      go_wp2_with fail
      refine (rules_any T6.out S6.out.a.s hml).mono ?_
      rintro e w7 ⟨v7, rfl, hv, hb⟩
      have S7 := Lib.hid (S6.out.on hb)
      have V7 := Lib.hid hv
      clear hv hb S6 T6
      go_wp2_with fail
      refine (rsame_any w7 _ _ v7 lv M V7.out S7.out.l hml).mono ?_
      rintro e w8 ⟨rfl, hb⟩
      have S8 := Lib.hid (S7.out.on hb)
      clear hb S7 V7
      go_wp2_with fail
      refine (sNewTab w8).mono ?_
      rintro e w9 ⟨rfl, h9, hb⟩
      obtain ⟨q, hq⟩ : ∃ q, w8.heap.size = q := ⟨_, rfl⟩
      rw [hq] at h9 hb
      have T9 := Lib.hid h9
      have B9 := Lib.hid hb
      have HQ := Lib.hid hq
      rw [hq]
      obtain ⟨va, vc, rfl⟩ := Row.slice S8.out.l
      obtain ⟨m, hm⟩ : ∃ m, M.length = m := ⟨_, rfl⟩
      rw [hm] at S8 ⊢
      have HM := Lib.hid hm
      have O9 := Lib.hid (oth_nil M t)
      clear h9 hb hq hm
      go_wp2_with fail
      go_loopw [74] (fun iv wr => ∃ (i : Nat) (Mo : List Ru), iv = .int .i64 (i : Nat) ∧ i ≤ m ∧ Hid (Oth M Mo t i) ∧ Hid (Tab (fun k => k < q) q wr Mo) ∧ Hid (Below q w8 wr)) (fun iv _ => m - (intOf iv).toNat)
      case atStart => exact ⟨0, [], rfl, Nat.zero_le _, O9, T9, B9⟩
      case round =>
        obtain ⟨i, Mo, rfl, hi, O, T, B⟩ := hrel
        clear T9 B9 O9
        have S := Lib.hid (S8.out.on (show Below w8.heap.size w8 wr by rw [HQ.out]; exact B.out))
        have hm4 : m ≤ 40 := by rw [← HM.out]; exact hml0.out
        by_cases him : i < m
        · have hw1 : IntKind.i64.wrap ((i : Int) + 1) = ((i + 1 : Nat) : Int) := by rw [IntKind.wrap_i64]; omega
          have hw2 : IntKind.i64.wrap ((i : Int) + (t : Int)) = ((i + t : Nat) : Int) := by rw [IntKind.wrap_i64]; omega
          have hrm : ((i : Int) + (t : Int)).tmod (m : Int) = (((i + t) % m : Nat) : Int) := by rw [Int.tmod_eq_emod_of_nonneg (by omega)]; exact (Int.natCast_emod (i + t) m).symm
          have hrm2 : (((i + t : Nat) : Int)).tmod (m : Int) = (((i + t) % m : Nat) : Int) := by rw [Int.tmod_eq_emod_of_nonneg (by omega)]; exact (Int.natCast_emod (i + t) m).symm
          have hi0 : ¬ (m : Int) = 0 := by omega
          have hi1 : ¬ m = 0 := by omega
          have hml' : (i + t) % m < m := Nat.mod_lt _ (by omega)
          have hwt : IntKind.i64.wrap (t : Int) = (t : Int) := by rw [IntKind.wrap_i64]; omega
          obtain ⟨k, hk⟩ : ∃ k, (i + t) % m = k := ⟨_, rfl⟩
          obtain ⟨x, hx⟩ : ∃ x, M[k]? = some x := ⟨_, List.getElem?_eq_getElem (by rw [HM.out]; omega)⟩
          have hmore := oth_more O.out (by rw [HM.out]; exact him) S.out.a.n S.out.r (x := x) (by rw [HM.out, hk]; exact hx)
          have hxo := Lib.hid (S.out.r x (List.mem_of_getElem? hx)).2
          have hlo : Mo.length ≤ 100000 := by rw [O.out.l]; omega
          rw [hk] at hrm hrm2 hml'
          have hw3 : IntKind.i64.wrap (k : Int) = (k : Int) := by rw [IntKind.wrap_i64]; omega
          obtain ⟨g, cap, e1, hc⟩ := rule_at S.out.l (by rw [HM.out]; omega)
          simp at e1
          obtain ⟨rfl, -, rfl⟩ := e1
          obtain ⟨c_0, c_1, c_2, c_3, c_4, c_5⟩ := hc k x hx
          have HC := Lib.hid hmore.1
          have O2 := Lib.hid hmore.2
          clear hc hx hmore hk O
          go_wp2_with fail
          refine (tadd_any T.out x hxo.out hlo).mono ?_
          rintro e w10 ⟨rfl, h10, hold⟩
          rw [HC.out]
          have T10 := Lib.hid h10
          have B10 : Hid (Below q w8 w10) := Lib.hid (B.out.trans (Hold.below hold (by have := B.out.size; rw [← HQ.out]; exact this) (fun k hk => hk)))
          clear h10 hold T B c_0 c_1 c_2 c_3 c_4 c_5 hlo hxo HC S
          go_wp2_with fail
          refine ⟨⟨i + 1, _, by first | rfl | rw [hw1], by omega, O2, T10, B10⟩, by simp [intOf] <;> omega⟩
        · obtain rfl : i = m := by omega
          have TE : Hid (Tab (fun k => k < q) q wr M) := Lib.hid (T.out.perm (oth_all (by have := O.out; rwa [← HM.out] at this)) S.out.a.n)
          clear T O B S8 HQ
          go_wp2_with fail
          refine (best_nil wr 1).mono ?_
          rintro e w10 ⟨rfl, hb⟩
          have S10 := Lib.hid (S.out.on hb)
          have T10 := Lib.hid (TE.out.on hb)
          clear hb S TE
          go_upto_region 24 with fail
          refine at_code (S := fun w => TM (fun k => Y k ∨ k = w10.heap.size) W p w (.slice va i vc) M ∧ Tab (fun k => k < q) q w M) ⟨S10.out.box _, T10.out.on (bel_al (Below.refl _ _) _)⟩ (fun w11 h11 => ?_)
          have S11 := Lib.hid h11.1
          have T11 := Lib.hid h11.2
          clear h11 S10 T10
          go_wp2_with fail
          refine (get_nil w11 1).mono ?_
          rintro e w12 ⟨rfl, hb⟩
          have S12 := Lib.hid (S11.out.on hb)
          have T12 := Lib.hid (T11.out.on hb)
          clear hb S11 T11
          go_upto_region 25 with fail
          refine at_code (S := fun w => TM (fun k => (Y k ∨ k = w10.heap.size) ∨ k = w12.heap.size) W p w (.slice va i vc) M ∧ Tab (fun k => k < q) q w M) ⟨S12.out.box _, T12.out.on (bel_al (Below.refl _ _) _)⟩ (fun w13 h13 => ?_)
          have S13 := Lib.hid h13.1
          have T13 := Lib.hid h13.2
          clear h13 S12 T12
          go_wp2_with fail
          refine (tawake_any w13).mono ?_
          rintro e w14 ⟨rfl, hb⟩
          have S14 := Lib.hid (S13.out.on hb)
          have T14 := Lib.hid (T13.out.on hb)
          clear hb S13 T13
          go_wp2_with fail
          refine (rules_any T14.out S14.out.a.s hml).mono ?_
          rintro e w15 ⟨v15, rfl, hv, hb⟩
          have S15 := Lib.hid (S14.out.on hb)
          have V15 := Lib.hid hv
          clear hv hb S14 T14
          go_wp2_with fail
          refine (rsame_any w15 _ _ v15 _ M V15.out S15.out.l hml).mono ?_
          rintro e w16 ⟨rfl, hb⟩
          have S16 := Lib.hid (S15.out.on hb)
          clear hb S15 V15
          go_wp2_with fail
          refine (tadd_nil w16 ru0).mono ?_
          rintro e w17 ⟨rfl, hb⟩
          have S17 := Lib.hid (S16.out.on hb)
          clear hb S16
          go_wp2_with fail
          refine (tdrop_nil w17 1).mono ?_
          rintro e w18 ⟨rfl, rfl⟩
          go_wp2_with fail
          refine (tlen_nil w17).mono ?_
          rintro e w19 ⟨rfl, rfl⟩
          go_wp2_with fail
          refine (rules_nil w17).mono ?_
          rintro e w20 ⟨rfl, rfl⟩
          go_wp2_with fail
          refine (tclone_nil w17).mono ?_
          rintro e w21 ⟨q2, rfl, ht, hb⟩
          have S21 := Lib.hid (S17.out.on hb)
          have T21 := Lib.hid ht
          clear ht hb S17
          go_wp2_with fail
          refine (tlen_any T21.out).mono ?_
          rintro e w22 ⟨rfl, rfl⟩
          clear T21
          go_wp2_with fail
          refine (hidden_nil w21 1).mono ?_
          rintro e w23 ⟨rfl, hb⟩
          have S23 := Lib.hid (S21.out.on hb)
          clear hb S21
          go_wp2
          go_ret
          exact ⟨rfl, S23.out.below⟩
theorem clones_any (L : List ChR) (la : Option Addr) (lc : Nat) (L' : List ChR) (la' : Option Addr) (lc' t : Nat) (ht : t < 256) (W : World) (hr : Rw W la (L.flatMap ChR.cells)) (hok : ∀ x ∈ L, x.Ok) (hr' : Rw W la' (L'.flatMap ChR.cells)) (hok' : ∀ x ∈ L', x.Ok) :
    Calls Try.prog 6 #[.slice la L.length lc, .slice la' L'.length lc', .int .u8 (t : Nat)] W fun e w' => e = .returned (.bool true) ∧ Below W.heap.size W w' := by
  by_cases c : 40 < L.length
  · exact clones_many0 L L' la la' lc lc' t c W
  · by_cases c' : 40 < L'.length
    · exact clones_many1 L L' la la' lc lc' t (by omega) c' W
    · exact clones_few L L' la la' lc lc' t ht hok hok' (by omega) (by omega) W hr hr'
end Go.Proofs.Ytgcbngephokegaa
