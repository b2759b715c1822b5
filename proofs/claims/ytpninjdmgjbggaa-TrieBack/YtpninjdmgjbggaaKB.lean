/- TrieBack: the walk. -/
import Derived.Test.YtpninjdmgjbggaaKB1
namespace Go.Proofs.Ytpninjdmgjbggaa
open Go.RowKit Go.Maps Go.MapKept Go.ChangeMaps Go.WideElems Go.Joins
set_option linter.unusedVariables false
set_option linter.unusedSimpArgs false

set_option maxRecDepth 100000 in
theorem back_many (L K : List OpR) (la ka : Option Addr) (lc kc t : Nat) (hn : 40 < L.length ∨ 40 < K.length) (W : World) : Calls Try.prog 4 #[.slice la L.length lc, .slice ka K.length kc, .int .u8 (t : Nat)] W fun e w' => e = .returned (.bool true) ∧ Below W.heap.size W w' := by
  have h := Lib.hid (awake_any W)
  by_cases h1 : 40 < L.length
  · clear hn
    go_enter Try.func4, Try.ntmps4
    go_wp2_with fail
    refine h.out.mono ?_
    rintro e w' ⟨rfl, hb⟩
    have B := Lib.hid hb
    clear hb h
    go_wp2
    go_ret
    exact ⟨rfl, B.out⟩
  · have h2 : 40 < K.length := by omega
    have h3 : L.length ≤ 40 := by omega
    clear hn h1
    go_enter Try.func4, Try.ntmps4
    go_wp2_with fail
    refine h.out.mono ?_
    rintro e w' ⟨rfl, hb⟩
    have B := Lib.hid hb
    clear hb h
    go_wp2
    go_ret
    exact ⟨rfl, B.out⟩
set_option maxRecDepth 100000 in
set_option maxHeartbeats 2000000 in
theorem back_few (L K : List OpR) (la ka : Option Addr) (lc kc t : Nat) (ht : t < 256) (hok : ∀ x ∈ L, x.Ok) (hokK : ∀ x ∈ K, x.Ok) (hn : L.length ≤ 40) (hk : K.length ≤ 40) (W : World) (hr : Rw W la (L.flatMap OpR.cells)) (hrK : Rw W ka (K.flatMap OpR.cells)) :
    Calls Try.prog 4 #[.slice la L.length lc, .slice ka K.length kc, .int .u8 (t : Nat)] W fun e w' => e = .returned (.bool true) ∧ Below W.heap.size W w' := by
  have R := Lib.hid hr
  have RK := Lib.hid hrK
  have OK := Lib.hid hok
  have OKK := Lib.hid hokK
  obtain ⟨n, hN⟩ : ∃ n, L.length = n := ⟨_, rfl⟩
  obtain ⟨nk, hNK⟩ : ∃ n, K.length = n := ⟨_, rfl⟩
  have hE1 : Hid (∀ i, (addL [] (L.take i)).length ≤ 40) := Lib.hid (fun i => by have := addL_len (L.take i) []; rw [List.length_take, List.length_nil] at this; omega)
  rw [hN] at hn ⊢
  rw [hNK] at hk ⊢
  have HN := Lib.hid hN
  have HNK := Lib.hid hNK
  have hwt : IntKind.i64.wrap (t : Int) = ((t : Nat) : Int) := by rw [IntKind.wrap_i64]; omega
  clear hr hrK hok hokK hN hNK
  obtain ⟨p, hp⟩ : ∃ p, W.heap.size = p := ⟨_, rfl⟩
  go_enter Try.func4, Try.ntmps4
  go_upto_region 4 with fail
  refine at_code (S := fun w => TS W W.heap.size w (addL [] (L.take 0))) (ts_new W _) (fun W1 h1 => ?_)
  have S1 := Lib.hid h1
  rw [hp] at S1
  clear h1 hp
  go_wp2_with fail
  go_loopw [30] (fun iv wr => ∃ (i : Nat), iv = .int .i64 (i : Nat) ∧ i ≤ n ∧ Hid (TS W p wr (addL [] (L.take i)))) (fun iv _ => n - (intOf iv).toNat)
  case atStart => exact ⟨0, rfl, Nat.zero_le _, S1⟩
  case round =>
    obtain ⟨i, rfl, hi, S⟩ := hrel
    clear S1
    by_cases hin : i < n
    · have hw1 : IntKind.i64.wrap ((i : Int) + 1) = ((i + 1 : Nat) : Int) := by rw [IntKind.wrap_i64]; omega
      obtain ⟨x, hx⟩ : ∃ x, L[i]? = some x := ⟨_, List.getElem?_eq_getElem (by rw [HN.out]; exact hin)⟩
      obtain ⟨b, o, rfl, c0, c1, c2, c3⟩ := op_at (ops_on R.out S.out.below) hx
      have HX := Lib.hid hx
      go_upto_region 7 with fail
      refine at_code (S := fun w => Blk w wr.heap.size [.bool x.d, .int .u32 x.a, .int .i64 x.n, .int .i64 x.v] ∧ TS W p w (addL [] (L.take i))) ⟨Blk.new _ _ _, S.out.on (bel_al (Below.refl _ _) _)⟩ (fun w2 h2 => ?_)
      have S2 := Lib.hid h2.2
      have x_1 := h2.1.1 1 _ rfl
      have x_2 := h2.1.1 2 _ rfl
      have x_3 := h2.1.1 3 _ rfl
      clear h2 c0 c1 c2 c3 S hx
      go_wp2_with fail
      refine (ts_add S2.out x (OK.out x (List.mem_of_getElem? HX.out)) (Nat.le_trans (hE1.out i) (by omega))).mono ?_
      rintro e w3 ⟨rfl, h3⟩
      rw [← addL_snoc [] L i x HX.out] at h3
      have S3 := Lib.hid h3
      clear h3 S2 x_1 x_2 x_3
      go_wp2_with fail
      refine ⟨⟨i + 1, by first | rfl | rw [hw1], by omega, S3⟩, by simp [intOf] <;> omega⟩
    · obtain rfl : i = n := by omega
      have eL : L.take i = L := List.take_of_length_le (by rw [HN.out]; exact Nat.le_refl _)
      rw [eL] at S
      have hEL : (addL [] L).length ≤ 40 := by have := hE1.out i; rwa [eL] at this
      obtain ⟨E, hE⟩ : ∃ E, addL [] L = E := ⟨_, rfl⟩
      rw [hE] at S hEL
      have hle := Lib.hid (ts_le S.out)
      clear eL hE hE1 HN R OK
      go_wp2_with fail
      refine (tAll S.out.t (Nat.le_trans hEL (by omega))).mono ?_
      rintro e w2 ⟨vl, rfl, hv, hb⟩
      have S2 := Lib.hid ((ty_of S.out).grow hb)
      have hnW := S.out.below.size
      have hv0 : InY (fun k => False ∨ (wr.heap.size ≤ k ∧ k < w2.heap.size)) W.heap.size vl := fun i e => ⟨Or.inr (row_own hv i e), Nat.le_trans hnW (row_own hv i e).1⟩
      obtain ⟨Y2, hY2⟩ : ∃ Y, (fun k => False ∨ (wr.heap.size ≤ k ∧ k < w2.heap.size)) = Y := ⟨_, rfl⟩
      rw [hY2] at S2 hv0
      obtain ⟨wv, hwv⟩ : ∃ x, wr.heap.size = x := ⟨_, rfl⟩
      rw [hwv] at hv
      obtain ⟨r, hr⟩ : ∃ r, srt E (metQ []) = r := ⟨_, rfl⟩
      have HR := Lib.hid hr
      rw [hr] at hv
      obtain ⟨al, cl, rfl⟩ := Row.slice hv
      obtain ⟨m, hm⟩ : ∃ m, r.length = m := ⟨_, rfl⟩
      rw [hm] at hv hv0
      have HM := Lib.hid hm
      have hm40 : m ≤ 40 := by rw [← hm, ← hr]; exact Nat.le_trans (srt_len hle.out.1 _) hEL
      have V2 := Lib.hid hv
      have I2 := Lib.hid hv0
      rw [hm]
      clear hb hv hwv S hr hm hY2 hv0 hnW
      go_wp2_with fail
      refine (tSize S2.out.ts.t (Nat.le_trans hEL (by omega))).mono ?_
      rintro e w3 ⟨N1, hN1, rfl, rfl⟩
      have HN1 := Lib.hid hN1
      obtain ⟨sz1, hsz1⟩ : ∃ n, N1.length = n := ⟨_, rfl⟩
      rw [hsz1]
      have HS1 := Lib.hid hsz1
      clear hN1 hsz1
      go_wp2_with fail
      have RR : Hid (Row w2 W.heap.size 36 4 (.slice none 0 0) 0 (([] : List OpR).flatMap OpR.cells)) := Lib.hid (row_nil _ _ _ _)
      have RI : Hid (InY Y2 W.heap.size (.slice none 0 0)) := Lib.hid (fun i e => by cases e)
      obtain ⟨wp, hwp⟩ : ∃ x, W.heap.size = x := ⟨_, rfl⟩
      rw [hwp] at RR RI I2
      have HWP := Lib.hid hwp
      clear hwp
      go_loopw [12, 44] (fun pv iv wr => ∃ (i : Nat) (F : List Ent) (P : List OpR) (Y : Nat → Prop), iv = .int .i64 (i : Nat) ∧ i ≤ nk ∧ P.length ≤ i ∧ Hid (F.length ≤ 40 + i) ∧ Hid (TY Y W p wr F) ∧ Hid (Put E F P) ∧ Hid (Ents wr wv (.slice al m cl) r) ∧ Hid (Row wr wp 36 4 pv P.length (P.flatMap OpR.cells)) ∧ Hid (InY Y wp (.slice al m cl)) ∧ Hid (InY Y wp pv)) (fun _ iv _ => nk - (intOf iv).toNat)
      case atStart => exact ⟨0, E, [], Y2, rfl, Nat.zero_le _, Nat.le_refl _, Lib.hid (by omega), S2, Lib.hid (put_nil E), V2, RR, I2, RI⟩
      case round =>
        obtain ⟨j, F, P, Y, rfl, hj, hPj, hFl, S3, hPut, V3, R3, I3, J3⟩ := hrel
        clear S2 V2 RR I2 RI
        by_cases hjn : j < nk
        · have hw1 : IntKind.i64.wrap ((j : Int) + 1) = ((j + 1 : Nat) : Int) := by rw [IntKind.wrap_i64]; omega
          obtain ⟨x, hx⟩ : ∃ x, K[j]? = some x := ⟨_, List.getElem?_eq_getElem (by rw [HNK.out]; exact hjn)⟩
          obtain ⟨b, o, rfl, c0, c1, c2, c3⟩ := op_at (ops_on RK.out S3.out.ts.below) hx
          have hxo := Lib.hid (OKK.out x (List.mem_of_getElem? hx))
          obtain ⟨nb, hnb⟩ : ∃ n, wr.heap.size = n := ⟨_, rfl⟩
          have hnbW : Hid (wp ≤ nb) := Lib.hid (by rw [← hnb, ← HWP.out]; exact S3.out.ts.below.size)
          go_upto_region 14 with fail
          refine at_code (S := fun w => Blk w nb [.bool x.d, .int .u32 x.a, .int .i64 x.n, .int .i64 x.v] ∧ TY (fun k => Y k ∨ k = nb) W p w F ∧ Ents w wv (.slice al m cl) r ∧ Row w wp 36 4 u12 P.length (P.flatMap OpR.cells)) ⟨by rw [← hnb]; exact Blk.new _ _ _, (S3.out.grow (bel_al (Below.refl _ _) _)).less (fun k q => q.imp id (fun e => by rw [e, ← hnb, World.size_alloc]; omega)), V3.out.on (bel_al (Below.refl _ _) _), R3.out.on (bel_al (Below.refl _ _) _)⟩ (fun w2 h2 => ?_)
          have S4 := Lib.hid h2.2.1
          have V4 := Lib.hid h2.2.2.1
          have R4 := Lib.hid h2.2.2.2
          have X4 := Lib.hid h2.1
          have x_1 := h2.1.1 1 _ rfl
          have x_2 := h2.1.1 2 _ rfl
          have x_3 := h2.1.1 3 _ rfl
          have I4 := Lib.hid (I3.out.more (Y' := fun k => Y k ∨ k = nb) (fun _ q => Or.inl q))
          have J4 := Lib.hid (J3.out.more (Y' := fun k => Y k ∨ k = nb) (fun _ q => Or.inl q))
          clear h2 c0 c1 c2 c3 S3 V3 R3 I3 J3 hx hnb
          have hF1 : F.length ≤ 100000 := by have := hFl.out; omega
          go_wp2_with fail
          refine (ty_add S4.out x hxo.out hF1).mono ?_
          rintro e w3 ⟨rfl, h3, hold⟩
          have S5 := Lib.hid h3
          have V5 := Lib.hid (show Ents w3 wv (.slice al m cl) r from row_hold V4.out I4.out hold)
          have R5 := Lib.hid (row_hold R4.out J4.out hold)
          have X5 := Lib.hid (hold.blk (Or.inr rfl) X4.out)
          clear h3 hold S4 V4 R4 X4 x_1 x_2 x_3
          by_cases hc : addC F x.a x.n x.v = 0
          · have hPut' := Lib.hid (put_more hPut.out x hxo.out hc)
            have hFl' : Hid ((addF F x.a x.n x.v).length ≤ 40 + (j + 1)) := Lib.hid (by have := addF_len F x.a x.n x.v; have := hFl.out; omega)
            rw [hc]
            clear hc hPut hFl
            have x_0 := X5.out.1 0 _ rfl
            have x_1 := X5.out.1 1 _ rfl
            have x_2 := X5.out.1 2 _ rfl
            have x_3 := X5.out.1 3 _ rfl
            obtain ⟨nP, hnP⟩ : ∃ n, P.length = n := ⟨_, rfl⟩
            obtain ⟨cP, hcP⟩ : ∃ c, P.flatMap OpR.cells = c := ⟨_, rfl⟩
            rw [hnP] at R5 hPj
            rw [hcP] at R5
            have HNP := Lib.hid hnP
            have HCP := Lib.hid hcP
            obtain ⟨i0, hi0, hz0, hz1, hz2⟩ := hinfo_parts infoOp
            have hown := R5.out.1
            have hsz : wp ≤ w3.heap.size := by have := hnbW.out; have := X5.out.lt; omega
            clear hnP hcP
            go_wp2_with (at_builtin; refine wpList_append_own_at _ rfl _ _ 22 rfl wp 36 i0 (.agg #[.bool false, .int .u32 0, .int .i64 0, .int .i64 0]) 4 32 Try.underlying22 hi0 hz0 hz1 hz2 rfl (by decide) _ _ _ rfl (hown.alloc _) ⟨w3.heap.size, 0, none⟩ 1 1 [.bool x.d, .int .u32 x.a, .int .i64 x.n, .int .i64 x.v] rfl rfl ?c1 ?c2 ?c3 ?c4 ?c5 ?_)
            case c1 =>
              intro j x hj
              match j, hj with
              | 0, hj => simp at hj; subst hj; simp [Addr.add, go_sem]
              | 1, hj => simp at hj; subst hj; simp [Addr.add, go_sem]
              | 2, hj => simp at hj; subst hj; simp [Addr.add, go_sem]
              | 3, hj => simp at hj; subst hj; simp [Addr.add, go_sem]
            case c2 => intro x hx; simp at hx; rcases hx with rfl | rfl | rfl | rfl <;> rfl
            case c3 => unfold maxLen; omega
            case c4 => omega
            case c5 => simp; omega
            · intro v' w5 hown' hgrow hnl hat
              have K5 := ((Keep.refl (fun i => u12.ownBlock = some i) w3).al (.cells #[.bool x.d, .int .u32 x.a, .int .i64 x.n, .int .i64 x.v] 36)).grown hgrow (fun k e _ => e)
              have S6 := Lib.hid (S5.out.turn K5 (fun i e => ⟨(J4.out i e).1, by rw [HWP.out]; exact (J4.out i e).2⟩))
              have V6 := Lib.hid (show Ents w5 wv (.slice al m cl) r from V5.out.keep2 K5 (fun i e _ e2 => row_ne V5.out R5.out (by decide) i e e2))
              have R6' : Row w5 wp 36 4 v' (nP + 1) (cP ++ [.bool x.d, .int .u32 x.a, .int .i64 x.n, .int .i64 x.v]) := ⟨hown', ⟨fun e => absurd e hnl, fun e => by simp at e⟩⟩
              have R6 : Hid (Row w5 wp 36 4 v' (P ++ [x]).length ((P ++ [x]).flatMap OpR.cells)) := Lib.hid (by
                rw [List.length_append, List.flatMap_append, HNP.out, HCP.out]
                exact R6')
              have J6 : Hid (InY (fun k => (Y k ∨ k = nb) ∨ (w3.heap.size ≤ k ∧ k < w5.heap.size)) wp v') := Lib.hid (fun i e => by
                rcases hat with q | q
                · rw [q] at e; exact ⟨Or.inl (J4.out i e).1, (J4.out i e).2⟩
                · have h1 := row_own R6' i e
                  rw [q] at e
                  have e := Option.some.inj e
                  try rw [World.size_alloc] at e
                  exact ⟨Or.inr ⟨by omega, h1.2⟩, h1.1⟩)
              have I6 := Lib.hid (I4.out.more (Y' := fun k => (Y k ∨ k = nb) ∨ (w3.heap.size ≤ k ∧ k < w5.heap.size)) (fun _ q => Or.inl q))
              have hlP : Hid ((P ++ [x]).length ≤ j + 1) := Lib.hid (by rw [List.length_append, HNP.out]; simp; omega)
              clear hown' hgrow hown hnl hat K5 R6' x_0 x_1 x_2 x_3 S5 V5 R5 X5 I4 J4 hi0 hz0 hz1 hz2
              go_wp2_with fail
              refine ⟨?_, ?_⟩
              · exact ⟨j + 1, _, P ++ [x], _, by first | rfl | rw [hw1], by omega, hlP.out, hFl', S6, hPut', V6, R6, I6, J6⟩
              · simp [intOf] <;> omega
          · have hsame := put_same hPut.out x hc
            rw [hsame] at S5
            generalize addC F x.a x.n x.v = ce at hc ⊢
            clear hsame
            have hFl' : Hid (F.length ≤ 40 + (j + 1)) := Lib.hid (by have := hFl.out; omega)
            go_wp2_with fail
            refine ⟨?_, ?_⟩
            · exact ⟨j + 1, F, P, _, by first | rfl | rw [hw1], by omega, by omega, hFl', S5, hPut, V5, R5, I4, J4⟩
            · simp [intOf] <;> omega
        · obtain rfl : j = nk := by omega
          obtain ⟨pa, pc, rfl⟩ := R3.out.slice
          obtain ⟨nP, hnP⟩ : ∃ n, P.length = n := ⟨_, rfl⟩
          rw [hnP] at hPj R3 J3 ⊢
          have HNP := Lib.hid hnP
          have hG0 : Hid (F.length ≤ 80) := Lib.hid (by have := hFl.out; omega)
          have TK0 : Hid (Took F F P t 0) := Lib.hid (took_nil F P t)
          clear hnP hFl HNK OKK RK
          go_wp2_with fail
          go_loopw [61] (fun iv wr => ∃ (i : Nat) (G : List Ent), iv = .int .i64 (i : Nat) ∧ i ≤ nP ∧ Hid (G.length ≤ 80) ∧ Hid (TY Y W p wr G) ∧ Hid (Took F G P t i) ∧ Hid (Ents wr wv (.slice al m cl) r) ∧ Hid (Row wr wp 36 4 (.slice pa nP pc) nP (P.flatMap OpR.cells))) (fun iv _ => nP - (intOf iv).toNat)
          case atStart => exact ⟨0, F, rfl, Nat.zero_le _, hG0, S3, TK0, V3, R3⟩
          case round =>
            obtain ⟨k, G, rfl, hk2, hGl, S4, TK, V4, R4⟩ := hrel
            clear S3 TK0 V3 R3 hG0
            by_cases hkp : k < nP
            · have hw1 : IntKind.i64.wrap ((k : Int) + 1) = ((k + 1 : Nat) : Int) := by rw [IntKind.wrap_i64]; omega
              have hw2 : IntKind.i64.wrap ((k : Int) + (t : Int)) = ((k + t : Nat) : Int) := by rw [IntKind.wrap_i64]; omega
              have hrm : ((k : Int) + (t : Int)).tmod (nP : Int) = (((k + t) % nP : Nat) : Int) := by rw [Int.tmod_eq_emod_of_nonneg (by omega)]; exact (Int.natCast_emod (k + t) nP).symm
              have hrm2 : (((k + t : Nat) : Int)).tmod (nP : Int) = (((k + t) % nP : Nat) : Int) := by rw [Int.tmod_eq_emod_of_nonneg (by omega)]; exact (Int.natCast_emod (k + t) nP).symm
              have hi0 : ¬ (nP : Int) = 0 := by omega
              have hi1 : ¬ nP = 0 := by omega
              have hml : (k + t) % nP < nP := Nat.mod_lt _ (by omega)
              have hw3 : IntKind.i64.wrap (((k + t) % nP : Nat) : Int) = (((k + t) % nP : Nat) : Int) := by rw [IntKind.wrap_i64]; omega
              obtain ⟨q, hq⟩ : ∃ q, (k + t) % nP = q := ⟨_, rfl⟩
              obtain ⟨x, hx⟩ : ∃ x, P[q]? = some x := ⟨_, List.getElem?_eq_getElem (by rw [HNP.out]; omega)⟩
              have hmore := took_more TK.out hPut.out (by rw [HNP.out]; exact hkp) (x := x) (by rw [HNP.out, hq]; exact hx)
              rw [hq] at hrm hrm2 hml hw3
              have hR4 := R4.out
              rw [← HNP.out] at hR4
              obtain ⟨g, cap, e1, hc⟩ := opr_at hR4 (by rw [HNP.out]; omega)
              simp at e1
              obtain ⟨rfl, -, rfl⟩ := e1
              obtain ⟨c0, c1, c2, c3⟩ := hc q x hx
              have hxo := Lib.hid (hPut.out.r x (List.mem_of_getElem? hx)).2.2
              have hd0 := hmore.1
              have TK2 := Lib.hid hmore.2
              have HD0 := Lib.hid hd0
              clear hc hR4 hx hmore hd0 hq TK
              go_upto_region 21 with fail
              refine at_code (S := fun w => Blk w wr.heap.size [.bool x.d, .int .u32 x.a, .int .i64 x.n, .int .i64 x.v] ∧ TY Y W p w G ∧ Ents w wv (.slice al m cl) r ∧ Row w wp 36 4 (.slice (some ⟨g, 0, none⟩) nP pc) nP (P.flatMap OpR.cells)) ⟨Blk.new _ _ _, S4.out.on (bel_al (Below.refl _ _) _), V4.out.on (bel_al (Below.refl _ _) _), R4.out.on (bel_al (Below.refl _ _) _)⟩ (fun w2 h2 => ?_)
              have S5 := Lib.hid h2.2.1
              have V5 := Lib.hid h2.2.2.1
              have R5 := Lib.hid h2.2.2.2
              have x_1 := h2.1.1 1 _ rfl
              have x_2 := h2.1.1 2 _ rfl
              have x_3 := h2.1.1 3 _ rfl
              have hG1 : G.length ≤ 100000 := by have := hGl.out; omega
              clear h2 c0 c1 c2 c3 S4 V4 R4
              go_wp2_with fail
              refine (ty_drop S5.out x hxo.out hG1).mono ?_
              rintro e w3 ⟨rfl, h3, hold⟩
              rw [HD0.out]
              have S6 := Lib.hid h3
              have V6 := Lib.hid (show Ents w3 wv (.slice al m cl) r from row_hold V5.out I3.out hold)
              have R6 := Lib.hid (row_hold R5.out J3.out hold)
              have hGl2 : Hid ((dropF G x.a x.n x.v).length ≤ 80) := Lib.hid (Nat.le_trans (dropF_len G x.a x.n x.v) hGl.out)
              clear h3 hold S5 V5 R5 x_1 x_2 x_3
              go_wp2_with fail
              refine ⟨⟨k + 1, dropF G x.a x.n x.v, by first | rfl | rw [hw1], by omega, hGl2, S6, TK2, V6, R6⟩, by simp [intOf] <;> omega⟩
            · obtain rfl : k = nP := by omega
              have hEG := Lib.hid (took_all (by have := TK.out; rwa [← HNP.out] at this) hPut.out)
              have hG1 : G.length ≤ 100000 := by have := hGl.out; omega
              have hle2 := Lib.hid (ts_le S4.out.ts)
              clear TK R4 hPut
              go_wp2_with fail
              refine (tAll S4.out.ts.t hG1).mono ?_
              rintro e w5 ⟨vn, rfl, hv, hb⟩
              have S5 := Lib.hid (S4.out.on hb)
              have V5 := Lib.hid (V4.out.on hb)
              rw [srt_eq hle2.out.1 hle.out.1 hEG.out (metQ []), HR.out] at hv
              obtain ⟨wn, hwn⟩ : ∃ x, wr.heap.size = x := ⟨_, rfl⟩
              rw [hwn] at hv
              obtain ⟨an, cn, rfl⟩ := Row.slice hv
              rw [HM.out] at hv ⊢
              have U5 := Lib.hid hv
              clear hb hv hwn S4 V4
              go_wp2_with fail
              refine (tSize S5.out.ts.t hG1).mono ?_
              rintro e w6 ⟨N2, hN2, rfl, rfl⟩
              have hNN := Plain.len hN2 HN1.out hEG.out
              rw [HS1.out] at hNN
              rw [hNN]
              clear hNN hN2
              go_wp2_with fail
              go_loopw [94] (fun iv wr => ∃ (l : Nat), iv = .int .i64 (l : Nat) ∧ l ≤ m ∧ Hid (TS W p wr G) ∧ Hid (Ents wr wv (.slice al m cl) r) ∧ Hid (Ents wr wn (.slice an m cn) r)) (fun iv _ => m - (intOf iv).toNat)
              case atStart => exact ⟨0, rfl, Nat.zero_le _, Lib.hid S5.out.ts, V5, U5⟩
              case round =>
                obtain ⟨l, rfl, hl, S6, V6, U6⟩ := hrel
                clear S5 V5 U5
                by_cases hlm : l < m
                · have hw1 : IntKind.i64.wrap ((l : Int) + 1) = ((l + 1 : Nat) : Int) := by rw [IntKind.wrap_i64]; omega
                  have hml : 0 < r.length := by rw [HM.out]; omega
                  obtain ⟨x, hx⟩ : ∃ x, r[l]? = some x := ⟨_, List.getElem?_eq_getElem (by rw [HM.out]; exact hlm)⟩
                  obtain ⟨g, cap, e1, -, hg, hc⟩ := ents_at V6.out hml
                  simp at e1
                  obtain ⟨rfl, -, rfl⟩ := e1
                  obtain ⟨c0, c1, c2⟩ := hc l x hx
                  obtain ⟨g2, cap2, e2, -, hg2, hc2⟩ := ents_at U6.out hml
                  simp at e2
                  obtain ⟨rfl, -, rfl⟩ := e2
                  obtain ⟨d0, d1, d2⟩ := hc2 l x hx
                  clear hc hc2 hx hg hg2
                  go_wp2_with fail
                  go_quiet (fail)
                  go_wp2_with fail
                  refine ⟨⟨l + 1, by first | rfl | rw [hw1], by omega, Lib.hid (S6.out.on (below_drewN (Below.refl _ _) _)), Lib.hid (V6.out.on (below_drewN (Below.refl _ _) _)), Lib.hid (U6.out.on (below_drewN (Below.refl _ _) _))⟩, by simp [intOf] <;> omega⟩
                · obtain rfl : l = m := by omega
                  have C1 := Lib.hid (awake_any wr)
                  go_wp2_with fail
                  refine C1.out.mono ?_
                  rintro e w5 ⟨rfl, hb⟩
                  have S7 := Lib.hid (S6.out.on hb)
                  clear hb S6 C1 V6 U6
                  go_wp2
                  go_ret
                  exact ⟨rfl, S7.out.below⟩
theorem back_any (L : List OpR) (la : Option Addr) (lc : Nat) (K : List OpR) (ka : Option Addr) (kc t : Nat) (ht : t < 256) (W : World) (hr : Rw W la (L.flatMap OpR.cells)) (hok : ∀ x ∈ L, x.Ok) (hrK : Rw W ka (K.flatMap OpR.cells)) (hokK : ∀ x ∈ K, x.Ok) :
    Calls Try.prog 4 #[.slice la L.length lc, .slice ka K.length kc, .int .u8 (t : Nat)] W fun e w' => e = .returned (.bool true) ∧ Below W.heap.size W w' := by
  by_cases c : 40 < L.length ∨ 40 < K.length
  · exact back_many L K la ka lc kc t c W
  · exact back_few L K la ka lc kc t ht hok hokK (by omega) (by omega) W hr hrK
end Go.Proofs.Ytpninjdmgjbggaa
