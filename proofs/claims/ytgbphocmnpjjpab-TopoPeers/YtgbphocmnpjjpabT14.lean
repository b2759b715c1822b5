/- TopoPeers' call answers true. -/
import Derived.Test.YtgbphocmnpjjpabT9
import Derived.Test.YtgbphocmnpjjpabT11
import Derived.Test.YtgbphocmnpjjpabT13
namespace Go.Proofs.Ytgbphocmnpjjpab
open Go.RowKit
set_option linter.unusedVariables false

theorem apart_first {E : List (Int × Int)} (hA : ∀ i e, E[i]? = some e → e ∉ E.take i) {k : Nat} {e : Int × Int} (h : E[k]? = some e) : ∀ j, j < k → E[j]? ≠ some e := fun j hj q =>
  hA k e h (List.mem_of_getElem? (i := j) (by rw [List.getElem?_take, if_pos hj]; exact q))
theorem oth_oth (i : Nat) : oth (oth i) = i := by unfold oth; split <;> split <;> omega
theorem peer_of {ls : List Lk} (hA : ∀ i e, (ends ls)[i]? = some e → e ∉ (ends ls).take i) {d p : Int} {i : Nat} (h : (ends ls)[i]? = some (d, p)) : ∃ o, (ends ls)[oth i]? = some o ∧ peerF d p ls = (o.1, o.2, true) :=
  peer_hit d p ls i h (apart_first hA h)
theorem peer_back {ls : List Lk} (hA : ∀ i e, (ends ls)[i]? = some e → e ∉ (ends ls).take i) {d p : Int} (h : (d, p) ∈ ends ls) : (peerF d p ls).2.2 = true ∧ peerF (peerF d p ls).1 (peerF d p ls).2.1 ls = (d, p, true) := by
  obtain ⟨i, hi⟩ := List.getElem?_of_mem h
  obtain ⟨o, ho, he⟩ := peer_of hA hi
  obtain ⟨oa, ob⟩ := o
  obtain ⟨o2, ho2, he2⟩ := peer_of hA ho
  rw [oth_oth, hi] at ho2
  cases ho2
  rw [he]
  exact ⟨rfl, he2⟩
theorem peer_free {ls : List Lk} {d p : Int} (h : (d, p) ∉ ends ls) : peerF d p ls = (0, 0, false) := peer_none d p ls (fun j _ q => h (List.mem_of_getElem? q))
theorem freeN_pre (E : List (Int × Int)) (d : Nat) : ∀ n j, j ≤ n → ∃ r, freeN E d n = freeN E d j ++ r
  | 0, j, h => by obtain rfl : j = 0 := by omega
                  exact ⟨[], rfl⟩
  | n + 1, j, h => by
    rcases Nat.eq_or_lt_of_le h with rfl | h
    · exact ⟨[], by simp⟩
    · obtain ⟨r, hr⟩ := freeN_pre E d n j (by omega)
      exact ⟨r ++ _, by rw [freeN, hr, List.append_assoc]⟩
theorem freeA_pre (E : List (Int × Int)) (ps : List Int) : ∀ n j, j ≤ n → ∃ r, freeA E ps n = freeA E ps j ++ r
  | 0, j, h => by obtain rfl : j = 0 := by omega
                  exact ⟨[], rfl⟩
  | n + 1, j, h => by
    rcases Nat.eq_or_lt_of_le h with rfl | h
    · exact ⟨[], by simp⟩
    · obtain ⟨r, hr⟩ := freeA_pre E ps n j (by omega)
      exact ⟨r ++ _, by rw [freeA, hr, List.append_assoc]⟩
theorem free_at (E : List (Int × Int)) (ps : List Int) (np i j n : Nat) (hi : i < np) (hn : (ps.getD i 0).toNat = n) (hj : j < n) (hm : ((i : Int), (j : Int)) ∉ E) : (freeA E ps np)[(freeA E ps i).length + (freeN E i j).length]? = some ⟨i, j, -1, -1⟩ := by
  obtain ⟨r, hr⟩ := freeA_pre E ps np (i + 1) (by omega)
  obtain ⟨s, hs⟩ := freeN_pre E i n (j + 1) (by omega)
  rw [hr, freeA, hn, hs, freeN, if_neg hm]
  rw [List.append_assoc, List.append_assoc, List.append_assoc, List.getElem?_append_right (by omega), Nat.add_sub_cancel_left, List.getElem?_append_right (by omega), Nat.sub_self]
  rfl
set_option maxRecDepth 100000 in
set_option maxHeartbeats 8000000 in
theorem peers_any (v : Value) (ps : List Int) (ls : List Lk) (es : List Ac) (pa : Option Addr) (pc : Nat) (la : Option Addr) (lc : Nat) (aa : Option Addr) (ac : Nat) (w : World) (h : Tp w v ps ls es pa pc la lc aa ac) :
    Calls Try.prog 5 #[v] w fun e w' => e = .returned (.bool true) ∧ Below w.heap.size w w' := by
  obtain ⟨rfl, hp, hl, he, ol, oe⟩ := h
  have LI := Lib.hid (fun w => light_any pa ps.length pc la ls.length lc aa es.length ac w)
  obtain ⟨LT, hLT⟩ : ∃ b, (decide (ps.length ≤ 40) && decide (ls.length ≤ 100) && decide (es.length ≤ 60)) = b := ⟨_, rfl⟩
  rw [hLT] at LI
  have AW := Lib.hid (fun w => tawake_any w)
  obtain ⟨W0, hW0⟩ : ∃ W0, w.alloc (Obj.cells (tc pa ps.length pc la ls.length lc aa es.length ac).toArray 26) = W0 := ⟨_, rfl⟩
  have hb0 : Below w.heap.size w W0 := by rw [← hW0]; exact cbelow_al (Below.refl _ _) _
  have T0 := Lib.hid (show Blk W0 w.heap.size (tc pa ps.length pc la ls.length lc aa es.length ac) by rw [← hW0]; exact Blk.new _ _ _)
  have P0 := Lib.hid (hp.on hb0)
  have L0 := Lib.hid (hl.on hb0)
  have E0 := Lib.hid (he.on hb0)
  have B0 := Lib.hid hb0
  have OL := Lib.hid ol
  have OE := Lib.hid oe
  clear hb0 hp hl he ol oe
  cases LT with
  | false =>
    unfold tc at *
    unfold tv at *
    go_enter Try.func5, Try.ntmps5
    go_upto_region 1 with fail
    clear hW0 hLT
    obtain ⟨t_0, t_1, t_2⟩ : _ ∧ _ ∧ _ := ⟨T0.out.1 0 _ rfl, T0.out.1 1 _ rfl, T0.out.1 2 _ rfl⟩
    go_wp2_with fail
    refine (LI.out _).mono ?_
    rintro e w1 ⟨rfl, hb⟩
    have B1 := Lib.hid (cbelow_on B0.out hb)
    clear hb
    go_wp2_with fail
    refine (AW.out _).mono ?_
    rintro e w2 ⟨rfl, hb⟩
    have B2 := Lib.hid (cbelow_on B1.out hb)
    clear hb
    go_wp2
    go_ret
    exact ⟨rfl, B2.out⟩
  | true =>
    simp at hLT
    obtain ⟨⟨q1, q2⟩, q3⟩ := hLT
    have RC := Lib.hid (fun w h1 h2 h3 => rcheck_any ps ls es pa pc la lc aa ac w OE.out h1 h2 h3 (by omega) (by omega) (by omega))
    have PE := Lib.hid (fun d p w h => peer_any ls pa ps.length pc la lc aa es.length ac d p w h (by omega))
    obtain ⟨R, hR⟩ : ∃ R, TP.chk ⟨ps, ls, es⟩ = R := ⟨_, rfl⟩
    have ED : Hid (R = 0 → ∀ w, Rw w pa (ints ps) → Rw w la (ls.flatMap Lk.cells) → Rw w aa (es.flatMap Ac.cells) → Calls Try.prog 19 #[tv pa ps.length pc la ls.length lc aa es.length ac] w fun e w' => ∃ a cap, e = .returned (.slice a (freeA (ends ls) ps ps.length).length cap) ∧ Rw w' a ((freeA (ends ls) ps ps.length).flatMap Lk.cells) ∧ Below w.heap.size w w') := fun hz w h1 h2 h3 =>
      edges_any ps ls es pa pc la lc aa ac w OL.out OE.out h1 h2 h3 (by omega) (by omega) (by omega) (hR.trans hz)
    have HK : Hid (R = 0 → ps.length ≤ 16 ∧ cntE ps = 0 ∧ lnkE ps [] (ends ls) = 0) := fun hz => chk_parts (hR.trans hz)
    rw [hR] at RC
    clear hR OL OE
    unfold tc at *
    unfold tv at *
    obtain ⟨na, hna⟩ : ∃ n, es.length = n := ⟨_, rfl⟩
    obtain ⟨nl, hnl⟩ : ∃ n, ls.length = n := ⟨_, rfl⟩
    obtain ⟨np, hnp⟩ : ∃ n, ps.length = n := ⟨_, rfl⟩
    rw [hna] at T0 hW0 LI RC PE ED q3 ⊢
    rw [hnl] at T0 hW0 LI RC PE ED q2 ⊢
    rw [hnp] at T0 hW0 LI RC PE ED HK q1 ⊢
    go_enter Try.func5, Try.ntmps5
    go_upto_region 1 with fail
    clear hW0
    obtain ⟨t_0, t_1, t_2⟩ : _ ∧ _ ∧ _ := ⟨T0.out.1 0 _ rfl, T0.out.1 1 _ rfl, T0.out.1 2 _ rfl⟩
    go_wp2_with fail
    refine (LI.out _).mono ?_
    rintro e w1 ⟨rfl, hb⟩
    have B1 := Lib.hid (cbelow_on B0.out hb)
    have T1 := Lib.hid (T0.out.on hb)
    have P1 := Lib.hid (P0.out.on hb)
    have L1 := Lib.hid (L0.out.on hb)
    have E1 := Lib.hid (E0.out.on hb)
    clear hb t_0 t_1 t_2 T0 P0 L0 E0 B0 LI
    obtain ⟨t_0, t_1, t_2⟩ : _ ∧ _ ∧ _ := ⟨T1.out.1 0 _ rfl, T1.out.1 1 _ rfl, T1.out.1 2 _ rfl⟩
    go_wp2_with fail
    refine (RC.out _ P1.out L1.out E1.out).mono ?_
    rintro e w2 ⟨rfl, hb⟩
    have B2 := Lib.hid (cbelow_on B1.out hb)
    have T2 := Lib.hid (T1.out.on hb)
    have P2 := Lib.hid (P1.out.on hb)
    have L2 := Lib.hid (L1.out.on hb)
    have E2 := Lib.hid (E1.out.on hb)
    clear hb t_0 t_1 t_2 T1 P1 L1 E1 B1 RC
    obtain ⟨t_0, t_1, t_2⟩ : _ ∧ _ ∧ _ := ⟨T2.out.1 0 _ rfl, T2.out.1 1 _ rfl, T2.out.1 2 _ rfl⟩
    by_cases e1 : R = 0
    · have ED2 := Lib.hid (ED.out e1)
      obtain ⟨h16, hcn, hln⟩ := HK.out e1
      subst e1
      have HA := Lib.hid (fun i e he => by have := lnkE_apart hln i e he; rw [List.nil_append] at this; exact this)
      have HC := Lib.hid (cntE_all hcn)
      have HF := Lib.hid (freeA_len (ends ls) hcn)
      rw [hnp] at HC HF
      clear hcn hln HK ED
      go_wp2_with fail
      refine (ED2.out _ P2.out L2.out E2.out).mono ?_
      rintro e W3 ⟨fa, fcap, rfl, hD, hb⟩
      have B3 := Lib.hid (cbelow_on B2.out hb)
      have T3 := Lib.hid (T2.out.on hb)
      have P3 := Lib.hid (P2.out.on hb)
      have L3 := Lib.hid (L2.out.on hb)
      have D3 := Lib.hid hD
      clear hb hD t_0 t_1 t_2 T2 P2 L2 E2 B2 ED2
      obtain ⟨N, hN⟩ : ∃ N, (freeA (ends ls) ps np).length = N := ⟨_, rfl⟩
      rw [hN]
      have HN := Lib.hid hN
      clear hN
      obtain ⟨t_0, t_1, t_2⟩ : _ ∧ _ ∧ _ := ⟨T3.out.1 0 _ rfl, T3.out.1 1 _ rfl, T3.out.1 2 _ rfl⟩
      go_wp2_with fail
      clear t_0 t_1 t_2
      go_loopw [4, 28] (fun qv iv wr => ∃ i q : Nat, iv = .int .i64 i ∧ qv = .int .i64 q ∧ i ≤ np ∧ Hid (q = (freeA (ends ls) ps i).length) ∧ Hid (Below W3.heap.size W3 wr)) (fun _ iv _ => np - (intOf iv).toNat)
      case atStart => exact ⟨0, 0, rfl, rfl, Nat.zero_le _, Lib.hid rfl, Lib.hid (Below.refl _ _)⟩
      case round =>
        obtain ⟨i, q, rfl, rfl, hi, hq, B4⟩ := hrel
        by_cases hlt : i < np
        · have hg := ints_get (l := ps) (k := i) (by omega)
          have P4 := P3.out.on B4.out
          obtain ⟨bb, off, rfl, -⟩ := P4 i _ hg
          have k0 := P4.cell hg
          obtain ⟨hx0, hx8⟩ := HC.out i hlt
          obtain ⟨n, hn⟩ := Int.eq_ofNat_of_zero_le hx0
          rw [hn] at k0 hx8
          have HT : Hid ((ps.getD i 0).toNat = n) := by show _ = _; rw [hn]; rfl
          have hn8 : n ≤ 8 := by omega
          have hw1 : IntKind.i64.wrap ((i : Int) + 1) = (i : Int) + 1 := by rw [IntKind.wrap_i64]; omega
          clear hg P4 hx0 hx8 hn
          go_wp2_with fail
          clear k0
          go_loopw [4, 34] (fun qv jv wr2 => ∃ j q : Nat, jv = .int .i64 j ∧ qv = .int .i64 q ∧ j ≤ n ∧ Hid (q = (freeA (ends ls) ps i).length + (freeN (ends ls) i j).length) ∧ Hid (Below W3.heap.size W3 wr2)) (fun _ jv _ => n - (intOf jv).toNat)
          case atStart => exact ⟨0, q, rfl, rfl, Nat.zero_le _, hq, B4⟩
          case round =>
            obtain ⟨j, q', rfl, rfl, hj, hq', B5⟩ := hrel
            by_cases hlt2 : j < n
            · have T5 := Lib.hid (T3.out.on B5.out)
              have L5 := Lib.hid (L3.out.on B5.out)
              have CP := Lib.hid (PE.out i j)
              have hw2 : IntKind.i64.wrap ((j : Int) + 1) = (j : Int) + 1 := by rw [IntKind.wrap_i64]; omega
              obtain ⟨t_0, t_1, t_2⟩ : _ ∧ _ ∧ _ := ⟨T5.out.1 0 _ rfl, T5.out.1 1 _ rfl, T5.out.1 2 _ rfl⟩
              by_cases hm : ((i : Int), (j : Int)) ∈ ends ls
              · obtain ⟨b1, b2⟩ := peer_back HA.out hm
                have CB := Lib.hid (PE.out (peerF i j ls).1 (peerF i j ls).2.1)
                rw [b2] at CB
                rw [b1] at CP
                have HQ : Hid (q' = (freeA (ends ls) ps i).length + (freeN (ends ls) i (j + 1)).length) := by
                  show _ = _
                  rw [freeN, if_pos hm, List.append_nil]; exact hq'.out
                clear b1 b2 hm
                generalize (peerF i j ls).1 = xa at *
                generalize (peerF i j ls).2.1 = xb at *
                simp only at CB
                go_wp2_with fail
                refine (CP.out _ L5.out).mono ?_
                rintro e w6 ⟨rfl, hb⟩
                have B6 := Lib.hid (cbelow_on B5.out hb)
                have T6 := Lib.hid (T5.out.on hb)
                have L6 := Lib.hid (L5.out.on hb)
                clear hb t_0 t_1 t_2 T5 L5 B5 CP
                obtain ⟨t_0, t_1, t_2⟩ : _ ∧ _ ∧ _ := ⟨T6.out.1 0 _ rfl, T6.out.1 1 _ rfl, T6.out.1 2 _ rfl⟩
                go_wp2_with fail
                refine (CB.out _ L6.out).mono ?_
                rintro e w7 ⟨rfl, hb⟩
                have B7 := Lib.hid (cbelow_on B6.out hb)
                clear hb t_0 t_1 t_2 T6 L6 B6 CB
                go_wp2
                refine ⟨?_, ?_⟩
                · first | exact ⟨j + 1, q', by go_num, rfl, by omega, HQ, B7⟩ | ((repeat apply Exists.intro); exact ⟨⟨j + 1, q', by go_num, rfl, by omega, HQ, B7⟩, rfl⟩)
                · simp [intOf]; omega
              · rw [peer_free hm] at CP
                have HQ : Hid (q' + 1 = (freeA (ends ls) ps i).length + (freeN (ends ls) i (j + 1)).length) := by
                  show _ = _
                  rw [freeN, if_neg hm, List.length_append, hq'.out]; rfl
                have hfa := free_at (ends ls) ps np i j n hlt HT.out hlt2 hm
                rw [← hq'.out] at hfa
                have hqN : q' < N := by
                  rw [← HN.out]
                  rcases Nat.lt_or_ge q' (freeA (ends ls) ps np).length with z | z
                  · exact z
                  · rw [List.getElem?_eq_none z] at hfa; cases hfa
                have hNb : N ≤ 1000 := by
                  have := HF.out np (Nat.le_refl _)
                  rw [HN.out] at this
                  omega
                have D5 := Lib.hid (D3.out.on B5.out)
                obtain ⟨fb, foff, rfl⟩ := D5.out.elemAd 3 (fun _ => rfl) hfa
                have HFA := Lib.hid hfa
                clear hfa hm
                simp only at CP
                go_wp2_with fail
                refine (CP.out _ L5.out).mono ?_
                rintro e w6 ⟨rfl, hb⟩
                have B6 := Lib.hid (cbelow_on B5.out hb)
                have D6 := Lib.hid (D5.out.on hb)
                clear hb t_0 t_1 t_2 T5 L5 B5 CP D5
                have m0 : w6.cell? ⟨fb, foff + q' * 4, none⟩ = some (.int .i64 (i : Int)) := D6.out.elem 4 (fun _ => rfl) HFA.out 0 rfl
                have m1 : w6.cell? ⟨fb, foff + q' * 4 + 1, none⟩ = some (.int .i64 (j : Int)) := D6.out.elem 4 (fun _ => rfl) HFA.out 1 rfl
                have m2 : w6.cell? ⟨fb, foff + q' * 4 + 2, none⟩ = some (.int .i64 (-1)) := D6.out.elem 4 (fun _ => rfl) HFA.out 2 rfl
                have m3 : w6.cell? ⟨fb, foff + q' * 4 + 3, none⟩ = some (.int .i64 (-1)) := D6.out.elem 4 (fun _ => rfl) HFA.out 3 rfl
                have hw3 : IntKind.i64.wrap ((q' : Int) + 1) = (q' : Int) + 1 := by rw [IntKind.wrap_i64]; omega
                clear HFA D6
                go_wp2
                refine ⟨?_, ?_⟩
                · first | exact ⟨j + 1, q' + 1, by go_num, by go_num, by omega, HQ, B6⟩ | ((repeat apply Exists.intro); exact ⟨⟨j + 1, q' + 1, by go_num, by go_num, by omega, HQ, B6⟩, rfl⟩)
                · simp [intOf]; omega
            · obtain rfl : j = n := by omega
              have HQ : Hid (q' = (freeA (ends ls) ps (i + 1)).length) := by
                show _ = _
                rw [freeA, HT.out, List.length_append]; exact hq'.out
              go_wp2
              refine ⟨?_, ?_⟩
              · first | exact ⟨i + 1, q', by go_num, rfl, by omega, HQ, B5⟩ | ((repeat apply Exists.intro); exact ⟨⟨i + 1, q', by go_num, rfl, by omega, HQ, B5⟩, rfl⟩)
              · simp [intOf]; omega
        · obtain rfl : i = np := by omega
          have hqN : q = N := hq.out.trans HN.out
          subst hqN
          go_wp2_with fail
          refine (AW.out _).mono ?_
          rintro e w6 ⟨rfl, hb⟩
          have B6 := Lib.hid (cbelow_on (cbelow_on B3.out B4.out) hb)
          clear hb
          go_wp2
          go_ret
          exact ⟨rfl, B6.out⟩
    · have e1' : (R != 0) = true := by simp; exact e1
      go_wp2_with fail
      refine (AW.out _).mono ?_
      rintro e w3 ⟨rfl, hb⟩
      have B3 := Lib.hid (cbelow_on B2.out hb)
      clear hb
      go_wp2
      go_ret
      exact ⟨rfl, B3.out⟩
end Go.Proofs.Ytgbphocmnpjjpab
