/- The document's Peer; where a header comes to. -/
import Derived.Test.YtgbphocmnpjjpabT8
import Derived.Test.YtgbphocmnpjjpabT10
namespace Go.Proofs.Ytgbphocmnpjjpab
open Go.RowKit
set_option linter.unusedVariables false

/-- The other end's place. -/
def oth (i : Nat) : Nat := if i % 2 = 1 then i - 1 else i + 1
theorem peer_hit (d p : Int) : ∀ (ls : List Lk) (i : Nat), (ends ls)[i]? = some (d, p) → (∀ j, j < i → (ends ls)[j]? ≠ some (d, p)) → ∃ o, (ends ls)[oth i]? = some o ∧ peerF d p ls = (o.1, o.2, true)
  | [], i, h, _ => by simp [ends] at h
  | l :: r, 0, h, _ => by
    simp [ends] at h
    refine ⟨(l.c, l.d), rfl, ?_⟩
    rw [peerF, if_pos h]
  | l :: r, 1, h, hn => by
    simp [ends] at h
    have h0 := hn 0 (by omega)
    simp [ends] at h0
    refine ⟨(l.a, l.b), rfl, ?_⟩
    rw [peerF, if_neg (fun q => h0 q.1 q.2), if_pos h]
  | l :: r, i + 2, h, hn => by
    have h0 := hn 0 (by omega)
    have h1 := hn 1 (by omega)
    simp [ends] at h0 h1
    obtain ⟨o, ho, he⟩ := peer_hit d p r i (by simpa [ends] using h) (fun j hj => by have := hn (j + 2) (by omega); simpa [ends] using this)
    refine ⟨o, ?_, ?_⟩
    · have e : oth (i + 2) = oth i + 2 := by unfold oth; split <;> split <;> omega
      rw [e]; simpa [ends] using ho
    · rw [peerF, if_neg (fun q => h0 q.1 q.2), if_neg (fun q => h1 q.1 q.2)]; exact he
theorem peer_none (d p : Int) : ∀ (ls : List Lk), (∀ j, j < (ends ls).length → (ends ls)[j]? ≠ some (d, p)) → peerF d p ls = (0, 0, false)
  | [], _ => rfl
  | l :: r, hn => by
    have h0 := hn 0 (by simp [ends])
    have h1 := hn 1 (by simp [ends])
    simp [ends] at h0 h1
    rw [peerF, if_neg (fun q => h0 q.1 q.2), if_neg (fun q => h1 q.1 q.2)]
    exact peer_none d p r (fun j hj => by have := hn (j + 2) (by simp [ends]; omega); simpa [ends] using this)
set_option maxRecDepth 100000 in
set_option maxHeartbeats 4000000 in
theorem rpeer_any (ls : List Lk) (pa : Option Addr) (np pc : Nat) (la : Option Addr) (lc : Nat) (aa : Option Addr) (na ac : Nat) (d p : Int) (w : World) (hl : Rw w la (ls.flatMap Lk.cells)) (hll : ls.length < 100000) :
    Calls Try.prog 14 #[tv pa np pc la ls.length lc aa na ac, .int .i64 d, .int .i64 p] w fun e w' => e = .returned (.tuple #[.int .i64 (peerF d p ls).1, .int .i64 (peerF d p ls).2.1, .bool (peerF d p ls).2.2]) ∧ Below w.heap.size w w' := by
  have HT := Lib.hid (peer_hit d p ls)
  have HN := Lib.hid (peer_none d p ls)
  obtain ⟨R, hR⟩ : ∃ R, peerF d p ls = R := ⟨_, rfl⟩
  rw [hR] at HT HN ⊢
  clear hR
  obtain ⟨W0, hW0⟩ : ∃ W0, w.alloc (Obj.cells (tc pa np pc la ls.length lc aa na ac).toArray 26) = W0 := ⟨_, rfl⟩
  have hb0 : Below w.heap.size w W0 := by rw [← hW0]; exact cbelow_al (Below.refl _ _) _
  have T0 := Lib.hid (show Blk W0 w.heap.size (tc pa np pc la ls.length lc aa na ac) by rw [← hW0]; exact Blk.new _ _ _)
  have CE := Lib.hid (rends_any ls pa np pc la lc aa na ac W0 (hl.on hb0) (Nat.lt_trans hll (by omega)))
  have BB := Lib.hid hb0
  have hel := ends_len ls
  clear hb0 hl
  unfold tc at *
  unfold tv at *
  obtain ⟨nl, hnl⟩ : ∃ n, ls.length = n := ⟨_, rfl⟩
  rw [hnl] at T0 hW0 hll CE hel ⊢
  generalize ends ls = E at *
  obtain ⟨N, hN⟩ : ∃ N, E.length = N := ⟨_, rfl⟩
  rw [hN] at CE hel HN
  have hN2 : N < 200000 := by omega
  have hN3 := Lib.hid hN
  clear hN hel
  go_enter Try.func14, Try.ntmps14
  go_upto_region 1 with fail
  clear hW0
  obtain ⟨t_0, t_1, t_2⟩ : _ ∧ _ ∧ _ := ⟨T0.out.1 0 _ rfl, T0.out.1 1 _ rfl, T0.out.1 2 _ rfl⟩
  go_wp2_with fail
  refine CE.out.mono ?_
  rintro e W1 ⟨a, cap, rfl, hD, hb⟩
  have D1 := Lib.hid hD
  have BB1 := Lib.hid (cbelow_on BB.out hb)
  clear hD hb t_0 t_1 t_2 CE T0 BB
  go_wp2_with fail
  go_loopw [10] (fun iv wr => ∃ i : Nat, iv = .int .i64 i ∧ i ≤ N ∧ Hid (∀ j, j < i → E[j]? ≠ some (d, p)) ∧ Hid (Below W1.heap.size W1 wr)) (fun iv _ => N - (intOf iv).toNat)
  case atStart => exact ⟨0, rfl, Nat.zero_le _, Lib.hid (fun j hj => absurd hj (by omega)), Lib.hid (Below.refl _ _)⟩
  case round =>
    obtain ⟨i, rfl, hi, hne, B1⟩ := hrel
    have D2 := Lib.hid (D1.out.on B1.out)
    clear D1
    by_cases hlt : i < N
    · obtain ⟨e, hc1, -, -⟩ := drop_at (l := E) (i := i) (by rw [hN3.out]; exact hlt)
      obtain ⟨bb, off, rfl⟩ := D2.out.elemAd 1 (fun _ => rfl) hc1
      have k0 : wr.cell? ⟨bb, off + i * 2, none⟩ = some (.int .i64 e.1) := D2.out.elem 2 (fun _ => rfl) hc1 0 rfl
      have k1 : wr.cell? ⟨bb, off + i * 2 + 1, none⟩ = some (.int .i64 e.2) := D2.out.elem 2 (fun _ => rfl) hc1 1 rfl
      obtain ⟨d2, p2⟩ := e
      simp only at k0 k1
      have eqp := fun w => eq_pair d2 p2 d p w
      by_cases z1 : d2 = d ∧ p2 = p
      · obtain ⟨rfl, rfl⟩ := z1
        obtain ⟨o2, ho1, ho2⟩ := HT.out i hc1 hne.out
        have HQ : Hid (R = (o2.1, o2.2, true)) := ho2
        have hoN : oth i < N := by
          rw [← hN3.out]
          rcases Nat.lt_or_ge (oth i) E.length with q | q
          · exact q
          · rw [List.getElem?_eq_none q] at ho1; cases ho1
        have m0 : wr.cell? ⟨bb, off + oth i * 2, none⟩ = some (.int .i64 o2.1) := D2.out.elem 2 (fun _ => rfl) ho1 0 rfl
        have m1 : wr.cell? ⟨bb, off + oth i * 2 + 1, none⟩ = some (.int .i64 o2.2) := D2.out.elem 2 (fun _ => rfl) ho1 1 rfl
        obtain ⟨oa, ob⟩ := o2
        simp only at m0 m1 HQ
        clear ho1 ho2 HT HN hne D2
        by_cases par : i % 2 = 1
        · have hw0 : IntKind.i64.wrap ((i : Int) + 1) = (i : Int) + 1 := by rw [IntKind.wrap_i64]; omega
          have ho : oth i = i - 1 := by unfold oth; rw [if_pos par]
          have hw1 : IntKind.i64.wrap ((i : Int) - 1) = (oth i : Int) := by rw [ho, IntKind.wrap_i64]; omega
          have hrm : (i : Int).tmod 2 = 1 := by rw [Int.tmod_eq_emod_of_nonneg (by omega)]; omega
          generalize oth i = o at *
          clear ho
          go_upto_region 9 with fail
          refine wp_region_noPanic ?_
          refine wp_region_along (S := fun w' => Below wr.heap.size wr w' ∧ ∀ b o, (wr.cell? ⟨b, o, none⟩).isSome = true → w'.cell? ⟨b, o, none⟩ = wr.cell? ⟨b, o, none⟩) ([(0, true), (1, true), (2, true), (3, true), (4, true), (5, true), (6, true), (7, true), (8, true), (9, true), (10, true), (11, true), (12, true)]) (by kernel_rfl) (by as_aux_lemma => kernel_rfl) (by kernel_rfl) (by kernel_rfl) (by as_aux_lemma => kernel_rfl) (by as_aux_lemma => kernel_rfl) (fun _ _ _ _ _ h => h) (ckeep (Below.refl _ _).drew) (fun hH => ?_)
          simp only [stepsOf, pickOp]
          iterate 13 (first | (refine along_skip (by rfl) ?_; try simp only [Act.put, List.setIfInBounds_toArray, List.set_cons_zero, List.set_cons_succ]) | (refine along_pure ?_ (by rfl) (fun w hSw => ?_) ?_; rotate_left; ((try dsimp only at hSw); go_simp; try with_reducible rfl); try simp only [Act.put, List.setIfInBounds_toArray, List.set_cons_zero, List.set_cons_succ]))
          refine along_end (NoPanic.normal ?_)
          have B2 := Lib.hid (cbelow_on B1.out hH.1)
          clear hH
          go_wp2
          go_ret3
          exact ⟨by rw [HQ.out]; rfl, cbelow_on BB1.out B2.out⟩
        · have hw1 : IntKind.i64.wrap ((i : Int) + 1) = (oth i : Int) := by unfold oth; rw [if_neg par, IntKind.wrap_i64]; omega
          have hrm : (i : Int).tmod 2 = 0 := by rw [Int.tmod_eq_emod_of_nonneg (by omega)]; omega
          generalize oth i = o at *
          go_upto_region 9 with fail
          refine wp_region_noPanic ?_
          refine wp_region_along (S := fun w' => Below wr.heap.size wr w' ∧ ∀ b o, (wr.cell? ⟨b, o, none⟩).isSome = true → w'.cell? ⟨b, o, none⟩ = wr.cell? ⟨b, o, none⟩) ([(0, true), (1, true), (2, true), (3, true), (4, true), (5, true), (6, true), (7, true), (8, true), (9, true), (10, true), (11, true), (12, true)]) (by kernel_rfl) (by as_aux_lemma => kernel_rfl) (by kernel_rfl) (by kernel_rfl) (by as_aux_lemma => kernel_rfl) (by as_aux_lemma => kernel_rfl) (fun _ _ _ _ _ h => h) (ckeep (Below.refl _ _).drew) (fun hH => ?_)
          simp only [stepsOf, pickOp]
          iterate 13 (first | (refine along_skip (by rfl) ?_; try simp only [Act.put, List.setIfInBounds_toArray, List.set_cons_zero, List.set_cons_succ]) | (refine along_pure ?_ (by rfl) (fun w hSw => ?_) ?_; rotate_left; ((try dsimp only at hSw); go_simp; try with_reducible rfl); try simp only [Act.put, List.setIfInBounds_toArray, List.set_cons_zero, List.set_cons_succ]))
          refine along_end (NoPanic.normal ?_)
          have B2 := Lib.hid (cbelow_on B1.out hH.1)
          clear hH
          go_wp2
          go_ret3
          exact ⟨by rw [HQ.out]; rfl, cbelow_on BB1.out B2.out⟩
      · have z1' : (d2 == d && p2 == p) = false := by rw [Bool.eq_false_iff]; intro q; simp at q; exact z1 q
        have Z := Lib.hid z1
        have hw1 : IntKind.i64.wrap ((i : Int) + 1) = (i : Int) + 1 := by rw [IntKind.wrap_i64]; omega
        have HQ : Hid (∀ j, j < i + 1 → E[j]? ≠ some (d, p)) := fun j hj => by
          rcases (show j < i ∨ j = i by omega) with q | rfl
          · exact hne.out j q
          · rw [hc1]; intro q; cases q; exact Z.out ⟨rfl, rfl⟩
        clear z1 HT HN hne hc1
        rw [z1'] at eqp
        clear z1'
        go_wp2
        refine ⟨?_, ?_⟩
        · first | exact ⟨i + 1, by go_num, by omega, HQ, B1⟩ | ((repeat apply Exists.intro); exact ⟨⟨i + 1, by go_num, by omega, HQ, B1⟩, rfl⟩)
        · simp [intOf]; omega
    · obtain rfl : i = N := by omega
      have HQ : Hid (R = (0, 0, false)) := HN.out hne.out
      go_wp2
      go_ret3
      exact ⟨by rw [HQ.out]; rfl, cbelow_on BB1.out B1.out⟩
/-- Where a header comes to: by whether it is let out, whether there is a link, whether it is let in. -/
def crossF (x : Int) (b1 ok b2 : Bool) : Int × Bool × Bool := match b1, ok, b2 with
  | false, _, _ => (0, false, false)
  | true, false, _ => (0, true, false)
  | true, true, false => (0, false, false)
  | true, true, true => (x, false, true)
set_option maxRecDepth 100000 in
set_option maxHeartbeats 2000000 in
theorem cross_core (pa : Option Addr) (np pc : Nat) (la : Option Addr) (nl lc : Nat) (aa : Option Addr) (na ac : Nat) (d p x y : Int) (g : Hr) (b1 ok b2 : Bool) (P : World → Prop) (HP : Hid (∀ W w, P W → Below W.heap.size W w → P w))
    (C1 : Hid (∀ w, P w → Calls Try.prog 17 #[tv pa np pc la nl lc aa na ac, .int .i64 d, .int .i64 p, .bool false, g.val] w fun e w' => e = .returned (.bool b1) ∧ Below w.heap.size w w'))
    (C2 : Hid (∀ w, P w → Calls Try.prog 13 #[tv pa np pc la nl lc aa na ac, .int .i64 d, .int .i64 p] w fun e w' => e = .returned (.tuple #[.int .i64 x, .int .i64 y, .bool ok]) ∧ Below w.heap.size w w'))
    (C3 : Hid (∀ w, P w → Calls Try.prog 17 #[tv pa np pc la nl lc aa na ac, .int .i64 x, .int .i64 y, .bool true, g.val] w fun e w' => e = .returned (.bool b2) ∧ Below w.heap.size w w'))
    (w : World) (hw : P w) : Calls Try.prog 15 #[tv pa np pc la nl lc aa na ac, .int .i64 d, .int .i64 p, g.val] w fun e w' => e = .returned (.tuple #[.int .i64 (crossF x b1 ok b2).1, .bool (crossF x b1 ok b2).2.1, .bool (crossF x b1 ok b2).2.2]) ∧ Below w.heap.size w w' := by
  obtain ⟨W0, hW0⟩ : ∃ W0, (w.alloc (Obj.cells (tc pa np pc la nl lc aa na ac).toArray 26)).alloc (Obj.cells (hc g.d g.s g.q g.x g.y).toArray 38) = W0 := ⟨_, rfl⟩
  have B0 := Lib.hid (show Below w.heap.size w W0 by rw [← hW0]; exact cbelow_al (cbelow_al (Below.refl _ _) _) _)
  have T0 := Lib.hid (show Blk W0 w.heap.size (tc pa np pc la nl lc aa na ac) by rw [← hW0]; exact (Blk.new _ _ _).on (cbelow_al (Below.refl _ _) _))
  have K0 := Lib.hid (show Blk W0 (w.heap.size + 1) (hc g.d g.s g.q g.x g.y) by rw [← hW0]; have k := Blk.new (w.alloc (Obj.cells (tc pa np pc la nl lc aa na ac).toArray 26)) 38 (hc g.d g.s g.q g.x g.y); rw [World.size_alloc] at k; exact k)
  have hP0 := Lib.hid (HP.out _ _ hw B0.out)
  clear hw
  unfold tc hc at *
  unfold tv Hr.val hv at *
  go_enter Try.func15, Try.ntmps15
  go_upto_region 1 with fail
  clear hW0
  obtain ⟨t_0, t_1, t_2⟩ : _ ∧ _ ∧ _ := ⟨T0.out.1 0 _ rfl, T0.out.1 1 _ rfl, T0.out.1 2 _ rfl⟩
  obtain ⟨k_0, k_1, k_2, k_3, k_4⟩ : _ ∧ _ ∧ _ ∧ _ ∧ _ := ⟨K0.out.1 0 _ rfl, K0.out.1 1 _ rfl, K0.out.1 2 _ rfl, K0.out.1 3 _ rfl, K0.out.1 4 _ rfl⟩
  go_wp2_with fail
  refine (C1.out _ hP0.out).mono ?_
  rintro e w1 ⟨rfl, hb⟩
  have T1 := Lib.hid (T0.out.on hb)
  have K1 := Lib.hid (K0.out.on hb)
  have B1 := Lib.hid (cbelow_on B0.out hb)
  have hP1 := Lib.hid (HP.out _ _ hP0.out hb)
  clear hb t_0 t_1 t_2 k_0 k_1 k_2 k_3 k_4 T0 K0 B0 hP0
  obtain ⟨t_0, t_1, t_2⟩ : _ ∧ _ ∧ _ := ⟨T1.out.1 0 _ rfl, T1.out.1 1 _ rfl, T1.out.1 2 _ rfl⟩
  obtain ⟨k_0, k_1, k_2, k_3, k_4⟩ : _ ∧ _ ∧ _ ∧ _ ∧ _ := ⟨K1.out.1 0 _ rfl, K1.out.1 1 _ rfl, K1.out.1 2 _ rfl, K1.out.1 3 _ rfl, K1.out.1 4 _ rfl⟩
  cases b1 with
  | false =>
    go_wp2
    go_ret3
    exact ⟨rfl, B1.out⟩
  | true =>
    go_wp2_with fail
    refine (C2.out _ hP1.out).mono ?_
    rintro e w2 ⟨rfl, hb⟩
    have T2 := Lib.hid (T1.out.on hb)
    have K2 := Lib.hid (K1.out.on hb)
    have B2 := Lib.hid (cbelow_on B1.out hb)
    have hP2 := Lib.hid (HP.out _ _ hP1.out hb)
    clear hb t_0 t_1 t_2 k_0 k_1 k_2 k_3 k_4 T1 K1 B1 hP1
    obtain ⟨t_0, t_1, t_2⟩ : _ ∧ _ ∧ _ := ⟨T2.out.1 0 _ rfl, T2.out.1 1 _ rfl, T2.out.1 2 _ rfl⟩
    obtain ⟨k_0, k_1, k_2, k_3, k_4⟩ : _ ∧ _ ∧ _ ∧ _ ∧ _ := ⟨K2.out.1 0 _ rfl, K2.out.1 1 _ rfl, K2.out.1 2 _ rfl, K2.out.1 3 _ rfl, K2.out.1 4 _ rfl⟩
    cases ok with
    | false =>
      go_wp2
      go_ret3
      exact ⟨rfl, B2.out⟩
    | true =>
      go_wp2_with fail
      refine (C3.out _ hP2.out).mono ?_
      rintro e w3 ⟨rfl, hb⟩
      have T3 := Lib.hid (T2.out.on hb)
      have K3 := Lib.hid (K2.out.on hb)
      have B3 := Lib.hid (cbelow_on B2.out hb)
      have hP3 := Lib.hid (HP.out _ _ hP2.out hb)
      clear hb t_0 t_1 t_2 k_0 k_1 k_2 k_3 k_4 T2 K2 B2 hP2
      cases b2 with
      | false =>
        go_wp2
        go_ret3
        exact ⟨rfl, B3.out⟩
      | true =>
        go_wp2
        go_ret3
        exact ⟨rfl, B3.out⟩
set_option maxRecDepth 100000 in
set_option maxHeartbeats 2000000 in
theorem rcross_core (pa : Option Addr) (np pc : Nat) (la : Option Addr) (nl lc : Nat) (aa : Option Addr) (na ac : Nat) (d p x y : Int) (g : Hr) (b1 ok b2 : Bool) (P : World → Prop) (HP : Hid (∀ W w, P W → Below W.heap.size W w → P w))
    (C1 : Hid (∀ w, P w → Calls Try.prog 18 #[tv pa np pc la nl lc aa na ac, .int .i64 d, .int .i64 p, .bool false, g.val] w fun e w' => e = .returned (.bool b1) ∧ Below w.heap.size w w'))
    (C2 : Hid (∀ w, P w → Calls Try.prog 14 #[tv pa np pc la nl lc aa na ac, .int .i64 d, .int .i64 p] w fun e w' => e = .returned (.tuple #[.int .i64 x, .int .i64 y, .bool ok]) ∧ Below w.heap.size w w'))
    (C3 : Hid (∀ w, P w → Calls Try.prog 18 #[tv pa np pc la nl lc aa na ac, .int .i64 x, .int .i64 y, .bool true, g.val] w fun e w' => e = .returned (.bool b2) ∧ Below w.heap.size w w'))
    (w : World) (hw : P w) : Calls Try.prog 16 #[tv pa np pc la nl lc aa na ac, .int .i64 d, .int .i64 p, g.val] w fun e w' => e = .returned (.tuple #[.int .i64 (crossF x b1 ok b2).1, .bool (crossF x b1 ok b2).2.1, .bool (crossF x b1 ok b2).2.2]) ∧ Below w.heap.size w w' := by
  obtain ⟨W0, hW0⟩ : ∃ W0, (w.alloc (Obj.cells (tc pa np pc la nl lc aa na ac).toArray 26)).alloc (Obj.cells (hc g.d g.s g.q g.x g.y).toArray 38) = W0 := ⟨_, rfl⟩
  have B0 := Lib.hid (show Below w.heap.size w W0 by rw [← hW0]; exact cbelow_al (cbelow_al (Below.refl _ _) _) _)
  have T0 := Lib.hid (show Blk W0 w.heap.size (tc pa np pc la nl lc aa na ac) by rw [← hW0]; exact (Blk.new _ _ _).on (cbelow_al (Below.refl _ _) _))
  have K0 := Lib.hid (show Blk W0 (w.heap.size + 1) (hc g.d g.s g.q g.x g.y) by rw [← hW0]; have k := Blk.new (w.alloc (Obj.cells (tc pa np pc la nl lc aa na ac).toArray 26)) 38 (hc g.d g.s g.q g.x g.y); rw [World.size_alloc] at k; exact k)
  have hP0 := Lib.hid (HP.out _ _ hw B0.out)
  clear hw
  unfold tc hc at *
  unfold tv Hr.val hv at *
  go_enter Try.func16, Try.ntmps16
  go_upto_region 1 with fail
  clear hW0
  obtain ⟨t_0, t_1, t_2⟩ : _ ∧ _ ∧ _ := ⟨T0.out.1 0 _ rfl, T0.out.1 1 _ rfl, T0.out.1 2 _ rfl⟩
  obtain ⟨k_0, k_1, k_2, k_3, k_4⟩ : _ ∧ _ ∧ _ ∧ _ ∧ _ := ⟨K0.out.1 0 _ rfl, K0.out.1 1 _ rfl, K0.out.1 2 _ rfl, K0.out.1 3 _ rfl, K0.out.1 4 _ rfl⟩
  go_wp2_with fail
  refine (C1.out _ hP0.out).mono ?_
  rintro e w1 ⟨rfl, hb⟩
  have T1 := Lib.hid (T0.out.on hb)
  have K1 := Lib.hid (K0.out.on hb)
  have B1 := Lib.hid (cbelow_on B0.out hb)
  have hP1 := Lib.hid (HP.out _ _ hP0.out hb)
  clear hb t_0 t_1 t_2 k_0 k_1 k_2 k_3 k_4 T0 K0 B0 hP0
  obtain ⟨t_0, t_1, t_2⟩ : _ ∧ _ ∧ _ := ⟨T1.out.1 0 _ rfl, T1.out.1 1 _ rfl, T1.out.1 2 _ rfl⟩
  obtain ⟨k_0, k_1, k_2, k_3, k_4⟩ : _ ∧ _ ∧ _ ∧ _ ∧ _ := ⟨K1.out.1 0 _ rfl, K1.out.1 1 _ rfl, K1.out.1 2 _ rfl, K1.out.1 3 _ rfl, K1.out.1 4 _ rfl⟩
  cases b1 with
  | false =>
    go_wp2
    go_ret3
    exact ⟨rfl, B1.out⟩
  | true =>
    go_wp2_with fail
    refine (C2.out _ hP1.out).mono ?_
    rintro e w2 ⟨rfl, hb⟩
    have T2 := Lib.hid (T1.out.on hb)
    have K2 := Lib.hid (K1.out.on hb)
    have B2 := Lib.hid (cbelow_on B1.out hb)
    have hP2 := Lib.hid (HP.out _ _ hP1.out hb)
    clear hb t_0 t_1 t_2 k_0 k_1 k_2 k_3 k_4 T1 K1 B1 hP1
    obtain ⟨t_0, t_1, t_2⟩ : _ ∧ _ ∧ _ := ⟨T2.out.1 0 _ rfl, T2.out.1 1 _ rfl, T2.out.1 2 _ rfl⟩
    obtain ⟨k_0, k_1, k_2, k_3, k_4⟩ : _ ∧ _ ∧ _ ∧ _ ∧ _ := ⟨K2.out.1 0 _ rfl, K2.out.1 1 _ rfl, K2.out.1 2 _ rfl, K2.out.1 3 _ rfl, K2.out.1 4 _ rfl⟩
    cases ok with
    | false =>
      go_wp2
      go_ret3
      exact ⟨rfl, B2.out⟩
    | true =>
      go_wp2_with fail
      refine (C3.out _ hP2.out).mono ?_
      rintro e w3 ⟨rfl, hb⟩
      have T3 := Lib.hid (T2.out.on hb)
      have K3 := Lib.hid (K2.out.on hb)
      have B3 := Lib.hid (cbelow_on B2.out hb)
      have hP3 := Lib.hid (HP.out _ _ hP2.out hb)
      clear hb t_0 t_1 t_2 k_0 k_1 k_2 k_3 k_4 T2 K2 B2 hP2
      cases b2 with
      | false =>
        go_wp2
        go_ret3
        exact ⟨rfl, B3.out⟩
      | true =>
        go_wp2
        go_ret3
        exact ⟨rfl, B3.out⟩
end Go.Proofs.Ytgbphocmnpjjpab
