/- Meeting, Of, All. -/
import Derived.Test.YtgcbngephokegaaK11
namespace Go.Proofs.Ytgcbngephokegaa
open Go.RowKit Go.Maps Go.MapKept Go.ChangeMaps Go.WideElems Go.Joins
set_option linter.unusedVariables false
set_option linter.unusedSimpArgs false

theorem row_kt {ob : Nat} {w w' : World} {base : Nat} {te : TypeId} {size n : Nat} {v : Value} {xs : List Value} (h : Row w base te size v n xs) (k : Kt ob w w') (ht : te ≠ 83) (hb : ob < base) : Row w' base te size v n xs := by
  refine h.keep2 k (fun i e hi q => ?_)
  rcases q with q | ⟨cur, z, q⟩
  · omega
  · rcases h.1.2 with ⟨e1, -⟩ | ⟨g1, c1, cur1, e1, -, q1, -⟩
    · rw [e1] at e; cases e
    · rw [e1] at e
      simp [Value.ownBlock] at e
      subst e
      rw [q] at q1
      simp at q1
      exact ht q1.2.1.symm
theorem ofP (A : Nat) (hA : A < 4294967296) (i : Nat) (hi : i ≤ 32) (w : World) : Calls Try.prog 47 #[.int .u32 (A : Nat), .int .i64 (i : Nat)] w fun e w' => e = .returned (pv (ad (pth A i) : Nat) ((pth A i).length : Nat)) ∧ Below w.heap.size w w' := by
  refine (of_any A hA (i : Nat) w).mono ?_
  rintro e w' ⟨rfl, rfl⟩
  have h : inB (i : Nat) = i := by rw [inB_of _ (by omega) (by omega)]; rfl
  rw [h, ad_pth A hA i hi, pth_len]
  exact ⟨rfl, bel_al (Below.refl _ _) _⟩
abbrev lessQ (q : Pth) (i : Nat) : Pth → Bool := fun s => decide (s <+: q ∧ s.length < i)
abbrev metQ (q : Pth) : Pth → Bool := fun s => decide (s <+: q ∨ q <+: s)
theorem less_zero {E : List Ent} (hn : E.Nodup) (q : Pth) : srt E (lessQ q 0) = [] := srt_none hn (fun x _ => decide_eq_false (fun h => by omega))
theorem less_succ {E : List Ent} (hn : E.Nodup) (q : Pth) (i : Nat) (hi : i ≤ q.length) : srt E (lessQ q i) ++ srt E (atQ (q.take i)) = srt E (lessQ q (i + 1)) := by
  have hl : (q.take i).length = i := by rw [List.length_take]; omega
  have h1 := (srt_lst hn (lessQ q i)).mono (S' := fun s => s <+: q ∧ s.length < i) (fun x _ => by simp)
  have h2 := (srt_lst hn (atQ (q.take i))).mono (S' := fun s => s = q.take i) (fun x _ => by simp)
  have h3 := (srt_lst hn (lessQ q (i + 1))).mono (S' := fun s => s <+: q ∧ s.length < i + 1) (fun x _ => by simp)
  refine Lst.uniq ((lst_app h1 h2 ?_).mono (S' := fun s => s <+: q ∧ s.length < i + 1) (fun x hx => ?_)) h3 (fun x => Iff.rfl)
  · rintro p s ⟨hp, hlt⟩ rfl
    have : p <+: q.take i := List.prefix_of_prefix_length_le hp (List.take_prefix _ _) (by omega)
    obtain ⟨t, ht⟩ := this
    cases t with
    | nil => rw [List.append_nil] at ht; rw [ht] at hlt; omega
    | cons b t => rw [← ht]; exact plt_pre _ _ _
  · constructor
    · rintro (h | h)
      · exact ⟨h.1, by omega⟩
      · rw [h]; exact ⟨List.take_prefix _ _, by omega⟩
    · rintro ⟨h, k⟩
      rcases Nat.lt_or_ge x.1.length i with c | c
      · exact Or.inl ⟨h, c⟩
      · refine Or.inr ?_
        have := List.prefix_iff_eq_take.1 h
        rw [show x.1.length = i by omega] at this
        exact this
theorem less_up {E : List Ent} (hn : E.Nodup) (q : Pth) : srt E (lessQ q q.length) ++ srt E (upQ q) = srt E (metQ q) := by
  have h1 := (srt_lst hn (lessQ q q.length)).mono (S' := fun s => s <+: q ∧ s.length < q.length) (fun x _ => by simp)
  have h2 := (srt_lst hn (upQ q)).mono (S' := fun s => q <+: s) (fun x _ => by simp)
  have h3 := (srt_lst hn (metQ q)).mono (S' := fun s => s <+: q ∨ q <+: s) (fun x _ => by simp)
  refine Lst.uniq ((lst_app h1 h2 ?_).mono (S' := fun s => s <+: q ∨ q <+: s) (fun x hx => ?_)) h3 (fun x => Iff.rfl)
  · rintro p s ⟨⟨t, rfl⟩, hlt⟩ ⟨u, rfl⟩
    cases t with
    | nil => simp at hlt
    | cons b t => rw [List.append_assoc]; exact plt_pre _ _ _
  · constructor
    · rintro (h | h)
      · exact Or.inl h.1
      · exact Or.inr h
    · rintro (h | h)
      · rcases Nat.lt_or_ge x.1.length q.length with c | c
        · exact Or.inl ⟨h, c⟩
        · have := h.eq_of_length (Nat.le_antisymm h.length_le c)
          rw [this]; exact Or.inr List.prefix_rfl
      · exact Or.inr h
theorem less_stop {E : List Ent} (hn : E.Nodup) (q : Pth) (j : Nat) (hj : j ≤ q.length) (h : ∀ e ∈ E, ¬ q.take j <+: e.1) : srt E (lessQ q j) = srt E (metQ q) := by
  have h1 := (srt_lst hn (lessQ q j)).mono (S' := fun s => s <+: q ∧ s.length < j) (fun x _ => by simp)
  have h3 := (srt_lst hn (metQ q)).mono (S' := fun s => s <+: q ∨ q <+: s) (fun x _ => by simp)
  refine Lst.uniq h1 h3 (fun x => ?_)
  constructor
  · rintro ⟨hx, k⟩; exact ⟨hx, Or.inl k.1⟩
  · rintro ⟨hx, k | k⟩
    · refine ⟨hx, k, ?_⟩
      rcases Nat.lt_or_ge x.1.length j with c | c
      · exact c
      · exact absurd (List.prefix_of_prefix_length_le (List.take_prefix _ _) k (by rw [List.length_take]; omega)) (h x hx)
    · exact absurd ((List.take_prefix _ _).trans k) (h x hx)
theorem blk_below {n : Nat} {w w' : World} {b : Nat} {c : Value} {cs : List Value} (h : Blk w b (c :: cs)) (hb : Below n w w') (hl : b < n) : Blk w' b (c :: cs) :=
  Keep.blk (S := fun k => n ≤ k) ⟨hb.os, hb.tape, hb.output, hb.size, fun k _ hk => hb.block k (by omega)⟩ h (by omega)
set_option maxRecDepth 100000 in
theorem meeting_wrong (W : World) (p : Addr) (A : Nat) (n : Int) (hA : A < 4294967296) (hr : rightB A n = false) :
    Calls Try.prog 20 #[.pointer (some p), pv (A : Nat) n] W fun e w' => e = .returned (.slice none 0 0) ∧ Below W.heap.size W w' := by
  have hC := Lib.hid (check_any A n hA p)
  rw [hr] at hC
  go_enter Try.func20, Try.ntmps20
  go_wp2_with fail
  refine (hC.out _).mono ?_
  rintro e w2 ⟨rfl, hb⟩
  have B2 := Lib.hid (bel_on' (bel_al (Below.refl W.heap.size W) _) hb)
  clear hb hC
  go_wp2
  go_ret
  exact ⟨rfl, B2.out⟩
set_option maxRecDepth 100000 in
theorem meeting_nil (W : World) (A n : Int) : Calls Try.prog 20 #[.pointer none, pv A n] W fun e w' => e = .returned (.slice none 0 0) ∧ Below W.heap.size W w' := by
  have hC := Lib.hid (check_nil A n)
  go_enter Try.func20, Try.ntmps20
  go_wp2_with fail
  refine (hC.out _).mono ?_
  rintro e w2 ⟨rfl, hb⟩
  have B2 := Lib.hid (bel_on' (bel_al (Below.refl W.heap.size W) _) hb)
  clear hb hC
  go_wp2
  go_ret
  exact ⟨rfl, B2.out⟩
set_option maxRecDepth 100000 in
set_option maxHeartbeats 2000000 in
theorem meeting_right (W : World) (pre : List Value) (a : TL) (N : List Pth) (E : List Ent) (nb ne A k : Nat) (hA : A < 4294967296) (hk : k ≤ 32) (hr : rightB A (k : Nat) = true)
    (h : Tl W pre a N E nb ne) (hp : Plain N E) (hE : E.length ≤ 100000) :
    Calls Try.prog 20 #[.pointer (some ⟨a.bk [], pre.length, none⟩), pv (A : Nat) (k : Nat)] W fun e w' => ∃ v, e = .returned v ∧ Row w' W.heap.size 83 3 v (srt E (metQ (pth A k))).length (ecells (srt E (metQ (pth A k)))) ∧ Below W.heap.size W w' := by
  have hC := Lib.hid (check_any A (k : Nat) hA ⟨a.bk [], pre.length, none⟩)
  rw [hr] at hC
  have T := Lib.hid h
  have hen := Lib.hid h.en
  have HP := Lib.hid hp
  have had : (ad (pth A k) : Nat) = A := by
    obtain ⟨-, -, h2⟩ := of_decide_eq_true hr
    exact ad_right A k hA hk h2
  have hkl := pth_len A k
  clear h hp hr
  go_enter Try.func20, Try.ntmps20
  go_upto_region 1 with fail
  refine at_code (S := fun w1 => Blk w1 W.heap.size [.int .u32 (A : Nat), .int .i64 (k : Nat)] ∧ Below W.heap.size W w1) ⟨Blk.new _ _ _, bel_al (Below.refl _ _) _⟩ (fun W1 hW => ?_)
  obtain ⟨hX, hb⟩ := hW
  have X1 := Lib.hid hX
  have B1 := Lib.hid hb
  have x_0 := hX.1 0 _ rfl
  have x_1 := hX.1 1 _ rfl
  clear hX hb
  go_wp2_with fail
  refine (hC.out W1).mono ?_
  rintro e w2 ⟨rfl, hb⟩
  have X2 := Lib.hid (X1.out.on hb)
  have B2 := Lib.hid (bel_on' B1.out hb)
  clear hb x_0 x_1 X1 B1 hC
  go_upto_region 4 with fail
  have hbw := bel_al (Below.refl w2.heap.size w2) (.cells #[.slice none 0 0] 45)
  refine at_code (S := fun w => Out w w2.heap.size w (srt E (lessQ (pth A k) 0)) ∧ Below W.heap.size W w ∧ Blk w W.heap.size [.int .u32 (A : Nat), .int .i64 (k : Nat)] ∧ Tl w pre a N E nb ne) ⟨⟨Below.refl _ _, _, Blk.new _ _ _, by rw [less_zero hen.out]; exact row_nil _ _ _ _⟩, bel_on' B2.out hbw, X2.out.on hbw, (T.out.on B2.out).on hbw⟩ (fun Wo h3 => ?_)
  have O3 := Lib.hid h3.1
  have B3 := Lib.hid h3.2.1
  have X3 := Lib.hid h3.2.2.1
  have T3 := Lib.hid h3.2.2.2
  have hl : Hid (∀ k, a.has N k → k < w2.heap.size) := Lib.hid (fun j hj => Nat.lt_of_lt_of_le (T.out.lt j hj) B2.out.size)
  have hBo : Hid (W.heap.size < w2.heap.size) := Lib.hid X2.out.lt
  have x_0 := h3.2.2.1.1 0 _ rfl
  have x_1 := h3.2.2.1.1 1 _ rfl
  clear h3 hbw X2 T B2
  generalize w2.heap.size = ob at O3 hl hBo ⊢
  go_wp2_with fail
  refine (find_any Wo pre a N E nb ne A k hA hk T3.out).mono ?_
  rintro e w3 ⟨j, va, own, rfl, hj, hjn, hown, hrow, hb⟩
  have HJ := Lib.hid hjn
  have HO := Lib.hid hown
  have R4 := Lib.hid hrow
  have O4 := Lib.hid (O3.out.on hb)
  have hoW : Hid (ob < Wo.heap.size) := Lib.hid (by obtain ⟨-, v, hv, -⟩ := O3.out; exact hv.lt)
  have y_0 := (X3.out.on hb).1 0 _ rfl
  obtain ⟨adr, cap, rfl⟩ := R4.out.slice
  have hN : Hid (∀ q ∈ N, q.length ≤ 32) := Lib.hid (fun q hq => by
    rcases (HP.out.t q).1 hq with rfl | ⟨e, he, hpre⟩
    · simp
    · exact Nat.le_trans hpre.length_le (HP.out.le e he).1)
  have hcl : Hid (∀ q, (∃ e ∈ E, q <+: e.1) → q ∈ N) := Lib.hid (fun q h => (HP.out.t q).2 (Or.inr h))
  have htk : Hid (∀ i, i ≤ k → (pth A k).take i = pth A i) := Lib.hid (fun i hi => pth_take A k i hi)
  clear hjn hown hrow hb O3 x_0 x_1 HP
  go_wp2_with fail
  clear y_0
  go_loopw [24] (fun iv wr => ∃ (i : Nat), iv = .int .i64 (i : Nat) ∧ i ≤ j ∧ Hid (Out Wo ob wr (srt E (lessQ (pth A k) i))) ∧ Hid (Row wr Wo.heap.size 27 1 (.slice adr j cap) j (ptrs a pre A j))) (fun iv _ => j - (intOf iv).toNat)
  case atStart => exact ⟨0, rfl, Nat.zero_le _, O4, R4⟩
  case round =>
    obtain ⟨i, rfl, hi, O, R⟩ := hrel
    clear O4 R4
    have hX := blk_below X3.out O.out.b hBo.out
    have y_0 := hX.1 0 _ rfl
    have y_1 := hX.1 1 _ rfl
    clear hX
    by_cases hij : i < j
    · have hw1 : IntKind.i64.wrap ((i : Int) + 1) = ((i + 1 : Nat) : Int) := by rw [IntKind.wrap_i64]; omega
      obtain ⟨g, cap', e1, -, -, hc⟩ := R.out.at (by omega)
      simp at e1
      obtain ⟨rfl, rfl⟩ := e1
      have cg : wr.cell? ⟨g, i, none⟩ = some (ptr a pre (pth A i)) := hc i _ (by unfold ptrs; rw [List.getElem?_map, List.getElem?_range hij]; rfl)
      unfold ptr at cg
      clear hc
      go_wp2_with fail
      refine (ofP A hA i (by omega) wr).mono ?_
      rintro e w5 ⟨rfl, hb⟩
      have O5 := Lib.hid (O.out.on hb)
      have R5 := Lib.hid (R.out.on hb)
      clear hb O R cg y_0 y_1
      have hr : (srt E (lessQ (pth A k) i)).Nodup ∧ ∀ x ∈ srt E (lessQ (pth A k) i), x ∈ E := ⟨nodup_srt hen.out _, fun x hx => (((srt_lst hen.out _).2 x).1 hx).1⟩
      have hT := take_srt T3.out hl.out hE (pth A i) (HJ.out i hij) (by rw [pth_len]; omega) w5 _ hr O5.out
      unfold ptr at hT
      have HT := Lib.hid hT
      clear hT hr
      go_wp2_with fail
      refine HT.out.mono ?_
      rintro e w6 ⟨rfl, hO, hZ⟩
      have O6 : Hid (Out Wo ob w6 (srt E (lessQ (pth A k) (i + 1)))) := Lib.hid (by
        have e := less_succ hen.out (pth A k) i (by rw [hkl]; omega)
        rw [htk.out i (by omega)] at e
        rw [← e]; exact hO)
      have R6 := Lib.hid (row_kt R5.out hZ (by decide) hoW.out)
      clear hO hZ HT O5 R5
      go_wp2_with fail
      refine ⟨⟨i + 1, by first | rfl | rw [hw1], by omega, O6, R6⟩, by simp [intOf] <;> omega⟩
    · obtain rfl : i = j := by omega
      rcases HO.out with ⟨rfl, hkN, rfl⟩ | ⟨rfl, hj0, hjN⟩
      · have hr : (srt E (lessQ (pth A i) i)).Nodup ∧ ∀ x ∈ srt E (lessQ (pth A i) i), x ∈ E := ⟨nodup_srt hen.out _, fun x hx => (((srt_lst hen.out _).2 x).1 hx).1⟩
        have hd : ∀ x ∈ srt E (lessQ (pth A i) i), ¬ pth A i <+: x.1 := fun x hx hp => by
          have h1 := of_decide_eq_true (((srt_lst hen.out _).2 x).1 hx).2
          have := hp.length_le
          rw [pth_len] at this
          omega
        have hE' := each_any T3.out hl.out hE hN.out hcl.out 33 (pth A i) hkN (by omega) wr _ hr hd O.out
        have eu := less_up hen.out (pth A i)
        rw [had, hkl] at hE'
        rw [hkl] at eu
        rw [eu] at hE'
        unfold ptr at hE'
        have HE := Lib.hid hE'
        clear hE' hr hd eu R
        go_wp2_with fail
        refine HE.out.mono ?_
        rintro e w6 ⟨rfl, hO, hZ⟩
        obtain ⟨hB, v, hv, hR⟩ := hO
        have HR := Lib.hid hR
        have HB := Lib.hid hB
        have v_0 := hv.1 0 _ rfl
        obtain ⟨ad6, cap6, rfl⟩ := hR.slice
        clear hB hR hv hZ HE O
        go_wp2
        go_ret
        exact ⟨_, rfl, HR.out.base (by have := hBo.out; omega), B3.out.trans (HB.out.mono (Nat.le_of_lt hBo.out))⟩
      · obtain ⟨hB, v, hv, hR⟩ := O.out
        have es := less_stop hen.out (pth A k) i (by rw [hkl]; exact hj) (fun e he hp => hjN (hcl.out _ ⟨e, he, by rw [htk.out i hj] at hp; exact hp⟩))
        rw [es] at hR
        have HR := Lib.hid hR
        have HB := Lib.hid hB
        have v_0 := hv.1 0 _ rfl
        obtain ⟨ad6, cap6, rfl⟩ := hR.slice
        clear hB hR hv O R es
        go_wp2
        go_ret
        exact ⟨_, rfl, HR.out.base (by have := hBo.out; omega), B3.out.trans (HB.out.mono (Nat.le_of_lt hBo.out))⟩
def metF (E : List Ent) (A : Nat) (n : Int) : List Ent := if rightB A n then srt E (metQ (pth A n.toNat)) else []
/-- What Meeting hands back. -/
def Ents (w : World) (base : Nat) (v : Value) (r : List Ent) : Prop := Row w base 83 3 v r.length (ecells r)
theorem tMeeting {Z : Nat → Prop} {p : Nat} {pre : List Value} {W : World} {E : List Ent} (h : Tri Z p pre W E) (A : Nat) (n : Int) (hA : A < 4294967296) (hE : E.length ≤ 100000) :
    Calls Try.prog 20 #[.pointer (some ⟨p, pre.length, none⟩), pv (A : Nat) n] W fun e w' => ∃ v, e = .returned v ∧ Ents w' W.heap.size v (metF E A n) ∧ Below W.heap.size W w' := by
  unfold metF
  cases hr : rightB A n with
  | false =>
    refine (meeting_wrong W _ A n hA hr).mono ?_
    rintro e w' ⟨rfl, hb⟩
    exact ⟨_, rfl, row_nil _ _ _ _, hb⟩
  | true =>
    obtain ⟨h0, h1, h2⟩ := of_decide_eq_true hr
    obtain ⟨k, rfl⟩ := Int.eq_ofNat_of_zero_le h0
    obtain ⟨a, N, rfl, t1, t2, t3, t4⟩ := h
    exact meeting_right W pre a N E _ _ A k hA (by omega) hr t1 t2 hE
theorem metF_32 (E : List Ent) (A : Nat) (hA : A < 4294967296) : metF E A 32 = srt E (metQ (pth A 32)) := by
  unfold metF rightB
  rw [show decide (0 ≤ (32 : Int) ∧ (32 : Int) ≤ 32 ∧ A % sz (32 : Int).toNat = 0) = true from decide_eq_true ⟨by omega, by omega, by show A % 2 ^ 0 = 0; omega⟩]
  rfl
theorem metF_all (E : List Ent) : metF E 0 0 = srt E (metQ []) := by
  unfold metF rightB
  rw [show decide (0 ≤ (0 : Int) ∧ (0 : Int) ≤ 32 ∧ 0 % sz (0 : Int).toNat = 0) = true from decide_eq_true ⟨by omega, by omega, Nat.zero_mod _⟩]
  rfl
set_option maxRecDepth 100000 in
theorem of_core (W : World) (t : Value) (A : Nat) (hA : A < 4294967296) (R : Value → World → Prop) (HM : Hid (∀ w, Below W.heap.size W w → Calls Try.prog 20 #[t, pv (A : Nat) 32] w fun e w' => ∃ v, e = .returned v ∧ R v w')) :
    Calls Try.prog 18 #[t, .int .u32 (A : Nat)] W fun e w' => ∃ v, e = .returned v ∧ R v w' := by
  have ho := fun w => of_any A hA 32 w
  rw [show inB 32 = 32 by decide, show cutA A 32 = A by unfold cutA sz; simp] at ho
  have HO := Lib.hid ho
  clear ho
  go_enter Try.func18, Try.ntmps18
  go_wp2_with fail
  refine (HO.out W).mono ?_
  rintro e w2 ⟨rfl, rfl⟩
  go_wp2_with fail
  refine (HM.out _ (bel_al (Below.refl _ _) _)).mono ?_
  rintro e w3 ⟨v, rfl, hr⟩
  have HR := Lib.hid hr
  clear hr HM HO
  go_wp2
  go_ret
  exact ⟨v, rfl, HR.out⟩
set_option maxRecDepth 100000 in
theorem all_core (W : World) (t : Value) (R : Value → World → Prop) (HM : Hid (Calls Try.prog 20 #[t, pv 0 0] W fun e w' => ∃ v, e = .returned v ∧ R v w')) :
    Calls Try.prog 17 #[t] W fun e w' => ∃ v, e = .returned v ∧ R v w' := by
  go_enter Try.func17, Try.ntmps17
  go_wp2_with fail
  refine HM.out.mono ?_
  rintro e w3 ⟨v, rfl, hr⟩
  have HR := Lib.hid hr
  clear hr HM
  go_wp2
  go_ret
  exact ⟨v, rfl, HR.out⟩
theorem tOf {Z : Nat → Prop} {p : Nat} {pre : List Value} {W : World} {E : List Ent} (h : Tri Z p pre W E) (A : Nat) (hA : A < 4294967296) (hE : E.length ≤ 100000) :
    Calls Try.prog 18 #[.pointer (some ⟨p, pre.length, none⟩), .int .u32 (A : Nat)] W fun e w' => ∃ v, e = .returned v ∧ Ents w' W.heap.size v (srt E (metQ (pth A 32))) ∧ Below W.heap.size W w' := by
  refine of_core W _ A hA (fun v w' => Ents w' W.heap.size v (srt E (metQ (pth A 32))) ∧ Below W.heap.size W w') (Lib.hid (fun w hb => ?_))
  refine (tMeeting (h.on hb) A 32 hA hE).mono ?_
  rintro e w' ⟨v, rfl, h1, h2⟩
  rw [metF_32 E A hA] at h1
  exact ⟨v, rfl, Row.base h1 hb.size, bel_on' hb h2⟩
theorem tAll {Z : Nat → Prop} {p : Nat} {pre : List Value} {W : World} {E : List Ent} (h : Tri Z p pre W E) (hE : E.length ≤ 100000) :
    Calls Try.prog 17 #[.pointer (some ⟨p, pre.length, none⟩)] W fun e w' => ∃ v, e = .returned v ∧ Ents w' W.heap.size v (srt E (metQ [])) ∧ Below W.heap.size W w' := by
  refine all_core W _ (fun v w' => Ents w' W.heap.size v (srt E (metQ [])) ∧ Below W.heap.size W w') (Lib.hid ?_)
  have := tMeeting h 0 0 (by omega) hE
  rw [metF_all] at this
  exact this
theorem tLen {Z : Nat → Prop} {p : Nat} {pre : List Value} {W : World} {E : List Ent} (h : Tri Z p pre W E) : Calls Try.prog 13 #[.pointer (some ⟨p, pre.length, none⟩)] W fun e w' => e = .returned (.int .i64 (E.length : Nat)) ∧ W = w' := by
  obtain ⟨a, N, rfl, t1, -⟩ := h
  exact len_any W pre a N E _ _ t1
theorem tSize {Z : Nat → Prop} {p : Nat} {pre : List Value} {W : World} {E : List Ent} (h : Tri Z p pre W E) (hE : E.length ≤ 100000) : Calls Try.prog 14 #[.pointer (some ⟨p, pre.length, none⟩)] W fun e w' => ∃ N, Plain N E ∧ e = .returned (.int .i64 (N.length : Nat)) ∧ W = w' := by
  obtain ⟨a, N, rfl, t1, t2, -⟩ := h
  have h1 := t2.few
  have h2 : 0 < N.length := List.length_pos_of_mem t1.c.nil
  refine (size_any W pre a N E _ _ t1 (by omega)).mono ?_
  rintro e w' ⟨rfl, rfl⟩
  exact ⟨N, t2, by rw [show N.length - 1 + 1 = N.length by omega], rfl⟩
/-- A tree of no entries. -/
theorem tri_new (Z : Nat → Prop) (p : Nat) (W : World) (h : Blk W p [.pointer none, .pointer none, .map none, .int .i64 0, .int .i64 0]) (hz : ¬ Z p) (hl : ∀ k, Z k → k < W.heap.size) : Tri Z p [] W [] := by
  refine ⟨⟨fun _ => p, fun _ => none⟩, [[]], rfl, ⟨⟨fun q hq => ?_, fun _ _ => rfl, fun i v hv => by simp at hv, ?_, fun q hq s hs _ => ?_, by simp⟩, ⟨fun q hq => ?_, fun q _ s _ b e => by cases e⟩, by simp, List.nodup_nil, fun e he => by cases he⟩, plain_new, fun k hk => ?_, hl⟩
  · have e : q = [] := by simpa using hq
    subst e
    have hb := Blo.of h
    intro i v hv
    have : (ncells (⟨fun _ => p, fun _ => none⟩ : TL) [[]] [])[i]? = some v := hv
    have e2 : ncells (⟨fun _ => p, fun _ => none⟩ : TL) [[]] [] = [.pointer none, .pointer none, .map none] := by
      unfold ncells wyV; simp
    rw [e2] at this
    refine hb i v ?_
    match i, this with
    | 0, t => exact t
    | 1, t => exact t
    | 2, t => exact t
  · have hb := Blo.of h
    intro i v hv
    show W.cell? ⟨p, 0 + 3 + i, none⟩ = some v ∧ W.frozen? ⟨p, 0 + 3 + i, none⟩ = false
    rw [Nat.add_assoc]
    refine hb (3 + i) v ?_
    match i, hv with
    | 0, t => exact t
    | 1, t => exact t
  · have e1 : q = [] := by simpa using hq
    have e2 : s = [] := by simpa using hs
    rw [e1, e2]
  · exact rfl
  · rcases hk with ⟨q, hq, rfl⟩ | ⟨q, hq, e⟩
    · exact hz
    · cases e
end Go.Proofs.Ytgcbngephokegaa
