/- Drop. -/
import Derived.Test.YtgcbngephokegaaK12
namespace Go.Proofs.Ytgcbngephokegaa
open Go.RowKit Go.Maps Go.MapKept Go.ChangeMaps Go.WideElems Go.Joins
set_option linter.unusedVariables false
set_option linter.unusedSimpArgs false

set_option maxRecDepth 100000 in
theorem drop_wrong (W : World) (p : Addr) (A : Nat) (n v : Int) (hA : A < 4294967296) (hr : rightB A n = false) :
    Calls Try.prog 9 #[.pointer (some p), pv (A : Nat) n, .int .i64 v] W fun e w' => e = .returned (.int .i64 13) ∧ Below W.heap.size W w' := by
  have hC := Lib.hid (check_any A n hA p)
  rw [hr] at hC
  go_enter Try.func9, Try.ntmps9
  go_wp2_with fail
  refine (hC.out _).mono ?_
  rintro e w2 ⟨rfl, hb⟩
  have B2 := Lib.hid (bel_on' (bel_al (Below.refl W.heap.size W) _) hb)
  clear hb hC
  go_wp2
  go_ret
  exact ⟨rfl, B2.out⟩
set_option maxRecDepth 100000 in
theorem drop_nil (W : World) (A n v : Int) : Calls Try.prog 9 #[.pointer none, pv A n, .int .i64 v] W fun e w' => e = .returned (.int .i64 2) ∧ Below W.heap.size W w' := by
  have hC := Lib.hid (check_nil A n)
  go_enter Try.func9, Try.ntmps9
  go_wp2_with fail
  refine (hC.out _).mono ?_
  rintro e w2 ⟨rfl, hb⟩
  have B2 := Lib.hid (bel_on' (bel_al (Below.refl W.heap.size W) _) hb)
  clear hb hC
  go_wp2
  go_ret
  exact ⟨rfl, B2.out⟩
/-- What the loop of Drop keeps: so many nodes of the way may be too many. -/
structure DropL (W : World) (pre : List Value) (a : TL) (N : List Pth) (E : List Ent) (A k : Nat) (wr : World) (j : Nat) (N' : List Pth) : Prop where
  t : Tl wr pre a N' E (N'.length - 1) E.length
  p : Part N' E (pth A k) j
  m : Mov W a N wr a N'
  s : ∀ q ∈ N', q ∈ N
theorem DropL.on {W : World} {pre : List Value} {a : TL} {N : List Pth} {E : List Ent} {A k : Nat} {wr wr' : World} {j : Nat} {N' : List Pth} (h : DropL W pre a N E A k wr j N') (hb : Below wr.heap.size wr wr') : DropL W pre a N E A k wr' j N' :=
  ⟨h.t.on hb, h.p, h.m.on hb, h.s⟩
theorem DropL.mem {W : World} {pre : List Value} {a : TL} {N : List Pth} {E : List Ent} {A k : Nat} {wr : World} {j : Nat} {N' : List Pth} (h : DropL W pre a N E A k wr j N') {i : Nat} (hi : i ≤ j) (hk : i ≤ k) : pth A i ∈ N' :=
  (h.p _).2 (Or.inr (Or.inr ⟨pth_pre A hk, by rw [pth_len]; exact hi⟩))
theorem empty_any {w : World} {pre : List Value} {a : TL} {N : List Pth} {E : List Ent} {nb ne : Nat} (h : Tl w pre a N E nb ne) {q : Pth} (hq : q ∈ N) (hne : q ≠ []) :
    ∃ e : Bool, (e = true → vals E q = [] ∧ q ++ [false] ∉ N ∧ q ++ [true] ∉ N) ∧ (e = false → vals E q ≠ [] ∨ q ++ [false] ∈ N ∨ q ++ [true] ∈ N) ∧ Calls Try.prog 44 #[.pointer (some ⟨a.bk q, 0, none⟩)] w fun r w' => r = .returned (.bool e) ∧ w = w' := by
  obtain ⟨⟨c0, c1, c2⟩, -⟩ := tl_cells h hq
  have ho : off pre q = 0 := if_neg hne
  rw [ho] at c0 c1 c2
  have hl := fun ty => mo_len (h.m.maps q hq) (nodup_vals h.en q) ty
  refine ⟨_, ?_, ?_, empty_core (a.bk q) 0 (if q ++ [false] ∈ N then some ⟨a.bk (q ++ [false]), 0, none⟩ else none) (if q ++ [true] ∈ N then some ⟨a.bk (q ++ [true]), 0, none⟩ else none) (a.mp q) _ w c0 (by rw [Nat.zero_add] at c1; exact c1) (by rw [Nat.zero_add] at c2; exact c2) hl⟩
  · intro e
    rw [Bool.and_eq_true, Bool.and_eq_true, decide_eq_true_eq] at e
    refine ⟨List.eq_nil_of_length_eq_zero e.1, fun c => ?_, fun c => ?_⟩
    · have := e.2.1; rw [if_pos c] at this; cases this
    · have := e.2.2; rw [if_pos c] at this; cases this
  · intro e
    rcases Classical.em (vals E q = []) with c | c
    · right
      rcases Classical.em (q ++ [false] ∈ N) with c0 | c0
      · exact Or.inl c0
      · right
        rcases Classical.em (q ++ [true] ∈ N) with c1 | c1
        · exact c1
        · rw [if_neg c0, if_neg c1, c] at e; simp at e
    · exact Or.inl c
theorem row_only {w w' : World} {base : Nat} {te : TypeId} {size n : Nat} {v : Value} {xs : List Value} {b : Nat} (h : Row w base te size v n xs) (hm : ∃ es clock, w.heap[b]? = some (.map es clock)) (ho : Only b w w') : Row w' base te size v n xs := by
  obtain ⟨es, clock, hm⟩ := hm
  refine h.keep2 ((Keep.refl (fun i => i = b) w).only ho (fun _ => rfl)) (fun i e _ q => ?_)
  have q : i = b := q
  subst q
  rcases h.1.2 with ⟨e1, -⟩ | ⟨g1, c1, cur1, e1, -, q1, -⟩
  · rw [e1] at e; cases e
  · rw [e1] at e
    simp [Value.ownBlock] at e
    subst e
    rw [hm] at q1; cases q1
theorem blk_only {w w' : World} {b c : Nat} {x : Value} {cs : List Value} (h : Blk w c (x :: cs)) (hm : ∃ es clock, w.heap[b]? = some (.map es clock)) (ho : Only b w w') : Blk w' c (x :: cs) := by
  obtain ⟨es, clock, hm⟩ := hm
  refine ((Keep.refl (fun i => i = b) w).only ho (fun _ => rfl)).blk h (fun q => ?_)
  have q : c = b := q
  subst q
  exact (Blo.of h).isCells hm
set_option maxRecDepth 100000 in
set_option maxHeartbeats 2000000 in
theorem drop_right (W : World) (pre : List Value) (a : TL) (N : List Pth) (E : List Ent) (A k : Nat) (v : Int) (hA : A < 4294967296) (hk : k ≤ 32) (hr : rightB A (k : Nat) = true) (hv : I64 v)
    (h : Tl W pre a N E (N.length - 1) E.length) (hp : Plain N E) (hE : E.length ≤ 100000) :
    Calls Try.prog 9 #[.pointer (some ⟨a.bk [], pre.length, none⟩), pv (A : Nat) (k : Nat), .int .i64 v] W fun e w' => e = .returned (.int .i64 (if (pth A k, v) ∈ E then 0 else 3)) ∧
      ∃ N', Tl w' pre a N' (dropE E (pth A k, v)) (N'.length - 1) (dropE E (pth A k, v)).length ∧ Plain N' (dropE E (pth A k, v)) ∧ Mov W a N w' a N' := by
  have hC := Lib.hid (check_any A (k : Nat) hA ⟨a.bk [], pre.length, none⟩)
  rw [hr] at hC
  have H := Lib.hid h
  have HP := Lib.hid hp
  have hBit := fun i (hi : i < 32) w => (bit_any A hA i hi w).mono (fun e w' (h : e = _ ∧ w = w') => (⟨h.1, h.2.symm⟩ : e = _ ∧ w' = w))
  have hnone : Hid ((pth A k, v) ∉ E → dropE E (pth A k, v) = E) := Lib.hid (fun hn => by
    unfold dropE
    rw [List.filter_eq_self]
    intro y hy
    exact decide_eq_true (fun e => hn (by rw [← e]; exact hy)))
  have hlt : Hid (∀ b, a.has N b → b < W.heap.size) := Lib.hid (fun b hb => h.lt b hb)
  clear h hp hr
  go_enter Try.func9, Try.ntmps9
  go_upto_region 1 with fail
  refine at_code (S := fun w1 => Blk w1 W.heap.size [.int .u32 (A : Nat), .int .i64 (k : Nat)] ∧ Below W.heap.size W w1) ⟨Blk.new _ _ _, bel_al (Below.refl _ _) _⟩ (fun W1 hW => ?_)
  obtain ⟨hX, hb⟩ := hW
  have X1 := Lib.hid hX
  have B1 := Lib.hid hb
  have x_0 := hX.1 0 _ rfl
  have x_1 := hX.1 1 _ rfl
  clear hX hb
  go_wp2_with fail
  refine (hC.out W1).mono ?_
  rintro e w2 ⟨rfl, hb⟩
  have X2 := Lib.hid (X1.out.on hb)
  have B2 := Lib.hid (bel_on' B1.out hb)
  have T2 := Lib.hid (H.out.on B2.out)
  have M2 := Lib.hid ((Mov.refl W a N).on B2.out)
  clear x_0 x_1
  have x_0 := X2.out.1 0 _ rfl
  have x_1 := X2.out.1 1 _ rfl
  clear hb X1 B1 hC
  go_wp2_with fail
  refine (find_any w2 pre a N E _ _ A k hA hk T2.out).mono ?_
  rintro e w3 ⟨j, va, own, rfl, hj, hjn, hown, hrow, hb⟩
  have T3 := Lib.hid (T2.out.on hb)
  have M3 := Lib.hid (M2.out.on hb)
  have R3 := Lib.hid hrow
  have X3 := Lib.hid (X2.out.on hb)
  have hX2 := Lib.hid X2.out.lt
  clear x_0 x_1 hb hrow T2 M2 X2 B2 H
  rcases hown with ⟨rfl, hkN, rfl⟩ | ⟨rfl, hj0, hjN⟩
  · clear hjn
    obtain ⟨⟨c0, c1, c2⟩, z0, z1, z2⟩ := tl_cells T3.out hkN
    have hmo := T3.out.m.maps _ hkN
    generalize hoq : off pre (pth A j) = o at c0 c1 c2 z0 z1 z2 ⊢
    generalize hbq : a.bk (pth A j) = bq at c0 c1 c2 z0 z1 z2 ⊢
    generalize hmq : a.mp (pth A j) = mq at c2 hmo
    have hlk := mo_look hmo (nodup_vals HP.out.en _) v hv
    have HMO := Lib.hid hmo
    clear hmo c0 c1 z0 z1 z2
    by_cases hin : (pth A j, v) ∈ E
    · rw [decide_eq_true (mem_vals.2 hin)] at hlk
      go_upto_region 10 with fail
      obtain ⟨adr, cap, rfl⟩ := R3.out.slice
      obtain ⟨wb, hwb0⟩ : ∃ x, w2.heap.size = x := ⟨_, rfl⟩
      rw [hwb0] at R3 hX2
      clear hwb0
      have ba := bel_al (Below.refl w3.heap.size w3) (.cells #[] 95)
      refine at_code (S := fun w => Tl w pre a N E (N.length - 1) E.length ∧ Mov W a N w a N ∧ Row w wb 27 1 (.slice adr j cap) j (ptrs a pre A j) ∧ Blk w W.heap.size [.int .u32 (A : Nat), .int .i64 (j : Nat)]) ⟨T3.out.on (bel_al (Below.refl _ _) _), M3.out.on (bel_al (Below.refl _ _) _), R3.out.on (bel_al (Below.refl _ _) _), X3.out.on (bel_al (Below.refl _ _) _)⟩ (fun w4 h4 => ?_)
      have T4 := Lib.hid h4.1
      have M4 := Lib.hid h4.2.1
      have R4 := Lib.hid h4.2.2.1
      have X4 := Lib.hid h4.2.2.2
      clear h4 ba T3 M3 R3 X3 hlk HMO c2 hnone
      have c2 := (tl_cells T4.out hkN).1.2.2
      have hmo := T4.out.m.maps _ hkN
      rw [hoq, hbq, hmq] at c2
      rw [hmq] at hmo
      obtain ⟨mb, w5, rfl, hdel, hmo5, ho⟩ := mo_del (l' := vals (dropE E (pth A j, v)) (pth A j)) hmo v hv (mem_vals.2 hin) (fun x => by
        rw [mem_vals, mem_dropE, mem_vals]
        constructor
        · rintro ⟨h1, h2⟩; exact ⟨h1, fun e => h2 (by rw [e])⟩
        · rintro ⟨h1, h2⟩; exact ⟨h1, fun e => h2 (Prod.mk.inj e).2⟩) 0
      have hism := MapV.isMap (show MapV Try.prog 3 zK uV w4 mb (unitL (vals E (pth A j))) from hmo)
      have T5 := Lib.hid (T4.out.put hkN hmq hmo5 ho (fun s _ hs => vals_drop hs) (nodup_dropE HP.out.en) (fun e he => T4.out.ed e (mem_dropE.1 he).1))
      have M5 := Lib.hid (M4.out.only hkN hmq ho)
      have R5 := Lib.hid (row_only R4.out hism ho)
      have X5 := Lib.hid (blk_only X4.out hism ho)
      have hdl := dropE_len HP.out.en hin
      have hroot : Hid (a.has N (a.bk [])) := Lib.hid (Or.inl ⟨[], T5.out.c.nil, rfl⟩)
      have hdp : Hid (Part N (dropE E (pth A j, v)) (pth A j) j) := Lib.hid (by have := HP.out.dropped hin; rwa [pth_len] at this)
      have hle : Hid (∀ e ∈ dropE E (pth A j, v), e.1.length ≤ 32 ∧ I64 e.2) := Lib.hid (fun e he => HP.out.le e (mem_dropE.1 he).1)
      clear hmo hmo5 ho hism T4 M4 R4 X4
      obtain ⟨⟨n0, n1⟩, m0, m1⟩ := tl_cnt T5.out
      have hwe : IntKind.i64.wrap ((E.length : Int) - 1) = (((dropE E (pth A j, v)).length : Nat) : Int) := by rw [IntKind.wrap_i64]; omega
      have hwj : IntKind.i64.wrap ((j : Int) - 1) = (j : Int) - 1 := by rw [IntKind.wrap_i64]; omega
      go_upto_region 12 with fail
      refine at_code (S := fun w => DropL W pre a N (dropE E (pth A j, v)) A j w j N ∧ Row w wb 27 1 (.slice adr j cap) j (ptrs a pre A j) ∧ Blk w W.heap.size [.int .u32 (A : Nat), .int .i64 (j : Nat)]) ⟨⟨?_, hdp.out, ?_, fun _ q => q⟩, ?_, ?_⟩ (fun w6 h6 => ?_)
      · exact T5.out.cnt4 _
      · exact M5.out.set T5.out.c.nil _ _
      · exact R5.out.keep ((Keep.refl (fun i => i = a.bk []) w5).set ⟨a.bk [], _, none⟩ _ (fun _ => rfl)) (fun i hi e => by have := hX2.out; have := hlt.out _ hroot.out; omega)
      · exact X5.out.far _ _ (Nat.ne_of_lt (hlt.out _ hroot.out))
      have L6 := Lib.hid h6.1
      have R6 := Lib.hid h6.2.1
      have X6 := Lib.hid h6.2.2
      have x_0 := h6.2.2.1 0 _ rfl
      have x_1 := h6.2.2.1 1 _ rfl
      have hwb : Hid (W.heap.size < wb) := hX2
      have hNl : Hid (N.length ≤ 3300001) := Lib.hid (by have := HP.out.few; omega)
      clear h6 T5 M5 R5 X5 n0 n1 m0 m1 hdel c2 hoq hbq hmq HP hX2
      go_wp2_with fail
      clear x_0 x_1
      go_loopw [12] (fun iv wr => ∃ (i : Nat) (z : Int) (N' : List Pth), iv = .int .i64 z ∧ Hid (z = (i : Int) - 1) ∧ i ≤ j ∧ Hid (DropL W pre a N (dropE E (pth A j, v)) A j wr i N') ∧ Hid (Row wr wb 27 1 (.slice adr j cap) j (ptrs a pre A j)) ∧ Hid (Blk wr W.heap.size [.int .u32 (A : Nat), .int .i64 (j : Nat)])) (fun iv _ => (intOf iv + 1).toNat)
      case atStart => exact ⟨j, (j : Int) - 1, N, by first | rfl | rw [hwj], Lib.hid rfl, Nat.le_refl _, L6, R6, X6⟩
      case round =>
        obtain ⟨i0, z, N', rfl, hz, hi, L, R, X⟩ := hrel
        clear L6 R6 X6
        cases i0 with
        | zero =>
          obtain rfl : z = -1 := by have := hz.out; omega
          have T := Lib.hid L.out.t
          have M := Lib.hid L.out.m
          have P0 := Lib.hid L.out.p.zero
          clear L R X hz
          go_wp2
          go_ret
          exact ⟨rfl, N', T.out, ⟨T.out.nn, T.out.en, P0.out, hle.out⟩, M.out⟩
        | succ i =>
          obtain rfl : z = (i : Int) := by have := hz.out; omega
          clear hz
          have hw1 : IntKind.i64.wrap ((i : Int) - 1) = (i : Int) - 1 := by rw [IntKind.wrap_i64]; omega
          have y_0 := X.out.1 0 _ rfl
          have y_1 := X.out.1 1 _ rfl
          have hij : i < j := by omega
          have hi0 : 0 ≤ (i : Int) := by omega
          have hpa : pth A i ∈ N' := L.out.mem (by omega) (by omega)
          have hch : pth A (i + 1) ∈ N' := L.out.mem (Nat.le_refl _) hi
          have hne1 : pth A (i + 1) ≠ [] := fun e => by have := congrArg List.length e; rw [pth_len] at this; simp at this
          have hti : (pth A j).take (i + 1) = pth A (i + 1) := pth_take A j (i + 1) hi
          have es : pth A i ++ [A.testBit (31 - i)] = pth A (i + 1) := (pth_succ A i).symm
          obtain ⟨g, cap', e1, -, -, hc⟩ := R.out.at (by omega)
          simp at e1
          obtain ⟨rfl, rfl⟩ := e1
          have cg : wr.cell? ⟨g, i, none⟩ = some (ptr a pre (pth A i)) := hc i _ (by unfold ptrs; rw [List.getElem?_map, List.getElem?_range hij]; rfl)
          unfold ptr at cg
          clear hc
          obtain ⟨⟨c0, c1, c2⟩, z0, z1, z2⟩ := tl_cells L.out.t hpa
          have hbit := hBit i (by omega)
          generalize hx : A.testBit (31 - i) = x at hbit es
          generalize hoq : off pre (pth A i) = o at c0 c1 c2 z0 z1 z2 cg
          generalize hbq : a.bk (pth A i) = bq at c0 c1 c2 z0 z1 z2 cg
          cases x
          · rw [es, wy_in hch] at c0
            simp only [bI, Bool.false_eq_true, if_false] at hbit
            go_wp2_with fail
            go_quiet ((go_at_call 43; exact Calls.quiet_of_same (hbit _)))
            obtain ⟨wq, hwq⟩ : ∃ x, x = wr.drewN nq := ⟨_, rfl⟩
            have L1 := Lib.hid (L.out.on (below_drewN (Below.refl _ _) nq))
            have R1 := Lib.hid (R.out.on (below_drewN (Below.refl _ _) nq))
            have X1 := Lib.hid (X.out.on (below_drewN (Below.refl _ _) nq))
            rw [← hwq] at L1 R1 X1 ⊢
            clear hwq c0 c1 c2 z0 z1 z2 L R X y_0 y_1 cg
            obtain ⟨⟨c0, c1, c2⟩, z0, z1, z2⟩ := tl_cells L1.out.t hpa
            rw [hoq, hbq] at c0 c1 c2 z0 z1 z2
            rw [es, wy_in hch] at c0
            obtain ⟨eb, he1, he0, hcall⟩ := empty_any L1.out.t hch hne1
            have HE1 := Lib.hid he1
            have HE0 := Lib.hid he0
            have HCe := Lib.hid hcall
            clear he1 he0 hcall
            go_wp2_with fail
            refine HCe.out.mono ?_
            rintro e w' ⟨rfl, rfl⟩
            clear HCe
            cases eb with
            | true =>
              obtain ⟨e1, e2, e3⟩ := HE1.out rfl
              have K1 := Lib.hid (L1.out.t.cut hpa false (by rw [es]; exact hch) (by rw [es]; exact e1))
              rw [es, hoq, hbq] at K1
              have hpl := L1.out.p.less (by rw [pth_len]; omega) L1.out.t.nn (by rw [hti]; exact e1) (by rw [hti]; exact e2) (by rw [hti]; exact e3)
              rw [hti] at hpl
              have PL := Lib.hid hpl
              have SL := Lib.hid L1.out.s
              have ML := Lib.hid ((L1.out.m.set hpa (o + (if false then 1 else 0)) (.pointer none)).less (N'' := N'.erase (pth A (i + 1))) (fun q hq => List.mem_of_mem_erase hq))
              rw [hbq] at ML
              have hbl : bq < W.heap.size := by rw [← hbq]; exact hlt.out _ (Or.inl ⟨_, L1.out.s _ hpa, rfl⟩)
              have hnl : (N'.erase (pth A (i + 1))).length + 1 = N'.length := by
                rw [List.length_erase_of_mem hch]; have := List.length_pos_of_mem hch; omega
              have hnp : 0 < (N'.erase (pth A (i + 1))).length := List.length_pos_of_mem K1.out.c.nil
              have hnn := Lib.hid L1.out.t.nn
              clear hpl e1 e2 e3 HE1 HE0
              go_upto_region 18 with fail
              refine at_code (S := fun w => Tl w pre a (N'.erase (pth A (i + 1))) (dropE E (pth A j, v)) (N'.length - 1) (dropE E (pth A j, v)).length ∧ Mov W a N w a (N'.erase (pth A (i + 1))) ∧ Row w wb 27 1 (.slice (some ⟨g, 0, none⟩) j cap) j (ptrs a pre A j) ∧ Blk w W.heap.size [.int .u32 (A : Nat), .int .i64 (j : Nat)]) ⟨K1.out, ML.out, R1.out.keep ((Keep.refl (fun i => i = bq) wq).set ⟨bq, _, none⟩ _ (fun _ => rfl)) (fun i hi e => by have := hwb.out; omega), X1.out.far _ _ (Nat.ne_of_lt hbl)⟩ (fun w3 h3 => ?_)
              have T3 := Lib.hid h3.1
              have M3 := Lib.hid h3.2.1
              have R3 := Lib.hid h3.2.2.1
              have X3 := Lib.hid h3.2.2.2
              clear h3 K1 ML R1 X1 c0 c1 c2 z0 z1 z2 L1
              obtain ⟨⟨n0, n1⟩, m0, m1⟩ := tl_cnt T3.out
              have hnl2 : (N'.erase (pth A (i + 1))).length - 1 = N'.length - 1 - 1 := by omega
              have hN1 := nodup_le N' N hnn.out SL.out
              have hN2 := hNl.out
              have hwn : IntKind.i64.wrap (((N'.length - 1 : Nat) : Int) - 1) = ((N'.length - 1 - 1 : Nat) : Int) := by rw [IntKind.wrap_i64]; omega
              go_upto_region 14 with fail
              refine at_code (S := fun w => DropL W pre a N (dropE E (pth A j, v)) A j w i (N'.erase (pth A (i + 1))) ∧ Row w wb 27 1 (.slice (some ⟨g, 0, none⟩) j cap) j (ptrs a pre A j) ∧ Blk w W.heap.size [.int .u32 (A : Nat), .int .i64 (j : Nat)]) ⟨⟨?_, PL.out, ?_, fun q hq => SL.out q (List.mem_of_mem_erase hq)⟩, ?_, ?_⟩ (fun w4 h4 => ?_)
              · rw [hnl2]; exact T3.out.cnt3 _
              · exact M3.out.set T3.out.c.nil _ _
              · exact R3.out.keep ((Keep.refl (fun i => i = a.bk []) w3).set ⟨a.bk [], _, none⟩ _ (fun _ => rfl)) (fun i hi e => by have := hwb.out; have := hlt.out _ hroot.out; omega)
              · exact X3.out.far _ _ (Nat.ne_of_lt (hlt.out _ hroot.out))
              have L4 := Lib.hid h4.1
              have R4 := Lib.hid h4.2.1
              have X4 := Lib.hid h4.2.2
              clear h4 T3 M3 R3 X3 PL n0 n1 m0 m1
              go_wp2_with fail
              refine ⟨⟨i, (i : Int) - 1, N'.erase (pth A (i + 1)), by first | rfl | rw [hw1], Lib.hid rfl, by omega, L4, R4, X4⟩, by simp [intOf] <;> omega⟩
            | false =>
              have hst := L1.out.p.stop (by rw [pth_len]; omega) (by rw [hti]; exact HE0.out rfl)
              have T := Lib.hid L1.out.t
              have M := Lib.hid L1.out.m
              clear L1 R1 X1 c0 c1 c2 z0 z1 z2 HE1 HE0
              go_wp2
              go_ret
              exact ⟨rfl, N', T.out, ⟨T.out.nn, T.out.en, hst, hle.out⟩, M.out⟩
          · rw [es, wy_in hch] at c1
            simp only [bI, if_true] at hbit
            go_wp2_with fail
            go_quiet ((go_at_call 43; exact Calls.quiet_of_same (hbit _)))
            obtain ⟨wq, hwq⟩ : ∃ x, x = wr.drewN nq := ⟨_, rfl⟩
            have L1 := Lib.hid (L.out.on (below_drewN (Below.refl _ _) nq))
            have R1 := Lib.hid (R.out.on (below_drewN (Below.refl _ _) nq))
            have X1 := Lib.hid (X.out.on (below_drewN (Below.refl _ _) nq))
            rw [← hwq] at L1 R1 X1 ⊢
            clear hwq c0 c1 c2 z0 z1 z2 L R X y_0 y_1 cg
            obtain ⟨⟨c0, c1, c2⟩, z0, z1, z2⟩ := tl_cells L1.out.t hpa
            rw [hoq, hbq] at c0 c1 c2 z0 z1 z2
            rw [es, wy_in hch] at c1
            obtain ⟨eb, he1, he0, hcall⟩ := empty_any L1.out.t hch hne1
            have HE1 := Lib.hid he1
            have HE0 := Lib.hid he0
            have HCe := Lib.hid hcall
            clear he1 he0 hcall
            go_wp2_with fail
            refine HCe.out.mono ?_
            rintro e w' ⟨rfl, rfl⟩
            clear HCe
            cases eb with
            | true =>
              obtain ⟨e1, e2, e3⟩ := HE1.out rfl
              have K1 := Lib.hid (L1.out.t.cut hpa true (by rw [es]; exact hch) (by rw [es]; exact e1))
              rw [es, hoq, hbq] at K1
              have hpl := L1.out.p.less (by rw [pth_len]; omega) L1.out.t.nn (by rw [hti]; exact e1) (by rw [hti]; exact e2) (by rw [hti]; exact e3)
              rw [hti] at hpl
              have PL := Lib.hid hpl
              have SL := Lib.hid L1.out.s
              have ML := Lib.hid ((L1.out.m.set hpa (o + (if true then 1 else 0)) (.pointer none)).less (N'' := N'.erase (pth A (i + 1))) (fun q hq => List.mem_of_mem_erase hq))
              rw [hbq] at ML
              have hbl : bq < W.heap.size := by rw [← hbq]; exact hlt.out _ (Or.inl ⟨_, L1.out.s _ hpa, rfl⟩)
              have hnl : (N'.erase (pth A (i + 1))).length + 1 = N'.length := by
                rw [List.length_erase_of_mem hch]; have := List.length_pos_of_mem hch; omega
              have hnp : 0 < (N'.erase (pth A (i + 1))).length := List.length_pos_of_mem K1.out.c.nil
              have hnn := Lib.hid L1.out.t.nn
              clear hpl e1 e2 e3 HE1 HE0
              go_upto_region 18 with fail
              refine at_code (S := fun w => Tl w pre a (N'.erase (pth A (i + 1))) (dropE E (pth A j, v)) (N'.length - 1) (dropE E (pth A j, v)).length ∧ Mov W a N w a (N'.erase (pth A (i + 1))) ∧ Row w wb 27 1 (.slice (some ⟨g, 0, none⟩) j cap) j (ptrs a pre A j) ∧ Blk w W.heap.size [.int .u32 (A : Nat), .int .i64 (j : Nat)]) ⟨K1.out, ML.out, R1.out.keep ((Keep.refl (fun i => i = bq) wq).set ⟨bq, _, none⟩ _ (fun _ => rfl)) (fun i hi e => by have := hwb.out; omega), X1.out.far _ _ (Nat.ne_of_lt hbl)⟩ (fun w3 h3 => ?_)
              have T3 := Lib.hid h3.1
              have M3 := Lib.hid h3.2.1
              have R3 := Lib.hid h3.2.2.1
              have X3 := Lib.hid h3.2.2.2
              clear h3 K1 ML R1 X1 c0 c1 c2 z0 z1 z2 L1
              obtain ⟨⟨n0, n1⟩, m0, m1⟩ := tl_cnt T3.out
              have hnl2 : (N'.erase (pth A (i + 1))).length - 1 = N'.length - 1 - 1 := by omega
              have hN1 := nodup_le N' N hnn.out SL.out
              have hN2 := hNl.out
              have hwn : IntKind.i64.wrap (((N'.length - 1 : Nat) : Int) - 1) = ((N'.length - 1 - 1 : Nat) : Int) := by rw [IntKind.wrap_i64]; omega
              go_upto_region 14 with fail
              refine at_code (S := fun w => DropL W pre a N (dropE E (pth A j, v)) A j w i (N'.erase (pth A (i + 1))) ∧ Row w wb 27 1 (.slice (some ⟨g, 0, none⟩) j cap) j (ptrs a pre A j) ∧ Blk w W.heap.size [.int .u32 (A : Nat), .int .i64 (j : Nat)]) ⟨⟨?_, PL.out, ?_, fun q hq => SL.out q (List.mem_of_mem_erase hq)⟩, ?_, ?_⟩ (fun w4 h4 => ?_)
              · rw [hnl2]; exact T3.out.cnt3 _
              · exact M3.out.set T3.out.c.nil _ _
              · exact R3.out.keep ((Keep.refl (fun i => i = a.bk []) w3).set ⟨a.bk [], _, none⟩ _ (fun _ => rfl)) (fun i hi e => by have := hwb.out; have := hlt.out _ hroot.out; omega)
              · exact X3.out.far _ _ (Nat.ne_of_lt (hlt.out _ hroot.out))
              have L4 := Lib.hid h4.1
              have R4 := Lib.hid h4.2.1
              have X4 := Lib.hid h4.2.2
              clear h4 T3 M3 R3 X3 PL n0 n1 m0 m1
              go_wp2_with fail
              refine ⟨⟨i, (i : Int) - 1, N'.erase (pth A (i + 1)), by first | rfl | rw [hw1], Lib.hid rfl, by omega, L4, R4, X4⟩, by simp [intOf] <;> omega⟩
            | false =>
              have hst := L1.out.p.stop (by rw [pth_len]; omega) (by rw [hti]; exact HE0.out rfl)
              have T := Lib.hid L1.out.t
              have M := Lib.hid L1.out.m
              clear L1 R1 X1 c0 c1 c2 z0 z1 z2 HE1 HE0
              go_wp2
              go_ret
              exact ⟨rfl, N', T.out, ⟨T.out.nn, T.out.en, hst, hle.out⟩, M.out⟩
    · rw [decide_eq_false (fun e => hin (mem_vals.1 e))] at hlk
      have he := hnone.out hin
      go_wp2
      go_ret
      exact ⟨rfl, N, T3.out.on (bel_al (Below.refl _ _) _), HP.out, M3.out.on (bel_al (Below.refl _ _) _)⟩
  · have hin : (pth A k, v) ∉ E := fun e => hjN ((HP.out.t _).2 (Or.inr ⟨_, e, pth_pre A hj⟩))
    have he := hnone.out hin
    go_wp2
    go_ret
    exact ⟨rfl, N, T3.out, HP.out, M3.out⟩
def dropC (E : List Ent) (A : Nat) (n v : Int) : Int := if rightB A n then (if (pth A n.toNat, v) ∈ E then 0 else 3) else 13
def dropF (E : List Ent) (A : Nat) (n v : Int) : List Ent := if rightB A n then dropE E (pth A n.toNat, v) else E
theorem tDrop {Z : Nat → Prop} {p : Nat} {pre : List Value} {W : World} {E : List Ent} (h : Tri Z p pre W E) (A : Nat) (n v : Int) (hA : A < 4294967296) (hv : I64 v) (hE : E.length ≤ 100000) :
    Calls Try.prog 9 #[.pointer (some ⟨p, pre.length, none⟩), pv (A : Nat) n, .int .i64 v] W fun e w' => e = .returned (.int .i64 (dropC E A n v)) ∧ Tri Z p pre w' (dropF E A n v) ∧ Hold Z W w' := by
  unfold dropC dropF
  cases hr : rightB A n with
  | false =>
    refine (drop_wrong W _ A n v hA hr).mono ?_
    rintro e w' ⟨rfl, hb⟩
    exact ⟨rfl, h.on hb, Hold.of hb⟩
  | true =>
    obtain ⟨h0, h1, h2⟩ := of_decide_eq_true hr
    obtain ⟨k, rfl⟩ := Int.eq_ofNat_of_zero_le h0
    obtain ⟨a, N, rfl, t1, t2, t3, t4⟩ := h
    refine (drop_right W pre a N E A k v hA (by omega) hr hv t1 t2 hE).mono ?_
    rintro e w' ⟨rfl, N', k1, k2, k3⟩
    refine ⟨rfl, ⟨a, N', rfl, k1, k2, fun j hj q => t3 j (k3.old j (t4 j q) hj) q, fun j hj => by have := t4 j hj; have := k3.k.size; omega⟩, k3.k.mono (fun i _ q r => t3 i q r)⟩
end Go.Proofs.Ytgcbngephokegaa
