/- Add. -/
import Derived.Test.YtgcbngephokegaaK6
namespace Go.Proofs.Ytgcbngephokegaa
open Go.RowKit Go.Maps Go.MapKept Go.ChangeMaps Go.WideElems Go.Joins
set_option linter.unusedVariables false
set_option linter.unusedSimpArgs false

/-- A tree moves: what else there was stays. -/
structure Mov (W : World) (a : TL) (N : List Pth) (w : World) (a' : TL) (N' : List Pth) : Prop where
  k : Keep (a.has N) W w
  old : ∀ b, b < W.heap.size → a'.has N' b → a.has N b
  root : a'.bk [] = a.bk []
theorem Mov.refl (W : World) (a : TL) (N : List Pth) : Mov W a N W a N := ⟨Keep.refl _ _, fun _ _ h => h, rfl⟩
theorem Mov.on {W w w' : World} {a a' : TL} {N N' : List Pth} (h : Mov W a N w a' N') (hb : Below w.heap.size w w') : Mov W a N w' a' N' :=
  ⟨h.k.trans (S' := fun _ => False) (Keep.of hb) (fun _ _ q => q.elim), h.old, h.root⟩
theorem Mov.set {W w : World} {a a' : TL} {N N' : List Pth} (h : Mov W a N w a' N') {q : Pth} (hq : q ∈ N') (o : Nat) (y : Value) : Mov W a N (w.setCell ⟨a'.bk q, o, none⟩ y) a' N' :=
  ⟨h.k.set _ _ (fun hl => h.old _ hl (Or.inl ⟨q, hq, rfl⟩)), h.old, h.root⟩
theorem Mov.link {W w : World} {a a' : TL} {N N' : List Pth} (h : Mov W a N w a' N') {s : Pth} (hs : s ≠ []) {b : Nat} (hb : W.heap.size ≤ b) : Mov W a N w (a'.add s b) (s :: N') := by
  refine ⟨h.k, fun k hk hh => ?_, (if_neg (fun e => hs e.symm)).trans h.root⟩
  rcases hh with ⟨q, hq, e⟩ | ⟨q, hq, e⟩
  · by_cases c : q = s
    · have : (a'.add s b).bk q = b := if_pos c
      omega
    · rw [show (a'.add s b).bk q = a'.bk q from if_neg c] at e
      exact h.old k hk (Or.inl ⟨q, (List.mem_cons.1 hq).resolve_left c, e⟩)
  · by_cases c : q = s
    · rw [show (a'.add s b).mp q = none from if_pos c] at e; cases e
    · rw [show (a'.add s b).mp q = a'.mp q from if_neg c] at e
      exact h.old k hk (Or.inr ⟨q, (List.mem_cons.1 hq).resolve_left c, e⟩)
theorem Mov.own {W w : World} {a a' : TL} {N N' : List Pth} (h : Mov W a N w a' N') (s : Pth) {b : Nat} (hb : W.heap.size ≤ b) : Mov W a N w (a'.own s b) N' := by
  refine ⟨h.k, fun k hk hh => ?_, h.root⟩
  rcases hh with ⟨q, hq, e⟩ | ⟨q, hq, e⟩
  · exact h.old k hk (Or.inl ⟨q, hq, e⟩)
  · by_cases c : q = s
    · rw [show (a'.own s b).mp q = some b from if_pos c] at e; cases e; omega
    · rw [show (a'.own s b).mp q = a'.mp q from if_neg c] at e
      exact h.old k hk (Or.inr ⟨q, hq, e⟩)
theorem Mov.only {W w w' : World} {a a' : TL} {N N' : List Pth} (h : Mov W a N w a' N') {q : Pth} (hq : q ∈ N') {b : Nat} (hm : a'.mp q = some b) (ho : Only b w w') : Mov W a N w' a' N' :=
  ⟨h.k.only ho (fun hl => h.old _ hl (Or.inr ⟨q, hq, hm⟩)), h.old, h.root⟩
theorem Mov.less {W w : World} {a a' : TL} {N N' N'' : List Pth} (h : Mov W a N w a' N') (hs : ∀ q ∈ N'', q ∈ N') : Mov W a N w a' N'' := by
  refine ⟨h.k, fun k hk hh => h.old k hk ?_, h.root⟩
  rcases hh with ⟨q, hq, e⟩ | ⟨q, hq, e⟩
  · exact Or.inl ⟨q, hs q hq, e⟩
  · exact Or.inr ⟨q, hs q hq, e⟩
theorem wy_in {a : TL} {N : List Pth} {q : Pth} (h : q ∈ N) : wyV a N q = .pointer (some ⟨a.bk q, 0, none⟩) := by unfold wyV; rw [if_pos h]
theorem wy_out {a : TL} {N : List Pth} {q : Pth} (h : q ∉ N) : wyV a N q = .pointer none := by unfold wyV; rw [if_neg h]
theorem bk_new {w : World} {pre : List Value} {a : TL} {N : List Pth} {E : List Ent} {nb ne : Nat} (h : Tl w pre a N E nb ne) : ¬ a.has N w.heap.size := fun q => Nat.lt_irrefl _ (h.lt _ q)
theorem map_nil (m : Option Nat) (w : World) : (binOp .eql 29 (.map m) (.map none)).run Try.prog w = .ok (.bool m.isNone) w := by cases m <;> kernel_rfl
/-- What the loop of Add keeps. -/
structure AddL (W : World) (pre : List Value) (a : TL) (N : List Pth) (E : List Ent) (A k B : Nat) (wr : World) (i : Nat) (a' : TL) (N' : List Pth) : Prop where
  t : Tl wr pre a' N' E (N'.length - 1) E.length
  p : Part N' E (pth A k) i
  m : Mov W a N wr a' N'
  b : Blk wr B [.int .u32 (A : Nat), .int .i64 (k : Nat)]
  bn : W.heap.size ≤ B ∧ ∀ j, a'.has N' j → j ≠ B
  few : N'.length ≤ N.length + i
theorem AddL.mem {W : World} {pre : List Value} {a : TL} {N : List Pth} {E : List Ent} {A k B : Nat} {wr : World} {i : Nat} {a' : TL} {N' : List Pth} (h : AddL W pre a N E A k B wr i a' N') (hi : i ≤ k) : pth A i ∈ N' :=
  (h.p _).2 (Or.inr (Or.inr ⟨pth_pre A hi, by rw [pth_len]; omega⟩))
theorem AddL.on {W : World} {pre : List Value} {a : TL} {N : List Pth} {E : List Ent} {A k B : Nat} {wr wr' : World} {i : Nat} {a' : TL} {N' : List Pth} (h : AddL W pre a N E A k B wr i a' N') (hb : Below wr.heap.size wr wr') : AddL W pre a N E A k B wr' i a' N' :=
  ⟨h.t.on hb, h.p, h.m.on hb, h.b.on hb, h.bn, h.few⟩
theorem AddL.step {W : World} {pre : List Value} {a : TL} {N : List Pth} {E : List Ent} {A k B : Nat} {wr : World} {i : Nat} {a' : TL} {N' : List Pth} (h : AddL W pre a N E A k B wr i a' N') (hi : i < k) (hm : pth A (i + 1) ∈ N') : AddL W pre a N E A k B wr (i + 1) a' N' :=
  ⟨h.t, h.p.same (by rw [pth_len]; exact hi) (by rw [pth_take A k (i + 1) hi]; exact hm), h.m, h.b, h.bn, Nat.le_succ_of_le h.few⟩
/-- A new node is tied. -/
theorem AddL.link {W : World} {pre : List Value} {a : TL} {N : List Pth} {E : List Ent} {A k B : Nat} {wr : World} {i : Nat} {a' : TL} {N' : List Pth} (h : AddL W pre a N E A k B wr i a' N') (hi : i < k) (hm : pth A (i + 1) ∉ N') (t : TypeId) (x : Bool) (hx : A.testBit (31 - i) = x) (hB : B < wr.heap.size) (o : Nat) (ho : o = off pre (pth A i) + (if x then 1 else 0)) :
    Tl (((wr.alloc (.cells #[.pointer none, .pointer none, .map none] t)).setCell ⟨a'.bk (pth A i), o, none⟩ (.pointer (some ⟨wr.heap.size, 0, none⟩)))) pre (a'.add (pth A (i + 1)) wr.heap.size) (pth A (i + 1) :: N') E (N'.length - 1) E.length ∧
    Mov W a N ((wr.alloc (.cells #[.pointer none, .pointer none, .map none] t)).setCell ⟨a'.bk (pth A i), o, none⟩ (.pointer (some ⟨wr.heap.size, 0, none⟩))) (a'.add (pth A (i + 1)) wr.heap.size) (pth A (i + 1) :: N') ∧
    Blk ((wr.alloc (.cells #[.pointer none, .pointer none, .map none] t)).setCell ⟨a'.bk (pth A i), o, none⟩ (.pointer (some ⟨wr.heap.size, 0, none⟩))) B [.int .u32 (A : Nat), .int .i64 (k : Nat)] ∧
    (∀ j, (a'.add (pth A (i + 1)) wr.heap.size).has (pth A (i + 1) :: N') j → j ≠ B) := by
  have hq := h.mem (Nat.le_of_lt hi)
  have es : pth A (i + 1) = pth A i ++ [x] := by rw [pth_succ, hx]
  have hb := bel_al (Below.refl wr.heap.size wr) (.cells #[.pointer none, .pointer none, .map none] t)
  have hch : ∀ y, pth A (i + 1) ++ [y] ∉ N' := fun y hy => by
    rcases (h.p _).1 hy with c | ⟨e, he, c⟩ | c
    · simp at c
    · exact hm ((h.p _).2 (Or.inr (Or.inl ⟨e, he, (List.prefix_append _ _).trans c⟩)))
    · have := c.2; rw [List.length_append, pth_len] at this; simp at this; omega
  have hne : pth A (i + 1) ≠ [] := fun e => by have := congrArg List.length e; rw [pth_len] at this; simp at this
  subst ho
  refine ⟨?_, (h.m.on hb).set hq _ _ |>.link hne (by have := h.m.k.size; omega), (h.b.on hb).far _ _ (fun e => h.bn.2 _ (Or.inl ⟨_, hq, rfl⟩) e), fun j hj => ?_⟩
  · have := (h.t.on hb).link (q := pth A i) hq x (by rw [← es]; exact hm) (by rw [← es]; exact hch) (b := wr.heap.size) (Blk.new wr t [.pointer none, .pointer none, .map none]) (bk_new h.t)
    rw [← es] at this
    exact this
  · rcases hj with ⟨q, hq', e⟩ | ⟨q, hq', e⟩
    · by_cases c : q = pth A (i + 1)
      · rw [show (a'.add (pth A (i + 1)) wr.heap.size).bk q = wr.heap.size from if_pos c] at e; omega
      · rw [show (a'.add (pth A (i + 1)) wr.heap.size).bk q = a'.bk q from if_neg c] at e
        exact h.bn.2 j (Or.inl ⟨q, (List.mem_cons.1 hq').resolve_left c, e⟩)
    · by_cases c : q = pth A (i + 1)
      · rw [show (a'.add (pth A (i + 1)) wr.heap.size).mp q = none from if_pos c] at e; cases e
      · rw [show (a'.add (pth A (i + 1)) wr.heap.size).mp q = a'.mp q from if_neg c] at e
        exact h.bn.2 j (Or.inr ⟨q, (List.mem_cons.1 hq').resolve_left c, e⟩)
set_option maxRecDepth 100000 in
set_option maxHeartbeats 1000000 in
theorem add_right (W : World) (pre : List Value) (a : TL) (N : List Pth) (E : List Ent) (A k : Nat) (v : Int) (hA : A < 4294967296) (hk : k ≤ 32) (hr : rightB A (k : Nat) = true) (hv : I64 v)
    (h : Tl W pre a N E (N.length - 1) E.length) (hp : Plain N E) (hE : E.length ≤ 100000) :
    Calls Try.prog 11 #[.pointer (some ⟨a.bk [], pre.length, none⟩), pv (A : Nat) (k : Nat), .int .i64 v] W fun e w' => e = .returned (.int .i64 (if (pth A k, v) ∈ E then 4 else 0)) ∧
      ∃ a' N', Tl w' pre a' N' (addE E (pth A k, v)) (N'.length - 1) (addE E (pth A k, v)).length ∧ Plain N' (addE E (pth A k, v)) ∧ Mov W a N w' a' N' := by
  have hC := Lib.hid (check_any A (k : Nat) hA ⟨a.bk [], pre.length, none⟩)
  rw [hr] at hC
  have H := Lib.hid h
  have HP := Lib.hid hp
  have hBit := fun i (hi : i < 32) w => (bit_any A hA i hi w).mono (fun e w' (h : e = _ ∧ w = w') => (⟨h.1, h.2.symm⟩ : e = _ ∧ w' = w))
  clear h hp hr
  go_enter Try.func11, Try.ntmps11
  go_upto_region 1 with fail
  refine at_code (S := fun w1 => Blk w1 W.heap.size [.int .u32 (A : Nat), .int .i64 (k : Nat)] ∧ Below W.heap.size W w1) ⟨Blk.new _ _ _, bel_al (Below.refl _ _) _⟩ (fun W1 hW => ?_)
  obtain ⟨hX, hb⟩ := hW
  have X1 := Lib.hid hX
  have B1 := Lib.hid hb
  have x_0 := hX.1 0 _ rfl
  have x_1 := hX.1 1 _ rfl
  clear hX hb
  go_wp2_with fail
  refine (hC.out W1).mono ?_
  rintro e w2 ⟨rfl, hb⟩
  have X2 := Lib.hid (X1.out.on hb)
  have B2 := Lib.hid (bel_on' B1.out hb)
  have y_0 := X2.out.1 0 _ rfl
  have y_1 := X2.out.1 1 _ rfl
  clear hb x_0 x_1 X1 B1 hC
  go_wp2_with fail
  have L0 : Hid (AddL W pre a N E A k W.heap.size w2 0 a N) := Lib.hid ⟨H.out.on B2.out, HP.out.part _, (Mov.refl _ _ _).on B2.out, X2.out, ⟨Nat.le_refl _, fun j hj => Nat.ne_of_lt (H.out.lt j hj)⟩, by omega⟩
  have hnf : N.length ≤ 1 + 33 * E.length := HP.out.few
  have hvd : Hid (∀ e ∈ E, e.1.length ≤ 32 ∧ I64 e.2) := Lib.hid HP.out.le
  have hen : Hid (E.Nodup) := Lib.hid HP.out.en
  clear X2 B2 y_0 y_1 H HP
  go_loopw [8, 24] (fun nv iv wr => ∃ (i : Nat) (a' : TL) (N' : List Pth), nv = .pointer (some ⟨a'.bk (pth A i), off pre (pth A i), none⟩) ∧ iv = .int .i64 (i : Nat) ∧ i ≤ k ∧ Hid (AddL W pre a N E A k W.heap.size wr i a' N')) (fun _ iv _ => k - (intOf iv).toNat)
  case atStart => exact ⟨0, a, N, rfl, rfl, Nat.zero_le _, L0⟩
  case round =>
    obtain ⟨i, a', N', rfl, rfl, hi, L⟩ := hrel
    clear L0
    have y_0 := L.out.b.1 0 _ rfl
    have y_1 := L.out.b.1 1 _ rfl
    by_cases hik : i < k
    · have hw1 : IntKind.i64.wrap ((i : Int) + 1) = ((i + 1 : Nat) : Int) := by rw [IntKind.wrap_i64]; omega
      have hq : pth A i ∈ N' := L.out.mem hi
      have hbit := hBit i (by omega)
      obtain ⟨⟨c0, c1, c2⟩, z0, z1, z2⟩ := tl_cells L.out.t hq
      have es : pth A i ++ [A.testBit (31 - i)] = pth A (i + 1) := (pth_succ A i).symm
      have hti : (pth A k).take (i + 1) = pth A (i + 1) := pth_take A k (i + 1) (by omega)
      have hlk : (pth A k).length = k := pth_len A k
      have hoff1 : off pre (pth A (i + 1)) = 0 := if_neg (fun e => by have := congrArg List.length e; rw [pth_len] at this; simp at this)
      generalize hx : A.testBit (31 - i) = x at hbit es
      generalize hoq : off pre (pth A i) = o at c0 c1 c2 z0 z1 z2
      generalize hbq : a'.bk (pth A i) = bq at c0 c1 c2 z0 z1 z2
      by_cases hin : pth A (i + 1) ∈ N'
      · have ew := wy_in (a := a') hin
        cases x
        · rw [es, ew] at c0
          simp only [bI, Bool.false_eq_true, if_false] at hbit
          go_wp2_with fail
          go_quiet ((go_at_call 43; exact Calls.quiet_of_same (hbit _)))
          go_wp2_with fail
          refine ⟨⟨i + 1, a', N', ?_, by first | rfl | rw [hw1], by omega, Lib.hid ((L.out.on (below_drewN (Below.refl _ _) _)).step hik hin)⟩, by simp [intOf] <;> omega⟩
          rw [hoff1]
        · rw [es, ew] at c1
          simp only [bI, if_true] at hbit
          go_wp2_with fail
          go_quiet ((go_at_call 43; exact Calls.quiet_of_same (hbit _)))
          go_wp2_with fail
          refine ⟨⟨i + 1, a', N', ?_, by first | rfl | rw [hw1], by omega, Lib.hid ((L.out.on (below_drewN (Below.refl _ _) _)).step hik hin)⟩, by simp [intOf] <;> omega⟩
          rw [hoff1]
      · have ew := wy_out (a := a') hin
        cases x
        · rw [es, ew] at c0
          simp only [bI, Bool.false_eq_true, if_false] at hbit
          go_wp2_with fail
          go_quiet ((go_at_call 43; exact Calls.quiet_of_same (hbit _)))
          go_upto_region 10 with fail
          obtain ⟨wq, hwq⟩ : ∃ x, x = wr.drewN nq := ⟨_, rfl⟩
          have L1 := Lib.hid (L.out.on (below_drewN (Below.refl _ _) nq))
          rw [← hwq] at L1 ⊢
          clear hwq c0 c1 c2 z0 z1 z2 L y_0 y_1
          obtain ⟨⟨c0, c1, c2⟩, z0, z1, z2⟩ := tl_cells L1.out.t hq
          rw [hoq, hbq] at c0 c1 c2 z0 z1 z2
          rw [es, ew] at c0
          have K1 := Lib.hid (L1.out.link hik hin 31 false hx L1.out.b.lt o (by rw [hoq]; rfl))
          rw [hbq] at K1
          have hlt : bq < wq.heap.size := by rw [← hbq]; exact L1.out.t.lt _ (Or.inl ⟨_, hq, rfl⟩)
          have hne := Nat.ne_of_lt hlt
          rw [World.setCell_alloc_past (w := wq) _ _ _ _ hlt] at K1
          go_upto_region 11 with fail
          refine at_code (S := fun w => Tl w pre (a'.add (pth A (i + 1)) wq.heap.size) (pth A (i + 1) :: N') E (N'.length - 1) E.length ∧ Mov W a N w (a'.add (pth A (i + 1)) wq.heap.size) (pth A (i + 1) :: N') ∧ Blk w W.heap.size [.int .u32 (A : Nat), .int .i64 (k : Nat)]) ⟨K1.out.1, K1.out.2.1, K1.out.2.2.1⟩ (fun w3 h3 => ?_)
          have T3 := Lib.hid h3.1
          have M3 := Lib.hid h3.2.1
          have X3 := Lib.hid h3.2.2
          have HB := Lib.hid K1.out.2.2.2
          have P3 := Lib.hid (L1.out.p.more (by rw [hlk]; exact hik))
          rw [hti] at P3
          have F3 := Lib.hid (show (pth A (i + 1) :: N').length ≤ N.length + (i + 1) by have := L1.out.few; rw [List.length_cons]; omega)
          have BN := Lib.hid L1.out.bn.1
          clear h3 K1 c0 c1 c2 z0 z1 z2
          have hnl : 0 < N'.length := List.length_pos_of_mem hq
          have hfew := L1.out.few
          obtain ⟨⟨n0, n1⟩, m0, m1⟩ := tl_cnt T3.out
          rw [M3.out.root] at n0 n1 m0 m1
          have hw2 : IntKind.i64.wrap (((N'.length - 1 : Nat) : Int) + 1) = ((N'.length : Nat) : Int) := by rw [IntKind.wrap_i64]; omega
          clear L1
          go_upto_region 12 with fail
          refine at_code (S := fun w => Tl w pre (a'.add (pth A (i + 1)) wq.heap.size) (pth A (i + 1) :: N') E N'.length E.length ∧ Mov W a N w (a'.add (pth A (i + 1)) wq.heap.size) (pth A (i + 1) :: N') ∧ Blk w W.heap.size [.int .u32 (A : Nat), .int .i64 (k : Nat)]) ⟨?_, ?_, ?_⟩ (fun w4 h4 => ?_)
          · have := T3.out.cnt3 N'.length
            rw [M3.out.root] at this
            first | exact this | (rw [← hw2] at this; exact this)
          · have := M3.out.set T3.out.c.nil (pre.length + 3) (.int .i64 (N'.length : Nat))
            rw [M3.out.root] at this
            first | exact this | (rw [← hw2] at this; exact this)
          · exact X3.out.far _ _ (fun e => HB.out _ (Or.inl ⟨[], T3.out.c.nil, rfl⟩) (by rw [M3.out.root]; exact e))
          have T4 := Lib.hid h4.1
          have M4 := Lib.hid h4.2.1
          have X4 := Lib.hid h4.2.2
          clear h4 T3 M3 X3 n0 n1 m0 m1
          obtain ⟨⟨c0, c1, c2⟩, z0, z1, z2⟩ := tl_cells T4.out (List.mem_cons_of_mem _ hq)
          have hbk : (a'.add (pth A (i + 1)) wq.heap.size).bk (pth A i) = bq := (if_neg (fun e => hin (by rw [← e]; exact hq))).trans hbq
          rw [hbk, hoq] at c0 c1 c2
          rw [es, wy_in (List.mem_cons_self ..)] at c0
          go_wp2_with fail
          refine ⟨⟨i + 1, a'.add (pth A (i + 1)) wq.heap.size, pth A (i + 1) :: N', ?_, by first | rfl | rw [hw1], by omega, Lib.hid ⟨T4.out, P3.out, M4.out, X4.out, ⟨BN.out, HB.out⟩, F3.out⟩⟩, by simp [intOf] <;> omega⟩
          rw [hoff1]
        · rw [es, ew] at c1
          simp only [bI, if_true] at hbit
          go_wp2_with fail
          go_quiet ((go_at_call 43; exact Calls.quiet_of_same (hbit _)))
          go_upto_region 10 with fail
          obtain ⟨wq, hwq⟩ : ∃ x, x = wr.drewN nq := ⟨_, rfl⟩
          have L1 := Lib.hid (L.out.on (below_drewN (Below.refl _ _) nq))
          rw [← hwq] at L1 ⊢
          clear hwq c0 c1 c2 z0 z1 z2 L y_0 y_1
          obtain ⟨⟨c0, c1, c2⟩, z0, z1, z2⟩ := tl_cells L1.out.t hq
          rw [hoq, hbq] at c0 c1 c2 z0 z1 z2
          rw [es, ew] at c1
          have K1 := Lib.hid (L1.out.link hik hin 31 true hx L1.out.b.lt (o + 1) (by rw [hoq]; rfl))
          rw [hbq] at K1
          have hlt : bq < wq.heap.size := by rw [← hbq]; exact L1.out.t.lt _ (Or.inl ⟨_, hq, rfl⟩)
          have hne := Nat.ne_of_lt hlt
          rw [World.setCell_alloc_past (w := wq) _ _ _ _ hlt] at K1
          go_upto_region 11 with fail
          refine at_code (S := fun w => Tl w pre (a'.add (pth A (i + 1)) wq.heap.size) (pth A (i + 1) :: N') E (N'.length - 1) E.length ∧ Mov W a N w (a'.add (pth A (i + 1)) wq.heap.size) (pth A (i + 1) :: N') ∧ Blk w W.heap.size [.int .u32 (A : Nat), .int .i64 (k : Nat)]) ⟨K1.out.1, K1.out.2.1, K1.out.2.2.1⟩ (fun w3 h3 => ?_)
          have T3 := Lib.hid h3.1
          have M3 := Lib.hid h3.2.1
          have X3 := Lib.hid h3.2.2
          have HB := Lib.hid K1.out.2.2.2
          have P3 := Lib.hid (L1.out.p.more (by rw [hlk]; exact hik))
          rw [hti] at P3
          have F3 := Lib.hid (show (pth A (i + 1) :: N').length ≤ N.length + (i + 1) by have := L1.out.few; rw [List.length_cons]; omega)
          have BN := Lib.hid L1.out.bn.1
          clear h3 K1 c0 c1 c2 z0 z1 z2
          have hnl : 0 < N'.length := List.length_pos_of_mem hq
          have hfew := L1.out.few
          obtain ⟨⟨n0, n1⟩, m0, m1⟩ := tl_cnt T3.out
          rw [M3.out.root] at n0 n1 m0 m1
          have hw2 : IntKind.i64.wrap (((N'.length - 1 : Nat) : Int) + 1) = ((N'.length : Nat) : Int) := by rw [IntKind.wrap_i64]; omega
          clear L1
          go_upto_region 12 with fail
          refine at_code (S := fun w => Tl w pre (a'.add (pth A (i + 1)) wq.heap.size) (pth A (i + 1) :: N') E N'.length E.length ∧ Mov W a N w (a'.add (pth A (i + 1)) wq.heap.size) (pth A (i + 1) :: N') ∧ Blk w W.heap.size [.int .u32 (A : Nat), .int .i64 (k : Nat)]) ⟨?_, ?_, ?_⟩ (fun w4 h4 => ?_)
          · have := T3.out.cnt3 N'.length
            rw [M3.out.root] at this
            first | exact this | (rw [← hw2] at this; exact this)
          · have := M3.out.set T3.out.c.nil (pre.length + 3) (.int .i64 (N'.length : Nat))
            rw [M3.out.root] at this
            first | exact this | (rw [← hw2] at this; exact this)
          · exact X3.out.far _ _ (fun e => HB.out _ (Or.inl ⟨[], T3.out.c.nil, rfl⟩) (by rw [M3.out.root]; exact e))
          have T4 := Lib.hid h4.1
          have M4 := Lib.hid h4.2.1
          have X4 := Lib.hid h4.2.2
          clear h4 T3 M3 X3 n0 n1 m0 m1
          obtain ⟨⟨c0, c1, c2⟩, z0, z1, z2⟩ := tl_cells T4.out (List.mem_cons_of_mem _ hq)
          have hbk : (a'.add (pth A (i + 1)) wq.heap.size).bk (pth A i) = bq := (if_neg (fun e => hin (by rw [← e]; exact hq))).trans hbq
          rw [hbk, hoq] at c0 c1 c2
          rw [es, wy_in (List.mem_cons_self ..)] at c1
          go_wp2_with fail
          refine ⟨⟨i + 1, a'.add (pth A (i + 1)) wq.heap.size, pth A (i + 1) :: N', ?_, by first | rfl | rw [hw1], by omega, Lib.hid ⟨T4.out, P3.out, M4.out, X4.out, ⟨BN.out, HB.out⟩, F3.out⟩⟩, by simp [intOf] <;> omega⟩
          rw [hoff1]
    · obtain rfl : i = k := by omega
      have hq : pth A i ∈ N' := L.out.mem (Nat.le_refl _)
      obtain ⟨⟨c0, c1, c2⟩, z0, z1, z2⟩ := tl_cells L.out.t hq
      have hmo := L.out.t.m.maps _ hq
      generalize hoq : off pre (pth A i) = o at c0 c1 c2 z0 z1 z2
      generalize hbq : a'.bk (pth A i) = bq at c0 c1 c2 z0 z1 z2
      generalize hmq : a'.mp (pth A i) = mq at c2 hmo
      have hlk := mo_look hmo (nodup_vals hen.out _) v hv
      have hlt : bq < wr.heap.size := by rw [← hbq]; exact L.out.t.lt _ (Or.inl ⟨_, hq, rfl⟩)
      have hne := Nat.ne_of_lt hlt
      have HP := Part.add (v := v) (q := pth A i) (by rw [pth_len]; exact L.out.p) L.out.t.nn hen.out hvd.out (by rw [pth_len]; exact hk) hv
      by_cases hin : (pth A i, v) ∈ E
      · rw [decide_eq_true (mem_vals.2 hin)] at hlk
        go_wp2
        go_ret
        have ea : addE E (pth A i, v) = E := if_pos hin
        rw [ea] at HP ⊢
        exact ⟨rfl, a', N', L.out.t.on (bel_al (Below.refl _ _) _), HP, L.out.m.on (bel_al (Below.refl _ _) _)⟩
      · rw [decide_eq_false (fun e => hin (mem_vals.1 e))] at hlk
        have ea : addE E (pth A i, v) = (pth A i, v) :: E := if_neg hin
        have hw7 : IntKind.i64.wrap ((E.length : Int) + 1) = ((E.length + 1 : Nat) : Int) := by rw [IntKind.wrap_i64]; omega
        go_upto_region 17 with fail
        refine at_code (S := fun w => AddL W pre a N E A i W.heap.size w i a' N') (L.out.on (bel_al (Below.refl _ _) _)) (fun w5 h5 => ?_)
        have L5 := Lib.hid h5
        clear h5 c0 c1 c2 z0 z1 z2 hmo hlk hlt hne L y_0 y_1
        obtain ⟨⟨c0, c1, c2⟩, z0, z1, z2⟩ := tl_cells L5.out.t hq
        have hmo := L5.out.t.m.maps _ hq
        rw [hoq, hbq, hmq] at c2
        rw [hoq, hbq] at z2
        rw [hmq] at hmo
        clear c0 c1 z0 z1
        have hlt : bq < w5.heap.size := by rw [← hbq]; exact L5.out.t.lt _ (Or.inl ⟨_, hq, rfl⟩)
        have hne := Nat.ne_of_lt hlt
        cases mq with
        | some mb =>
          have hnm : ∀ w, (binOp .eql 29 (.map (some mb)) (.map none)).run Try.prog w = .ok (.bool false) w := map_nil (some mb)
          have hput := mo_put (w := w5) (b := mb) (l := vals E (pth A i)) hmo (Nat.le_trans (vals_le _ _) (by omega)) v hv (fun e => hin (mem_vals.1 e))
          obtain ⟨w6, hup, hmo6, ho⟩ := hput
          have T6 := Lib.hid (Lie.put (E' := (pth A i, v) :: E) L5.out.t hq hmq (by rw [vals_add']; exact hmo6) ho (fun s _ hs => vals_add hs) (List.nodup_cons.2 ⟨hin, hen.out⟩) (fun e he => by
            rcases List.mem_cons.1 he with rfl | he
            · exact hq
            · exact (L5.out.t).ed e he))
          have M6 := Lib.hid ((L5.out.m).only hq hmq ho)
          obtain ⟨⟨n0, n1⟩, m0, m1⟩ := tl_cnt T6.out
          rw [M6.out.root] at n0 n1 m0 m1
          clear hmo6 ho
          go_wp2
          go_ret
          have T7 := T6.out.cnt4 (E.length + 1)
          have M7 := M6.out.set T6.out.c.nil (pre.length + 4) (.int .i64 ((E.length + 1 : Nat) : Int))
          rw [M6.out.root] at T7 M7
          refine ⟨rfl, a', N', T7, by rw [ea] at HP; exact HP, M7⟩
        | none =>
          have hnm : ∀ w, (binOp .eql 29 (.map none) (.map none)).run Try.prog w = .ok (.bool true) w := map_nil none
          have hmm := @run_makeMap Try.prog
          have hv0 : vals E (pth A i) = [] := hmo
          have hb5 := bel_al (Below.refl w5.heap.size w5) (.map #[] 0)
          have T5 := Lib.hid ((L5.out.t.on hb5).own hq hv0 (MapV.made w5) (bk_new L5.out.t))
          have M5 := Lib.hid (((L5.out.m.on hb5).set hq (off pre (pth A i) + 2) (.map (some w5.heap.size))).own (pth A i) (b := w5.heap.size) (by have := L5.out.m.k.size; omega))
          rw [hoq, hbq, World.setCell_alloc_past (w := w5) _ _ _ _ hlt] at T5 M5
          go_upto_region 19 with fail
          refine at_code (S := fun w => Tl w pre (a'.own (pth A i) w5.heap.size) N' E (N'.length - 1) E.length ∧ Mov W a N w (a'.own (pth A i) w5.heap.size) N') ⟨T5.out, M5.out⟩ (fun w8 h8 => ?_)
          have T8 := Lib.hid h8.1
          have M8 := Lib.hid h8.2
          clear h8 T5 M5 c2 z2 hmo hlt hne hmm
          have hm8 : (a'.own (pth A i) w5.heap.size).mp (pth A i) = some w5.heap.size := if_pos rfl
          have hmo8 := T8.out.m.maps _ hq
          rw [hm8] at hmo8
          obtain ⟨⟨c0, c1, c2⟩, z0, z1, z2⟩ := tl_cells T8.out hq
          rw [hoq, show (a'.own (pth A i) w5.heap.size).bk (pth A i) = bq from hbq, hm8] at c2
          clear c0 c1 z0 z1 z2
          have hput := mo_put (w := w8) (b := w5.heap.size) (l := vals E (pth A i)) hmo8 (Nat.le_trans (vals_le _ _) (by omega)) v hv (fun e => hin (mem_vals.1 e))
          obtain ⟨w6, hup, hmo6, ho⟩ := hput
          have T6 := Lib.hid (Lie.put (E' := (pth A i, v) :: E) T8.out hq hm8 (by rw [vals_add']; exact hmo6) ho (fun s _ hs => vals_add hs) (List.nodup_cons.2 ⟨hin, hen.out⟩) (fun e he => by
            rcases List.mem_cons.1 he with rfl | he
            · exact hq
            · exact (T8.out).ed e he))
          have M6 := Lib.hid ((M8.out).only hq hm8 ho)
          obtain ⟨⟨n0, n1⟩, m0, m1⟩ := tl_cnt T6.out
          rw [M6.out.root] at n0 n1 m0 m1
          clear hmo6 ho
          go_wp2
          go_ret
          have T7 := T6.out.cnt4 (E.length + 1)
          have M7 := M6.out.set T6.out.c.nil (pre.length + 4) (.int .i64 ((E.length + 1 : Nat) : Int))
          rw [M6.out.root] at T7 M7
          refine ⟨rfl, (a'.own (pth A i) w5.heap.size), N', T7, by rw [ea] at HP; exact HP, M7⟩
set_option maxRecDepth 100000 in
theorem add_wrong (W : World) (p : Addr) (A : Nat) (n v : Int) (hA : A < 4294967296) (hr : rightB A n = false) :
    Calls Try.prog 11 #[.pointer (some p), pv (A : Nat) n, .int .i64 v] W fun e w' => e = .returned (.int .i64 13) ∧ Below W.heap.size W w' := by
  have hC := Lib.hid (check_any A n hA p)
  rw [hr] at hC
  go_enter Try.func11, Try.ntmps11
  go_wp2_with fail
  refine (hC.out _).mono ?_
  rintro e w2 ⟨rfl, hb⟩
  have B2 := Lib.hid (bel_on' (bel_al (Below.refl W.heap.size W) _) hb)
  clear hb hC
  go_wp2
  go_ret
  exact ⟨rfl, B2.out⟩
set_option maxRecDepth 100000 in
theorem add_nil (W : World) (A n v : Int) : Calls Try.prog 11 #[.pointer none, pv A n, .int .i64 v] W fun e w' => e = .returned (.int .i64 2) ∧ Below W.heap.size W w' := by
  have hC := Lib.hid (check_nil A n)
  go_enter Try.func11, Try.ntmps11
  go_wp2_with fail
  refine (hC.out _).mono ?_
  rintro e w2 ⟨rfl, hb⟩
  have B2 := Lib.hid (bel_on' (bel_al (Below.refl W.heap.size W) _) hb)
  clear hb hC
  go_wp2
  go_ret
  exact ⟨rfl, B2.out⟩
/-- A tree of these entries at a place, beside some blocks. -/
def Tri (Z : Nat → Prop) (p : Nat) (pre : List Value) (W : World) (E : List Ent) : Prop := ∃ a N, a.bk [] = p ∧ Tl W pre a N E (N.length - 1) E.length ∧ Plain N E ∧ (∀ k, a.has N k → ¬ Z k) ∧ ∀ k, Z k → k < W.heap.size
theorem Tri.on {Z : Nat → Prop} {p : Nat} {pre : List Value} {W W' : World} {E : List Ent} (h : Tri Z p pre W E) (hb : Below W.heap.size W W') : Tri Z p pre W' E := by
  obtain ⟨a, N, h1, h2, h3, h4, h5⟩ := h
  exact ⟨a, N, h1, h2.on hb, h3, h4, fun k hk => by have := h5 k hk; have := hb.size; omega⟩
theorem Tri.less {Z Z' : Nat → Prop} {p : Nat} {pre : List Value} {W : World} {E : List Ent} (h : Tri Z p pre W E) (hz : ∀ k, Z' k → Z k) : Tri Z' p pre W E := by
  obtain ⟨a, N, h1, h2, h3, h4, h5⟩ := h
  exact ⟨a, N, h1, h2, h3, fun k hk q => h4 k hk (hz k q), fun k hk => h5 k (hz k hk)⟩
/-- New blocks are none of its. -/
theorem Tri.grow {Z : Nat → Prop} {p : Nat} {pre : List Value} {W W' : World} {E : List Ent} (h : Tri Z p pre W E) (hb : Below W.heap.size W W') {Y : Nat → Prop} (hY : ∀ k, Y k → W.heap.size ≤ k ∧ k < W'.heap.size) : Tri (fun k => Z k ∨ Y k) p pre W' E := by
  obtain ⟨a, N, h1, h2, h3, h4, h5⟩ := h
  refine ⟨a, N, h1, h2.on hb, h3, fun k hk q => ?_, fun k hk => ?_⟩
  · rcases q with q | q
    · exact h4 k hk q
    · have := (hY k q).1; have := h2.lt k hk; omega
  · rcases hk with q | q
    · have := h5 k q; have := hb.size; omega
    · exact (hY k q).2
/-- What turns blocks of Z alone leaves it. -/
theorem Tri.keep {Z S : Nat → Prop} {p : Nat} {pre : List Value} {W W' : World} {E : List Ent} (h : Tri Z p pre W E) (k : Keep S W W') (hs : ∀ i, i < W.heap.size → S i → Z i) : Tri Z p pre W' E := by
  obtain ⟨a, N, h1, h2, h3, h4, h5⟩ := h
  exact ⟨a, N, h1, h2.keep k (fun i hi q => h4 i hi (hs i (h2.lt i hi) q)), h3, h4, fun j hj => by have := h5 j hj; have := k.size; omega⟩
theorem Tri.plain {Z : Nat → Prop} {p : Nat} {pre : List Value} {W : World} {E : List Ent} (h : Tri Z p pre W E) : ∃ N, Plain N E := by
  obtain ⟨a, N, -, -, h3, -⟩ := h; exact ⟨N, h3⟩
def addC (E : List Ent) (A : Nat) (n v : Int) : Int := if rightB A n then (if (pth A n.toNat, v) ∈ E then 4 else 0) else 13
def addF (E : List Ent) (A : Nat) (n v : Int) : List Ent := if rightB A n then addE E (pth A n.toNat, v) else E
theorem tAdd {Z : Nat → Prop} {p : Nat} {pre : List Value} {W : World} {E : List Ent} (h : Tri Z p pre W E) (A : Nat) (n v : Int) (hA : A < 4294967296) (hv : I64 v) (hE : E.length ≤ 100000) :
    Calls Try.prog 11 #[.pointer (some ⟨p, pre.length, none⟩), pv (A : Nat) n, .int .i64 v] W fun e w' => e = .returned (.int .i64 (addC E A n v)) ∧ Tri Z p pre w' (addF E A n v) ∧ Hold Z W w' := by
  unfold addC addF
  cases hr : rightB A n with
  | false =>
    refine (add_wrong W _ A n v hA hr).mono ?_
    rintro e w' ⟨rfl, hb⟩
    exact ⟨rfl, h.on hb, Hold.of hb⟩
  | true =>
    obtain ⟨h0, h1, h2⟩ := of_decide_eq_true hr
    obtain ⟨k, rfl⟩ := Int.eq_ofNat_of_zero_le h0
    obtain ⟨a, N, rfl, t1, t2, t3, t4⟩ := h
    refine (add_right W pre a N E A k v hA (by omega) hr hv t1 t2 hE).mono ?_
    rintro e w' ⟨rfl, a', N', k1, k2, k3⟩
    refine ⟨rfl, ⟨a', N', k3.root, k1, k2, fun j hj q => t3 j (k3.old j (t4 j q) hj) q, fun j hj => by have := t4 j hj; have := k3.k.size; omega⟩, k3.k.mono (fun i _ q r => t3 i q r)⟩
end Go.Proofs.Ytgcbngephokegaa
