/- find, Len, Size. -/
import Derived.Test.YtgcbngephokegaaK7
import Derived.Laws.OwnMore
namespace Go.Proofs.Ytgcbngephokegaa
open Go.RowKit Go.Maps Go.MapKept Go.ChangeMaps Go.WideElems Go.Joins
set_option linter.unusedVariables false
set_option linter.unusedSimpArgs false

/-- A row of the call's own; without cells it is nil. -/
def Row (w : World) (base : Nat) (te : TypeId) (size : Nat) (v : Value) (n : Nat) (xs : List Value) : Prop := w.ownsRow base te size v n xs ∧ (v = .slice none 0 0 ↔ n = 0)
theorem row_nil (w : World) (base : Nat) (te : TypeId) (size : Nat) : Row w base te size (.slice none 0 0) 0 [] := ⟨⟨by simp, Or.inl ⟨rfl, rfl⟩⟩, by simp⟩
theorem Row.keep {S : Nat → Prop} {w w' : World} {base : Nat} {te : TypeId} {size : Nat} {v : Value} {n : Nat} {xs : List Value} (h : Row w base te size v n xs) (k : Keep S w w') (hs : ∀ i, base ≤ i → ¬ S i) : Row w' base te size v n xs := by
  refine ⟨⟨h.1.1, ?_⟩, h.2⟩
  rcases h.1.2 with q | ⟨g, cap, cur, e, q1, q2, q3⟩
  · exact Or.inl q
  · refine Or.inr ⟨g, cap, cur, e, q1, ?_, q3⟩
    have hg : g < w.heap.size := by
      rcases Nat.lt_or_ge g w.heap.size with c | c
      · exact c
      · rw [Array.getElem?_eq_none c] at q2; cases q2
    exact (k.block g hg (hs g q1)).trans q2
theorem Row.on {w w' : World} {base : Nat} {te : TypeId} {size : Nat} {v : Value} {n : Nat} {xs : List Value} (h : Row w base te size v n xs) (hb : Below w.heap.size w w') : Row w' base te size v n xs :=
  h.keep (S := fun _ => False) (Keep.of hb) (fun _ _ q => q)
theorem Row.base {w : World} {base base' : Nat} {te : TypeId} {size : Nat} {v : Value} {n : Nat} {xs : List Value} (h : Row w base te size v n xs) (hb : base' ≤ base) : Row w base' te size v n xs := by
  refine ⟨⟨h.1.1, ?_⟩, h.2⟩
  rcases h.1.2 with q | ⟨g, cap, cur, e, q1, q2, q3⟩
  · exact Or.inl q
  · exact Or.inr ⟨g, cap, cur, e, by omega, q2, q3⟩
/-- Where its cells stand. -/
theorem Row.at {w : World} {base : Nat} {te : TypeId} {size : Nat} {v : Value} {n : Nat} {xs : List Value} (h : Row w base te size v n xs) (hn : 0 < n) : ∃ g cap, v = .slice (some ⟨g, 0, none⟩) n cap ∧ base ≤ g ∧ g < w.heap.size ∧ ∀ j x, xs[j]? = some x → w.cell? ⟨g, j, none⟩ = some x := by
  obtain ⟨h1, h2⟩ := h
  rcases h1.2 with ⟨e, q⟩ | ⟨g, cap, cur, rfl, q1, q2, q3⟩
  · omega
  · refine ⟨g, cap, rfl, q1, ?_, fun j x hx => ?_⟩
    · rcases Nat.lt_or_ge g w.heap.size with c | c
      · exact c
      · rw [Array.getElem?_eq_none c] at q2; cases q2
    · have hj : j < n * size := by
        rw [← h1.1]
        rcases Nat.lt_or_ge j xs.length with q | q
        · exact q
        · rw [List.getElem?_eq_none q] at hx; cases hx
      rw [World.ownsRow.cellAt h1 j hj]; exact hx
theorem Row.slice {w : World} {base : Nat} {te : TypeId} {size : Nat} {v : Value} {n : Nat} {xs : List Value} (h : Row w base te size v n xs) : ∃ ad cap, v = .slice ad n cap := by
  rcases h.1.2 with ⟨e, q⟩ | ⟨g, cap, cur, e, -⟩
  · exact ⟨none, 0, by rw [e, q]⟩
  · exact ⟨_, cap, e⟩
/-- A node's address. -/
def ptr (a : TL) (pre : List Value) (q : Pth) : Value := .pointer (some ⟨a.bk q, off pre q, none⟩)
def ptrs (a : TL) (pre : List Value) (A i : Nat) : List Value := (List.range i).map fun j => ptr a pre (pth A j)
theorem ptrs_succ (a : TL) (pre : List Value) (A i : Nat) : ptrs a pre A (i + 1) = ptrs a pre A i ++ [ptr a pre (pth A i)] := by simp [ptrs, List.range_succ]
theorem infoPN : (Try.prog.info? 27).map (fun i => (i.zero, i.size, i.bytes)) = some (some (.pointer none), 1, 8) := by kernel_rfl
theorem len_any (W : World) (pre : List Value) (a : TL) (N : List Pth) (E : List Ent) (nb ne : Nat) (h : Tl W pre a N E nb ne) : Calls Try.prog 13 #[.pointer (some ⟨a.bk [], pre.length, none⟩)] W fun e w' => e = .returned (.int .i64 (ne : Nat)) ∧ W = w' := by
  obtain ⟨⟨n0, n1⟩, -⟩ := tl_cnt h
  go_enter Try.func13, Try.ntmps13
  go_wp2
  go_ret
  exact ⟨rfl, rfl⟩
theorem len_nil (W : World) : Calls Try.prog 13 #[.pointer none] W fun e w' => e = .returned (.int .i64 0) ∧ W = w' := by
  go_enter Try.func13, Try.ntmps13
  go_wp2
  go_ret
  exact ⟨rfl, rfl⟩
theorem size_any (W : World) (pre : List Value) (a : TL) (N : List Pth) (E : List Ent) (nb ne : Nat) (h : Tl W pre a N E nb ne) (hb : nb ≤ 100000000) : Calls Try.prog 14 #[.pointer (some ⟨a.bk [], pre.length, none⟩)] W fun e w' => e = .returned (.int .i64 ((nb + 1 : Nat) : Int)) ∧ W = w' := by
  obtain ⟨⟨n0, n1⟩, -⟩ := tl_cnt h
  have h1 : IntKind.i64.wrap (1 + (nb : Int)) = ((nb + 1 : Nat) : Int) := by rw [IntKind.wrap_i64]; omega
  go_enter Try.func14, Try.ntmps14
  go_wp2
  go_ret
  first | exact ⟨rfl, rfl⟩ | exact ⟨cret_int (by omega), rfl⟩
theorem size_nil (W : World) : Calls Try.prog 14 #[.pointer none] W fun e w' => e = .returned (.int .i64 0) ∧ W = w' := by
  go_enter Try.func14, Try.ntmps14
  go_wp2
  go_ret
  exact ⟨rfl, rfl⟩
set_option maxRecDepth 100000 in
set_option maxHeartbeats 1000000 in
theorem find_any (W : World) (pre : List Value) (a : TL) (N : List Pth) (E : List Ent) (nb ne A k : Nat) (hA : A < 4294967296) (hk : k ≤ 32) (h : Tl W pre a N E nb ne) :
    Calls Try.prog 42 #[.pointer (some ⟨a.bk [], pre.length, none⟩), pv (A : Nat) (k : Nat)] W fun e w' => ∃ (j : Nat) (v : Value) (own : Option Addr), e = .returned (.tuple #[v, .pointer own]) ∧ j ≤ k ∧ (∀ i, i < j → pth A i ∈ N) ∧
      ((own = some ⟨a.bk (pth A k), off pre (pth A k), none⟩ ∧ pth A k ∈ N ∧ j = k) ∨ (own = none ∧ 0 < j ∧ pth A j ∉ N)) ∧ Row w' W.heap.size 27 1 v j (ptrs a pre A j) ∧ Below W.heap.size W w' := by
  have hBit := fun i (hi : i < 32) w => (bit_any A hA i hi w).mono (fun e w' (h : e = _ ∧ w = w') => (⟨h.1, h.2.symm⟩ : e = _ ∧ w' = w))
  have T := Lib.hid h
  clear h
  go_enter Try.func42, Try.ntmps42
  go_upto_region 1 with fail
  refine at_code (S := fun w1 => Blk w1 W.heap.size [.int .u32 (A : Nat), .int .i64 (k : Nat)] ∧ Below W.heap.size W w1) ⟨Blk.new _ _ _, bel_al (Below.refl _ _) _⟩ (fun W1 hW => ?_)
  obtain ⟨hX, hb⟩ := hW
  have X1 := Lib.hid hX
  have B1 := Lib.hid hb
  have x_1 := hX.1 1 _ rfl
  clear hX hb
  go_wp2_with fail
  have R1 : Hid (Row W1 W1.heap.size 27 1 (.slice none 0 0) 0 (ptrs a pre A 0)) := Lib.hid (row_nil _ _ _ _)
  have HX : Hid (W.heap.size < W1.heap.size ∧ Blk W1 W.heap.size [.int .u32 (A : Nat), .int .i64 (k : Nat)]) := Lib.hid ⟨X1.out.lt, X1.out⟩
  have hnil : Hid ([] ∈ N) := Lib.hid T.out.c.nil
  clear X1 x_1
  go_loopw [4, 5, 12] (fun v nv iv wr => ∃ (i : Nat), nv = .pointer (some ⟨a.bk (pth A i), off pre (pth A i), none⟩) ∧ iv = .int .i64 (i : Nat) ∧ i ≤ k ∧ Hid (∀ j, j ≤ i → pth A j ∈ N) ∧ Hid (Row wr W1.heap.size 27 1 v i (ptrs a pre A i)) ∧ Hid (Below W1.heap.size W1 wr)) (fun _ _ iv _ => k - (intOf iv).toNat)
  case atStart => exact ⟨0, rfl, rfl, Nat.zero_le _, Lib.hid (fun j hj => by rw [Nat.le_zero.1 hj]; exact hnil.out), R1, Lib.hid (Below.refl _ _)⟩
  case round =>
    obtain ⟨i, rfl, rfl, hi, hN, R, Bw⟩ := hrel
    clear R1
    by_cases hik : i < k
    · have hw1 : IntKind.i64.wrap ((i : Int) + 1) = ((i + 1 : Nat) : Int) := by rw [IntKind.wrap_i64]; omega
      have hq : pth A i ∈ N := hN.out i (Nat.le_refl _)
      have hbit := hBit i (by omega)
      obtain ⟨i0, hi0, hz0, hz1, hz2⟩ := hinfo_parts infoPN
      have hown := R.out.1
      have hsz := Bw.out.size
      have hg := HX.out.1
      go_wp2_with (at_builtin; refine wpList_append_own _ rfl _ _ 85 rfl W1.heap.size 27 i0 (.pointer none) 1 8 Try.underlying85 hi0 hz0 hz1 hz2 rfl (by decide) _ _ _ rfl (hown.alloc _) ⟨wr.heap.size, 0, none⟩ 1 1 [ptr a pre (pth A i)] rfl rfl ?c1 ?c2 ?c3 ?c4 ?c5 ?_)
      case c1 =>
        intro j x hj
        match j, hj with
        | 0, hj => simp at hj; subst hj; simp [Addr.add, go_sem]; rfl
      case c2 => intro x hx; simp at hx; subst hx; rfl
      case c3 => unfold maxLen; omega
      case c4 => omega
      case c5 => simp; omega
      · intro v' w2 hown' hgrow hnl
        have R2 : Hid (Row w2 W1.heap.size 27 1 v' (i + 1) (ptrs a pre A (i + 1))) := Lib.hid ⟨by rw [ptrs_succ]; exact hown', ⟨fun e => absurd e hnl, fun e => by omega⟩⟩
        have B2 : Hid (Below W1.heap.size W1 w2) := Lib.hid ((Bw.out.alloc hsz _).grown hgrow (by simp; omega) (fun g e => (World.ownsRow.lt R.out.1 g e).1))
        have T2 := Lib.hid (T.out.on (bel_on B1.out B2.out (Nat.le_refl _)))
        have y_0 := (HX.out.2.on B2.out).1 0 _ rfl
        have y_1 := (HX.out.2.on B2.out).1 1 _ rfl
        obtain ⟨⟨c0, c1, c2⟩, z0, z1, z2⟩ := tl_cells T2.out hq
        have es : pth A i ++ [A.testBit (31 - i)] = pth A (i + 1) := (pth_succ A i).symm
        have hoff1 : off pre (pth A (i + 1)) = 0 := if_neg (fun e => by have := congrArg List.length e; rw [pth_len] at this; simp at this)
        generalize hx : A.testBit (31 - i) = x at hbit es
        generalize hoq : off pre (pth A i) = o at c0 c1 c2 z0 z1 z2
        generalize hbq : a.bk (pth A i) = bq at c0 c1 c2 z0 z1 z2
        clear hown' hgrow hown hnl R Bw T T2 z0 z1 z2 c2 hsz hi0 hz0 hz1 hz2
        cases x
        · simp only [bI, Bool.false_eq_true, if_false] at hbit
          by_cases hin : pth A (i + 1) ∈ N
          · rw [es, wy_in hin] at c0
            go_wp2_with fail
            go_quiet ((go_at_call 43; exact Calls.quiet_of_same (hbit _)))
            go_wp2_with fail
            refine ⟨⟨i + 1, ?_, by first | rfl | rw [hw1], by omega, ?_, Lib.hid (R2.out.on (below_drewN (Below.refl _ _) _)), Lib.hid (below_drewN B2.out _)⟩, by simp [intOf] <;> omega⟩
            · rw [hoff1]
            · refine Lib.hid (fun j hj => ?_)
              rcases Nat.lt_or_ge i j with q | q
              · rw [show j = i + 1 by omega]; exact hin
              · exact hN.out j q
          · rw [es, wy_out hin] at c0
            go_wp2_with fail
            go_quiet ((go_at_call 43; exact Calls.quiet_of_same (hbit _)))
            go_wp2
            refine bodyPost_ret (v := .tuple #[v', .pointer none]) (by simp [results, Try.results42]) rfl ?_
            exact ⟨i + 1, v', none, rfl, by omega, fun j hj => hN.out j (by omega), Or.inr ⟨rfl, by omega, hin⟩, (R2.out.on (below_drewN (Below.refl _ _) _)).base (Nat.le_of_lt hg), below_drewN (bel_on B1.out (B2.out.mono (Nat.le_refl _)) (Nat.le_refl _)) _⟩
        · simp only [bI, if_true] at hbit
          by_cases hin : pth A (i + 1) ∈ N
          · rw [es, wy_in hin] at c1
            go_wp2_with fail
            go_quiet ((go_at_call 43; exact Calls.quiet_of_same (hbit _)))
            go_wp2_with fail
            refine ⟨⟨i + 1, ?_, by first | rfl | rw [hw1], by omega, ?_, Lib.hid (R2.out.on (below_drewN (Below.refl _ _) _)), Lib.hid (below_drewN B2.out _)⟩, by simp [intOf] <;> omega⟩
            · rw [hoff1]
            · refine Lib.hid (fun j hj => ?_)
              rcases Nat.lt_or_ge i j with q | q
              · rw [show j = i + 1 by omega]; exact hin
              · exact hN.out j q
          · rw [es, wy_out hin] at c1
            go_wp2_with fail
            go_quiet ((go_at_call 43; exact Calls.quiet_of_same (hbit _)))
            go_wp2
            refine bodyPost_ret (v := .tuple #[v', .pointer none]) (by simp [results, Try.results42]) rfl ?_
            exact ⟨i + 1, v', none, rfl, by omega, fun j hj => hN.out j (by omega), Or.inr ⟨rfl, by omega, hin⟩, (R2.out.on (below_drewN (Below.refl _ _) _)).base (Nat.le_of_lt hg), below_drewN (bel_on B1.out (B2.out.mono (Nat.le_refl _)) (Nat.le_refl _)) _⟩
    · obtain rfl : i = k := by omega
      have y_0 := (HX.out.2.on Bw.out).1 0 _ rfl
      go_wp2
      refine bodyPost_ret (v := .tuple #[u4, .pointer (some ⟨a.bk (pth A i), off pre (pth A i), none⟩)]) (by simp [results, Try.results42]) rfl ?_
      exact ⟨i, _, _, rfl, Nat.le_refl _, fun j hj => hN.out j (by omega), Or.inl ⟨rfl, hN.out i (Nat.le_refl _), rfl⟩, R.out.base (Nat.le_of_lt HX.out.1), bel_on B1.out (Bw.out.mono (Nat.le_refl _)) (Nat.le_refl _)⟩
end Go.Proofs.Ytgcbngephokegaa
