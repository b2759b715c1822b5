/- slices.SortFunc of rules. -/
import Derived.Test.YtgcbngephokegaaT13
import Derived.Test.YtgcbngephokegaaIter2
import Derived.Shelf.SlSortCmp.WholeK
namespace Go.Proofs.Ytgcbngephokegaa
open Go.RowKit Go.Shelf Go.Sort Go.Lib
open Go.RowKit (Below)
set_option linter.unusedVariables false
set_option linter.unusedSimpArgs false

instance : Inhabited Ru := ⟨ru0⟩
/-- What is new lies behind; answers may have been drawn. -/
structure Grw (W w : World) : Prop where
  b : RowKit.Below W.heap.size W w
  d : W.drawn ≤ w.drawn
section
variable {W w w' : World}
theorem Grw.refl (W : World) : Grw W W := ⟨Below.refl _ _, Nat.le_refl _⟩
theorem Grw.drew (h : Grw W w) : Grw W w.drew := ⟨h.b.drew, Nat.le_succ_of_le h.d⟩
theorem Grw.al (h : Grw W w) (o : Obj) : Grw W (w.alloc o) := ⟨cbelow_al h.b o, h.d⟩
theorem Grw.set (h : Grw W w) {a : Addr} (ha : W.heap.size ≤ a.block) (v : Value) : Grw W (w.setCell a v) := ⟨h.b.setCell ha v, h.d⟩
theorem Grw.on (h : Grw W w) (k : Grw w w') : Grw W w' := ⟨cbelow_on h.b k.b, Nat.le_trans h.d k.d⟩
theorem Grw.keep (h : Grw W w) : Grw W w ∧ ∀ b o, (W.cell? ⟨b, o, none⟩).isSome = true → w.cell? ⟨b, o, none⟩ = W.cell? ⟨b, o, none⟩ := ⟨h, (ckeep h.b).2⟩
theorem Grw.eq (h : Grw W w) : ∃ q os, w = grow (W.drewN q) os := by
  refine ⟨w.drawn - W.drawn, w.heap.extract W.heap.size w.heap.size, ?_⟩
  have h1 : w.heap = W.heap ++ w.heap.extract W.heap.size w.heap.size := by
    refine Array.ext_getElem? (fun k => ?_)
    rcases Nat.lt_or_ge k W.heap.size with c | c
    · rw [h.b.block k c, Array.getElem?_append_left c]
    · rw [Array.getElem?_append_right c, Array.getElem?_extract]
      split
      · congr 1; omega
      · next hc => exact Array.getElem?_eq_none (by have := h.b.size; omega)
  have h2 := h.b.os
  have h3 := h.b.tape
  have h4 := h.b.output
  have h5 := h.d
  unfold grow World.drewN
  cases w
  cases W
  simp only [World.mk.injEq] at *
  refine ⟨?_, ?_, ?_, ?_, ?_⟩ <;> first | assumption | omega
end
set_option maxRecDepth 100000 in
set_option maxHeartbeats 1000000 in
theorem compare_grw (x y : Ru) (W : World) : Calls Try.prog 40 #[rv x, rv y] W fun e w' => e = .returned (.int .i64 (compR x y)) ∧ Grw W w' := by
  have H1 := Lib.hid (fun w => ccmp_any y.prio x.prio w)
  have H2 := Lib.hid (fun w => ccmp_any y.n x.n w)
  have H3 := Lib.hid (fun w => ccmp_any x.id y.id w)
  have H4 := Lib.hid (fun b cap w hb => cor_any (cmpI y.prio x.prio) (cmpI y.n x.n) (cmpI x.id y.id) b cap w hb)
  unfold compR
  generalize cmpI y.prio x.prio = k1 at H1 H4 ⊢
  generalize cmpI y.n x.n = k2 at H2 H4 ⊢
  generalize cmpI x.id y.id = k3 at H3 H4 ⊢
  go_enter Try.func40, Try.ntmps40
  go_upto_region 1 with fail
  refine at_code (S := fun w => Blk w W.heap.size x.cells ∧ Blk w (W.heap.size + 1) y.cells ∧ Grw W w) ⟨?_, ?_, ?_⟩ (fun W0 h0 => ?_)
  · exact (Blk.new W _ x.cells).on (bel_al (Below.refl _ _) _)
  · have := Blk.new (W.alloc (.cells x.cells.toArray 57)) 57 y.cells
    rw [World.size_alloc] at this
    exact this
  · exact ((Grw.refl W).al _).al _
  have x_0 := h0.1.1 0 _ rfl
  have x_3 := h0.1.1 3 _ rfl
  have x_4 := h0.1.1 4 _ rfl
  have y_0 := h0.2.1.1 0 _ rfl
  have y_3 := h0.2.1.1 3 _ rfl
  have y_4 := h0.2.1.1 4 _ rfl
  have B0 := Lib.hid h0.2.2
  clear h0
  go_region_held3 (fun w' => Grw W0 w' ∧ ∀ b o, (W0.cell? ⟨b, o, none⟩).isSome = true → w'.cell? ⟨b, o, none⟩ = W0.cell? ⟨b, o, none⟩)
    ((refine Grw.keep ?_; repeat (first | exact Grw.refl _ | assumption | refine Grw.drew ?_ | refine Grw.al ?_ _ | (refine Grw.set ?_ (by simp; omega) _))))
    (first | (go_at_call 63; (with_reducible refine (H1.out _).mono ?_); rintro e w' ⟨rfl, rfl⟩) | (go_at_call 63; (with_reducible refine (H2.out _).mono ?_); rintro e w' ⟨rfl, rfl⟩) | (go_at_call 63; (with_reducible refine (H3.out _).mono ?_); rintro e w' ⟨rfl, rfl⟩) | (go_at_call 62; (with_reducible refine (H4.out _ _ _ (Blk.drew (Blk.new _ _ _))).mono ?_); rintro e w' ⟨rfl, rfl⟩))
  all_goals (rename_i hH; have HB := Lib.hid hH.1; clear hH; go_wp2_with fail; go_ret; exact ⟨rfl, B0.out.on HB.out⟩)
theorem compR_swo : SWO (ltOf compR) where
  irrefl x := by unfold ltOf; simp [compR_self]
  trans x y z h1 h2 := by
    unfold ltOf at *
    have h1 := of_decide_eq_true h1
    have h2 := of_decide_eq_true h2
    exact decide_eq_true (compR_trans x y z h1 h2)
  ntrans x y z h1 h2 := by
    unfold ltOf at *
    have h1 := of_decide_eq_false h1
    have h2 := of_decide_eq_false h2
    refine decide_eq_false ?_
    rw [compR_lex] at *
    omega
theorem comp_lays (blk off size : Nat) (w : World) : CmpLays Try.prog 40 #[] Ru.cells 6 compR blk off size w := fun m os dk hs x y => by
  refine (compare_grw x y _).mono ?_
  rintro e w' ⟨rfl, hg⟩
  obtain ⟨q, os', e⟩ := hg.eq
  exact ⟨rfl, q, os', e⟩
theorem flat_rows (L : List Ru) : flatK Ru.cells 6 L.toArray = (L.flatMap Ru.cells).toArray := by
  have hl : (L.flatMap Ru.cells).length = L.length * 6 := by
    induction L with
    | nil => rfl
    | cons x L ih => rw [List.flatMap_cons, List.length_append, ih, List.length_cons]; show 6 + _ = _; omega
  refine Array.ext (by simp [hl]) (fun t h1 h2 => ?_)
  have ht : t < L.length * 6 := by simpa using h1
  have hq : t / 6 < L.length := by omega
  have hg := flat_get Ru.cells 6 L (fun _ _ => rfl) (t / 6) (t % 6) L[t / 6] (List.getElem?_eq_getElem hq) (Nat.mod_lt _ (by omega))
  rw [Nat.div_add_mod] at hg
  have h3 := get_flatK Ru.cells 6 L.toArray t (by simpa using ht)
  rw [getElem!_pos _ t (by simpa using h1)] at h3
  rw [h3]
  rw [getElem!_pos L.toArray (t / 6) (by simpa using hq)]
  have h4 : (L.flatMap Ru.cells)[t]? = some (L.flatMap Ru.cells)[t] := List.getElem?_eq_getElem (by simpa using h2)
  rw [h4] at hg
  simp only [List.getElem_toArray]
  rw [getElem!_pos _ (t % 6) (by show t % 6 < 6; omega)]
  rw [List.getElem?_eq_getElem (by show t % 6 < 6; omega)] at hg
  exact (Option.some.inj hg).symm
end Go.Proofs.Ytgcbngephokegaa
