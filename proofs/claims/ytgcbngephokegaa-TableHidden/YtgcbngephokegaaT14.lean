/- slices.SortFunc of rules. slices.SortFunc of rules: what lies in the row behind it. -/
import Derived.Test.YtgcbngephokegaaT11
import Derived.Test.YtgcbngephokegaaIter2
import Derived.Shelf.SlSortCmp.WholeK
namespace Go.Proofs.Ytgcbngephokegaa
open Go.RowKit Go.Shelf Go.Sort Go.Lib
open Go.RowKit (Below)
set_option linter.unusedVariables false
set_option linter.unusedSimpArgs false

instance : Inhabited Ru := ⟨ru0⟩
/-- What is new lies behind; answers may have been drawn. -/
structure Grw (W w : World) : Prop where
  b : RowKit.Below W.heap.size W w
  d : W.drawn ≤ w.drawn
section
variable {W w w' : World}
theorem Grw.refl (W : World) : Grw W W := ⟨Below.refl _ _, Nat.le_refl _⟩
theorem Grw.drew (h : Grw W w) : Grw W w.drew := ⟨h.b.drew, Nat.le_succ_of_le h.d⟩
theorem Grw.al (h : Grw W w) (o : Obj) : Grw W (w.alloc o) := ⟨cbelow_al h.b o, h.d⟩
theorem Grw.set (h : Grw W w) {a : Addr} (ha : W.heap.size ≤ a.block) (v : Value) : Grw W (w.setCell a v) := ⟨h.b.setCell ha v, h.d⟩
theorem Grw.on (h : Grw W w) (k : Grw w w') : Grw W w' := ⟨cbelow_on h.b k.b, Nat.le_trans h.d k.d⟩
theorem Grw.keep (h : Grw W w) : Grw W w ∧ ∀ b o, (W.cell? ⟨b, o, none⟩).isSome = true → w.cell? ⟨b, o, none⟩ = W.cell? ⟨b, o, none⟩ := ⟨h, (ckeep h.b).2⟩
theorem Grw.eq (h : Grw W w) : ∃ q os, w = grow (W.drewN q) os := by
  refine ⟨w.drawn - W.drawn, w.heap.extract W.heap.size w.heap.size, ?_⟩
  have h1 : w.heap = W.heap ++ w.heap.extract W.heap.size w.heap.size := by
    refine Array.ext_getElem? (fun k => ?_)
    rcases Nat.lt_or_ge k W.heap.size with c | c
    · rw [h.b.block k c, Array.getElem?_append_left c]
    · rw [Array.getElem?_append_right c, Array.getElem?_extract]
      split
      · congr 1; omega
      · next hc => exact Array.getElem?_eq_none (by have := h.b.size; omega)
  have h2 := h.b.os
  have h3 := h.b.tape
  have h4 := h.b.output
  have h5 := h.d
  unfold grow World.drewN
  cases w
  cases W
  simp only [World.mk.injEq] at *
  refine ⟨?_, ?_, ?_, ?_, ?_⟩ <;> first | assumption | omega
end
set_option maxRecDepth 100000 in
set_option maxHeartbeats 1000000 in
theorem compare_grw (x y : Ru) (W : World) : Calls Try.prog 40 #[rv x, rv y] W fun e w' => e = .returned (.int .i64 (compR x y)) ∧ Grw W w' := by
  have H1 := Lib.hid (fun w => ccmp_any y.prio x.prio w)
  have H2 := Lib.hid (fun w => ccmp_any y.n x.n w)
  have H3 := Lib.hid (fun w => ccmp_any x.id y.id w)
  have H4 := Lib.hid (fun b cap w hb => cor_any (cmpI y.prio x.prio) (cmpI y.n x.n) (cmpI x.id y.id) b cap w hb)
  unfold compR
  generalize cmpI y.prio x.prio = k1 at H1 H4 ⊢
  generalize cmpI y.n x.n = k2 at H2 H4 ⊢
  generalize cmpI x.id y.id = k3 at H3 H4 ⊢
  go_enter Try.func40, Try.ntmps40
  go_upto_region 1 with fail
  refine at_code (S := fun w => Blk w W.heap.size x.cells ∧ Blk w (W.heap.size + 1) y.cells ∧ Grw W w) ⟨?_, ?_, ?_⟩ (fun W0 h0 => ?_)
  · exact (Blk.new W _ x.cells).on (bel_al (Below.refl _ _) _)
  · have := Blk.new (W.alloc (.cells x.cells.toArray 57)) 57 y.cells
    rw [World.size_alloc] at this
    exact this
  · exact ((Grw.refl W).al _).al _
  have x_0 := h0.1.1 0 _ rfl
  have x_3 := h0.1.1 3 _ rfl
  have x_4 := h0.1.1 4 _ rfl
  have y_0 := h0.2.1.1 0 _ rfl
  have y_3 := h0.2.1.1 3 _ rfl
  have y_4 := h0.2.1.1 4 _ rfl
  have B0 := Lib.hid h0.2.2
  clear h0
  go_region_held3 (fun w' => Grw W0 w' ∧ ∀ b o, (W0.cell? ⟨b, o, none⟩).isSome = true → w'.cell? ⟨b, o, none⟩ = W0.cell? ⟨b, o, none⟩)
    ((refine Grw.keep ?_; repeat (first | exact Grw.refl _ | assumption | refine Grw.drew ?_ | refine Grw.al ?_ _ | (refine Grw.set ?_ (by simp; omega) _))))
    (first | (go_at_call 63; (with_reducible refine (H1.out _).mono ?_); rintro e w' ⟨rfl, rfl⟩) | (go_at_call 63; (with_reducible refine (H2.out _).mono ?_); rintro e w' ⟨rfl, rfl⟩) | (go_at_call 63; (with_reducible refine (H3.out _).mono ?_); rintro e w' ⟨rfl, rfl⟩) | (go_at_call 62; (with_reducible refine (H4.out _ _ _ (Blk.drew (Blk.new _ _ _))).mono ?_); rintro e w' ⟨rfl, rfl⟩))
  all_goals (rename_i hH; have HB := Lib.hid hH.1; clear hH; go_wp2_with fail; go_ret; exact ⟨rfl, B0.out.on HB.out⟩)
theorem compR_swo : SWO (ltOf compR) where
  irrefl x := by unfold ltOf; simp [compR_self]
  trans x y z h1 h2 := by
    unfold ltOf at *
    have h1 := of_decide_eq_true h1
    have h2 := of_decide_eq_true h2
    exact decide_eq_true (compR_trans x y z h1 h2)
  ntrans x y z h1 h2 := by
    unfold ltOf at *
    have h1 := of_decide_eq_false h1
    have h2 := of_decide_eq_false h2
    refine decide_eq_false ?_
    rw [compR_lex] at *
    omega
theorem comp_lays (blk off size : Nat) (w : World) : CmpLays Try.prog 40 #[] Ru.cells 6 compR blk off size w := fun m os dk hs x y => by
  refine (compare_grw x y _).mono ?_
  rintro e w' ⟨rfl, hg⟩
  obtain ⟨q, os', e⟩ := hg.eq
  exact ⟨rfl, q, os', e⟩
theorem flat_rows (L : List Ru) : flatK Ru.cells 6 L.toArray = (L.flatMap Ru.cells).toArray := by
  have hl : (L.flatMap Ru.cells).length = L.length * 6 := by
    induction L with
    | nil => rfl
    | cons x L ih => rw [List.flatMap_cons, List.length_append, ih, List.length_cons]; show 6 + _ = _; omega
  refine Array.ext (by simp [hl]) (fun t h1 h2 => ?_)
  have ht : t < L.length * 6 := by simpa using h1
  have hq : t / 6 < L.length := by omega
  have hg := flat_get Ru.cells 6 L (fun _ _ => rfl) (t / 6) (t % 6) L[t / 6] (List.getElem?_eq_getElem hq) (Nat.mod_lt _ (by omega))
  rw [Nat.div_add_mod] at hg
  have h3 := get_flatK Ru.cells 6 L.toArray t (by simpa using ht)
  rw [getElem!_pos _ t (by simpa using h1)] at h3
  rw [h3]
  rw [getElem!_pos L.toArray (t / 6) (by simpa using hq)]
  have h4 : (L.flatMap Ru.cells)[t]? = some (L.flatMap Ru.cells)[t] := List.getElem?_eq_getElem (by simpa using h2)
  rw [h4] at hg
  simp only [List.getElem_toArray]
  rw [getElem!_pos _ (t % 6) (by show t % 6 < 6; omega)]
  rw [List.getElem?_eq_getElem (by show t % 6 < 6; omega)] at hg
  exact (Option.some.inj hg).symm
end Go.Proofs.Ytgcbngephokegaa
namespace Go.Proofs.Ytgcbngephokegaa
open Go.RowKit Go.Shelf Go.Sort Go.Lib
open Go.RowKit (Below)
set_option linter.unusedVariables false
set_option linter.unusedSimpArgs false

/-- In order: none is asked ahead of one that stands ahead of it. -/
def Asc (L : List Ru) : Prop := L.Pairwise fun x y => ¬ compR y x < 0
theorem row_put (w : World) (g n : Nat) (cur : Array Value) (te : TypeId) (d : Array Ru) (os : Array Obj) (hg : w.heap[g]? = some (.cells cur te (0, 0))) :
    (sortWorldK Ru.cells 6 w g 0 n d os).heap[g]? = some (.cells (putCells id 0 (flatK Ru.cells 6 d) cur) te (0, 0)) := by
  have hl : g < w.heap.size := (Array.getElem?_eq_some_iff.1 hg).1
  unfold sortWorldK grow putRowK putRow mapBlock
  show ((w.heap.modify g _) ++ os)[g]? = _
  rw [Array.getElem?_append_left (by rw [Array.size_modify]; exact hl), Array.getElem?_modify, if_pos rfl, hg]
  rfl
theorem row_put_other (w : World) (g n : Nat) (d : Array Ru) (os : Array Obj) (k : Nat) (hk : k < w.heap.size) (hne : k ≠ g) : (sortWorldK Ru.cells 6 w g 0 n d os).heap[k]? = w.heap[k]? := by
  unfold sortWorldK grow putRowK putRow mapBlock
  show ((w.heap.modify g _) ++ os)[k]? = _
  rw [Array.getElem?_append_left (by rw [Array.size_modify]; exact hk), Array.getElem?_modify, if_neg (fun e => hne e.symm)]
theorem take_put (cur F : Array Value) (m : Nat) (hF : F.size = m) (hm : m ≤ cur.size) : (putCells id 0 F cur).toList.take m = F.toList := by
  have hs : (putCells id 0 F cur).size = cur.size := by simp [putCells]
  refine List.ext_getElem (by simp [hs]; omega) (fun k h1 h2 => ?_)
  rw [List.getElem_take]
  have hk : k < F.size := by simpa using h2
  simp only [Array.getElem_toList, putCells, Array.getElem_mapIdx, id]
  rw [if_pos ⟨Nat.zero_le _, by omega⟩]
  simp only [Nat.sub_zero]
  rw [getElem!_pos F k hk]
theorem ins_none (fv : Value) (W : World) : Calls Try.prog 80 #[.slice none 0 0, .int .i64 0, .int .i64 0, fv] W fun e w' => e = .returned (.tuple #[]) ∧ W = w' := by
  go_enter Try.func80, Try.ntmps80
  go_wp2_with fail
  refine wp_loop_rounds 1 ?_
  rw [rounds_succ]
  go_wp2
  go_end0
  exact ⟨rfl, rfl⟩
theorem pdq_none (fv : Value) (l : Int) (W : World) : Calls Try.prog 74 #[.slice none 0 0, .int .i64 0, .int .i64 0, .int .i64 l, fv] W fun e w' => e = .returned (.tuple #[]) ∧ W = w' := by
  have hI := Lib.hid (ins_none fv)
  go_enter Try.func74, Try.ntmps74
  go_wp2_with fail
  refine wp_loop_rounds 1 ?_
  rw [rounds_succ]
  go_wp2_with fail
  refine (hI.out _).mono ?_
  rintro e w' ⟨rfl, rfl⟩
  clear hI
  go_wp2
  (try simp only [Exit.inBlock, Exit.then])
  refine bodyPost_ret (results_none rfl _ _ _) rfl ?_
  exact ⟨rfl, rfl⟩
theorem blen_zero (W : World) : Calls Try.prog 75 #[.int .u64 0] W fun e w' => (∃ l : Int, e = .returned (.int .i64 l)) ∧ W = w' := by
  have h := Any.bits_Len (SlLaysF0.n15.bits (P := Try.prog) (ρ := Try.sortR_ren) { Try.sortR with }) 0 W (by omega) (by omega)
  change Calls Try.prog 75 _ _ _ at h
  exact h.mono (fun e w' q => ⟨⟨_, q.1⟩, q.2.symm⟩)
theorem sort_none (fv : Value) (W : World) : Calls Try.prog 59 #[.slice none 0 0, fv] W fun e w' => e = .returned (.tuple #[]) ∧ W = w' := by
  have hL := Lib.hid blen_zero
  have hP := Lib.hid (pdq_none fv)
  go_enter Try.func59, Try.ntmps59
  go_wp2_with fail
  refine (hL.out _).mono ?_
  rintro e w' ⟨⟨l, rfl⟩, rfl⟩
  go_wp2_with fail
  refine (hP.out l _).mono ?_
  rintro e w' ⟨rfl, rfl⟩
  clear hL hP
  go_wp2
  go_end0
  exact ⟨rfl, rfl⟩
set_option maxHeartbeats 1000000 in
theorem sort_rows (W : World) (b0 : Nat) (v : Value) (L : List Ru) (h : Rules W b0 v L) (hl : L.length ≤ 1000000) :
    Calls Try.prog 59 #[v, .func (.func 40) #[] #[]] W fun e w' => e = .returned (.tuple #[]) ∧ ∃ L', L'.Perm L ∧ Asc L' ∧ Rules w' b0 v L' ∧ Keep (fun i => v.ownBlock = some i) W w' := by
  cases hL : L with
  | nil =>
    subst hL
    have ev : v = .slice none 0 0 := h.2.2 rfl
    subst ev
    refine (sort_none _ W).mono ?_
    rintro e w' ⟨rfl, rfl⟩
    exact ⟨rfl, [], List.Perm.refl _, List.Pairwise.nil, h, Keep.refl _ _⟩
  | cons x xs =>
    have hn : 0 < L.length := by rw [hL]; simp
    rw [← hL]
    clear hL
    have h0 := h
    obtain ⟨⟨hxl, hcase⟩, hnil⟩ := h
    rcases hcase with ⟨-, e0⟩ | ⟨g, cap, cur, rfl, hbg, hg, hcap, hmx, hcs, htk⟩
    · omega
    · have eg : ∀ args w, (callFunc 40 args).run Try.prog w = .ok (.enter 40 args) w := enters_of Try.func40 (by kernel_rfl) rfl
      have hgl : g < W.heap.size := (Array.getElem?_eq_some_iff.1 hg).1
      have hH : HoldsK Ru.cells 6 W g 0 L.toArray := by
        unfold HoldsK
        rw [flat_rows]
        intro j hj
        have hj2 : j < (L.flatMap Ru.cells).length := by simpa using hj
        obtain ⟨g2, cap2, e2, -, -, hc⟩ := Row.at h0 hn
        simp at e2
        obtain ⟨rfl, -⟩ := e2
        refine ⟨?_, ?_⟩
        · rw [Nat.zero_add, hc j _ (List.getElem?_eq_getElem hj2), getElem!_pos _ j hj]
          simp
        · simp [World.frozen?, hg]
      have hcon := AnyQ.slices_SortFunc Try.sortR 6 Try.isAgg57 Try.sizeOf57 Ru.cells (fun _ => rfl) (fun x v hv => by simp [Ru.cells] at hv; rcases hv with rfl | rfl | rfl | rfl | rfl | rfl <;> rfl) compR compR_swo 40 #[] g 0 cap L.toArray W eg (comp_lays g 0 _ W) hH hgl (by simp; omega)
      change Calls Try.prog 59 _ _ _ at hcon
      simp only [List.size_toArray] at hcon
      refine hcon.mono ?_
      rintro e w' ⟨rfl, d', n, os, hp, hs, rfl⟩
      obtain ⟨p1, -, p3⟩ := hp
      have hd : d'.size = L.length := by simpa using p1
      have hperm : d'.toList.Perm L := by
        have e1 : d'.extract 0 L.length = d' := by rw [← hd]; simp
        have e2 : L.toArray.extract 0 L.length = L.toArray := by simp
        rw [e1, e2] at p3
        simpa using p3
      have hd2 : d'.toList.length = L.length := by simp [hd]
      have hfl := flat_rows d'.toList
      rw [Array.toArray_toList] at hfl
      have hfs : (flatK Ru.cells 6 d').size = L.length * 6 := by rw [size_flatK, hd]
      refine ⟨rfl, d'.toList, hperm, List.pairwise_iff_getElem.2 (fun i j hi hj hij => ?_), ⟨⟨?_, Or.inr ⟨g, cap, _, by simp [hd], hbg, row_put W g n cur 57 d' os hg, by simp [hd]; exact hcap, hmx, ?_, ?_⟩⟩, ?_⟩, ?_⟩
      · have hi' : i < d'.size := by simpa using hi
        have hj' : j < d'.size := by simpa using hj
        have := hs i j (Nat.zero_le _) hij (by omega)
        rw [getElem!_pos d' j hj', getElem!_pos d' i hi'] at this
        simpa [ltOf] using this
      · have : (d'.toList.flatMap Ru.cells).toArray.size = L.length * 6 := by rw [← hfl]; exact hfs
        simp only [List.size_toArray] at this
        rw [this, hd2]
      · simp [putCells, hcs]
      · rw [hd2, take_put cur _ (L.length * 6) hfs (by rw [hcs]; exact Nat.mul_le_mul_right _ hcap), hfl]
      · rw [hd2]; exact ⟨fun e => (by cases e), fun e => (by omega)⟩
      · refine ⟨rfl, rfl, rfl, ?_, fun k hk hne => row_put_other W g n d' os k hk (fun e => hne (by rw [e]; rfl))⟩
        unfold sortWorldK grow putRowK putRow mapBlock
        show _ ≤ ((W.heap.modify g _) ++ os).size
        rw [Array.size_append, Array.size_modify]
        show W.heap.size ≤ W.heap.size + _
        omega
end Go.Proofs.Ytgcbngephokegaa
