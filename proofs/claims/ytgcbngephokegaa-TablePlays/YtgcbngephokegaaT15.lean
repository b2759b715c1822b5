/- slices.SortFunc of rules: what lies in the row behind it. -/
import Derived.Test.YtgcbngephokegaaT14
namespace Go.Proofs.Ytgcbngephokegaa
open Go.RowKit Go.Shelf Go.Sort Go.Lib
open Go.RowKit (Below)
set_option linter.unusedVariables false
set_option linter.unusedSimpArgs false

/-- In order: none is asked ahead of one that stands ahead of it. -/
def Asc (L : List Ru) : Prop := L.Pairwise fun x y => ¬ compR y x < 0
theorem row_put (w : World) (g n : Nat) (cur : Array Value) (te : TypeId) (d : Array Ru) (os : Array Obj) (hg : w.heap[g]? = some (.cells cur te (0, 0))) :
    (sortWorldK Ru.cells 6 w g 0 n d os).heap[g]? = some (.cells (putCells id 0 (flatK Ru.cells 6 d) cur) te (0, 0)) := by
  have hl : g < w.heap.size := (Array.getElem?_eq_some_iff.1 hg).1
  unfold sortWorldK grow putRowK putRow mapBlock
  show ((w.heap.modify g _) ++ os)[g]? = _
  rw [Array.getElem?_append_left (by rw [Array.size_modify]; exact hl), Array.getElem?_modify, if_pos rfl, hg]
  rfl
theorem row_put_other (w : World) (g n : Nat) (d : Array Ru) (os : Array Obj) (k : Nat) (hk : k < w.heap.size) (hne : k ≠ g) : (sortWorldK Ru.cells 6 w g 0 n d os).heap[k]? = w.heap[k]? := by
  unfold sortWorldK grow putRowK putRow mapBlock
  show ((w.heap.modify g _) ++ os)[k]? = _
  rw [Array.getElem?_append_left (by rw [Array.size_modify]; exact hk), Array.getElem?_modify, if_neg (fun e => hne e.symm)]
theorem take_put (cur F : Array Value) (m : Nat) (hF : F.size = m) (hm : m ≤ cur.size) : (putCells id 0 F cur).toList.take m = F.toList := by
  have hs : (putCells id 0 F cur).size = cur.size := by simp [putCells]
  refine List.ext_getElem (by simp [hs]; omega) (fun k h1 h2 => ?_)
  rw [List.getElem_take]
  have hk : k < F.size := by simpa using h2
  simp only [Array.getElem_toList, putCells, Array.getElem_mapIdx, id]
  rw [if_pos ⟨Nat.zero_le _, by omega⟩]
  simp only [Nat.sub_zero]
  rw [getElem!_pos F k hk]
theorem ins_none (fv : Value) (W : World) : Calls Try.prog 80 #[.slice none 0 0, .int .i64 0, .int .i64 0, fv] W fun e w' => e = .returned (.tuple #[]) ∧ W = w' := by
  go_enter Try.func80, Try.ntmps80
  go_wp2_with fail
  refine wp_loop_rounds 1 ?_
  rw [rounds_succ]
  go_wp2
  go_end0
  exact ⟨rfl, rfl⟩
theorem pdq_none (fv : Value) (l : Int) (W : World) : Calls Try.prog 74 #[.slice none 0 0, .int .i64 0, .int .i64 0, .int .i64 l, fv] W fun e w' => e = .returned (.tuple #[]) ∧ W = w' := by
  have hI := Lib.hid (ins_none fv)
  go_enter Try.func74, Try.ntmps74
  go_wp2_with fail
  refine wp_loop_rounds 1 ?_
  rw [rounds_succ]
  go_wp2_with fail
  refine (hI.out _).mono ?_
  rintro e w' ⟨rfl, rfl⟩
  clear hI
  go_wp2
  (try simp only [Exit.inBlock, Exit.then])
  refine bodyPost_ret (results_none rfl _ _ _) rfl ?_
  exact ⟨rfl, rfl⟩
theorem blen_zero (W : World) : Calls Try.prog 75 #[.int .u64 0] W fun e w' => (∃ l : Int, e = .returned (.int .i64 l)) ∧ W = w' := by
  have h := Any.bits_Len (SlLaysF0.n15.bits (P := Try.prog) (ρ := Try.sortR_ren) { Try.sortR with }) 0 W (by omega) (by omega)
  change Calls Try.prog 75 _ _ _ at h
  exact h.mono (fun e w' q => ⟨⟨_, q.1⟩, q.2.symm⟩)
theorem sort_none (fv : Value) (W : World) : Calls Try.prog 59 #[.slice none 0 0, fv] W fun e w' => e = .returned (.tuple #[]) ∧ W = w' := by
  have hL := Lib.hid blen_zero
  have hP := Lib.hid (pdq_none fv)
  go_enter Try.func59, Try.ntmps59
  go_wp2_with fail
  refine (hL.out _).mono ?_
  rintro e w' ⟨⟨l, rfl⟩, rfl⟩
  go_wp2_with fail
  refine (hP.out l _).mono ?_
  rintro e w' ⟨rfl, rfl⟩
  clear hL hP
  go_wp2
  go_end0
  exact ⟨rfl, rfl⟩
set_option maxHeartbeats 1000000 in
theorem sort_rows (W : World) (b0 : Nat) (v : Value) (L : List Ru) (h : Rules W b0 v L) (hl : L.length ≤ 1000000) :
    Calls Try.prog 59 #[v, .func (.func 40) #[] #[]] W fun e w' => e = .returned (.tuple #[]) ∧ ∃ L', L'.Perm L ∧ Asc L' ∧ Rules w' b0 v L' ∧ Keep (fun i => v.ownBlock = some i) W w' := by
  cases hL : L with
  | nil =>
    subst hL
    have ev : v = .slice none 0 0 := h.2.2 rfl
    subst ev
    refine (sort_none _ W).mono ?_
    rintro e w' ⟨rfl, rfl⟩
    exact ⟨rfl, [], List.Perm.refl _, List.Pairwise.nil, h, Keep.refl _ _⟩
  | cons x xs =>
    have hn : 0 < L.length := by rw [hL]; simp
    rw [← hL]
    clear hL
    have h0 := h
    obtain ⟨⟨hxl, hcase⟩, hnil⟩ := h
    rcases hcase with ⟨-, e0⟩ | ⟨g, cap, cur, rfl, hbg, hg, hcap, hmx, hcs, htk⟩
    · omega
    · have eg : ∀ args w, (callFunc 40 args).run Try.prog w = .ok (.enter 40 args) w := enters_of Try.func40 (by kernel_rfl) rfl
      have hgl : g < W.heap.size := (Array.getElem?_eq_some_iff.1 hg).1
      have hH : HoldsK Ru.cells 6 W g 0 L.toArray := by
        unfold HoldsK
        rw [flat_rows]
        intro j hj
        have hj2 : j < (L.flatMap Ru.cells).length := by simpa using hj
        obtain ⟨g2, cap2, e2, -, -, hc⟩ := Row.at h0 hn
        simp at e2
        obtain ⟨rfl, -⟩ := e2
        refine ⟨?_, ?_⟩
        · rw [Nat.zero_add, hc j _ (List.getElem?_eq_getElem hj2), getElem!_pos _ j hj]
          simp
        · simp [World.frozen?, hg]
      have hcon := AnyQ.slices_SortFunc Try.sortR 6 Try.isAgg57 Try.sizeOf57 Ru.cells (fun _ => rfl) (fun x v hv => by simp [Ru.cells] at hv; rcases hv with rfl | rfl | rfl | rfl | rfl | rfl <;> rfl) compR compR_swo 40 #[] g 0 cap L.toArray W eg (comp_lays g 0 _ W) hH hgl (by simp; omega)
      change Calls Try.prog 59 _ _ _ at hcon
      simp only [List.size_toArray] at hcon
      refine hcon.mono ?_
      rintro e w' ⟨rfl, d', n, os, hp, hs, rfl⟩
      obtain ⟨p1, -, p3⟩ := hp
      have hd : d'.size = L.length := by simpa using p1
      have hperm : d'.toList.Perm L := by
        have e1 : d'.extract 0 L.length = d' := by rw [← hd]; simp
        have e2 : L.toArray.extract 0 L.length = L.toArray := by simp
        rw [e1, e2] at p3
        simpa using p3
      have hd2 : d'.toList.length = L.length := by simp [hd]
      have hfl := flat_rows d'.toList
      rw [Array.toArray_toList] at hfl
      have hfs : (flatK Ru.cells 6 d').size = L.length * 6 := by rw [size_flatK, hd]
      refine ⟨rfl, d'.toList, hperm, List.pairwise_iff_getElem.2 (fun i j hi hj hij => ?_), ⟨⟨?_, Or.inr ⟨g, cap, _, by simp [hd], hbg, row_put W g n cur 57 d' os hg, by simp [hd]; exact hcap, hmx, ?_, ?_⟩⟩, ?_⟩, ?_⟩
      · have hi' : i < d'.size := by simpa using hi
        have hj' : j < d'.size := by simpa using hj
        have := hs i j (Nat.zero_le _) hij (by omega)
        rw [getElem!_pos d' j hj', getElem!_pos d' i hi'] at this
        simpa [ltOf] using this
      · have : (d'.toList.flatMap Ru.cells).toArray.size = L.length * 6 := by rw [← hfl]; exact hfs
        simp only [List.size_toArray] at this
        rw [this, hd2]
      · simp [putCells, hcs]
      · rw [hd2, take_put cur _ (L.length * 6) hfs (by rw [hcs]; exact Nat.mul_le_mul_right _ hcap), hfl]
      · rw [hd2]; exact ⟨fun e => (by cases e), fun e => (by omega)⟩
      · refine ⟨rfl, rfl, rfl, ?_, fun k hk hne => row_put_other W g n d' os k hk (fun e => hne (by rw [e]; rfl))⟩
        unfold sortWorldK grow putRowK putRow mapBlock
        show _ ≤ ((W.heap.modify g _) ++ os).size
        rw [Array.size_append, Array.size_modify]
        show W.heap.size ≤ W.heap.size + _
        omega
end Go.Proofs.Ytgcbngephokegaa
