/- Clone of a table; Best, Hidden and Clone of none. -/
import Derived.Test.YtgcbngephokegaaT24
import Derived.Test.YtgcbngephokegaaKB0
namespace Go.Proofs.Ytgcbngephokegaa
open Go.RowKit Go.Maps Go.MapKept Go.ChangeMaps Go.WideElems Go.Joins
set_option linter.unusedVariables false
set_option linter.unusedSimpArgs false

theorem add_next {M : List Ru} (hn : (M.map Ru.id).Nodup) (hr : MRight M) {i : Nat} {x : Ru} (hx : M[i]? = some x) : taddF (M.take i).reverse x = (M.take (i + 1)).reverse := by
  have hm := List.mem_of_getElem? hx
  unfold taddF
  have h0 : x.id ∉ (M.take i).reverse.map Ru.id := fun c => by
    obtain ⟨y, hy, e⟩ := List.mem_map.1 c
    have hy := List.mem_reverse.1 hy
    obtain ⟨j, hj, ej⟩ := List.mem_iff_getElem.1 hy
    rw [List.length_take] at hj
    rw [List.getElem_take] at ej
    obtain ⟨hi, ei⟩ := List.getElem?_eq_some_iff.1 hx
    have h1 : (M.map Ru.id)[j]'(by rw [List.length_map]; omega) = (M.map Ru.id)[i]'(by rw [List.length_map]; exact hi) := by
      rw [List.getElem_map, List.getElem_map, ej, ei, e]
    have := (List.getElem_inj hn).1 h1
    omega
  rw [(hr x hm).1, if_pos rfl, if_neg h0, List.take_add_one, hx, Option.toList_some, List.reverse_append]
  rfl
set_option maxRecDepth 100000 in
set_option maxHeartbeats 4000000 in
theorem tclone_any {Z : Nat → Prop} {p : Nat} {W : World} {M : List Ru} (h : Tab Z p W M) (hM : Strict M) (hl : M.length ≤ 100000) :
    Calls Try.prog 39 #[.pointer (some ⟨p, 0, none⟩)] W fun e w' => e = .returned (.pointer (some ⟨W.heap.size, 0, none⟩)) ∧ Tab (fun k => k < W.heap.size) W.heap.size w' M ∧ Below W.heap.size W w' := by
  have H := Lib.hid h
  have CN := Lib.hid (sNewTab W)
  have HN := Lib.hid (tab_ids h)
  have HR := Lib.hid (tab_right h)
  clear h
  obtain ⟨n, hN⟩ : ∃ n, M.length = n := ⟨_, rfl⟩
  have HL := Lib.hid hN
  have hn : n ≤ 100000 := by omega
  obtain ⟨q, hq⟩ : ∃ q, W.heap.size = q := ⟨_, rfl⟩
  rw [hq] at CN
  rw [hq]
  go_enter Try.func39, Try.ntmps39
  go_wp2_with fail
  refine CN.out.mono ?_
  rintro e w1 ⟨rfl, h1, hb1⟩
  have T1 := Lib.hid h1
  have B1 := Lib.hid hb1
  have H1 := Lib.hid (H.out.on (by rw [hq]; exact hb1))
  clear h1 hb1 CN H
  go_wp2_with fail
  refine (rules_any H1.out hM hl).mono ?_
  rintro e w2 ⟨v2, rfl, hv, hb⟩
  have I2 : Hid (InY (fun k => k < q ∨ (w1.heap.size ≤ k ∧ k < w2.heap.size)) 0 v2) := Lib.hid (fun i e => ⟨Or.inr (row_own hv i e), Nat.zero_le _⟩)
  have T2 : Hid (Tab (fun k => k < q ∨ (w1.heap.size ≤ k ∧ k < w2.heap.size)) q w2 ((M.take 0).reverse)) := Lib.hid (T1.out.grow hb)
  have B2 : Hid (Below q W w2) := Lib.hid (B1.out.trans (hb.mono (by have := B1.out.size; omega)))
  obtain ⟨Y, hY⟩ : ∃ Y, (fun k => k < q ∨ (w1.heap.size ≤ k ∧ k < w2.heap.size)) = Y := ⟨_, rfl⟩
  have HY : Hid (∀ k, k < q → Y k) := Lib.hid (fun k hk => by rw [← hY]; exact Or.inl hk)
  rw [hY] at I2 T2
  have HH : Hid (Hold Y w2 w2) := Lib.hid (Keep.refl _ _)
  obtain ⟨a, ha⟩ : ∃ a, w1.heap.size = a := ⟨_, rfl⟩
  rw [ha] at hv
  obtain ⟨va, vc, rfl⟩ := Row.slice hv
  rw [hN] at hv ⊢
  have V2 : Hid (Rules w2 a (.slice va n vc) M) := Lib.hid hv
  clear hv hb T1 B1 H1 ha hY hN
  go_wp2_with fail
  go_loopw [10] (fun iv wr => ∃ (i : Nat), iv = .int .i64 (i : Nat) ∧ i ≤ n ∧ Hid (Tab Y q wr ((M.take i).reverse)) ∧ Hid (Hold Y w2 wr) ∧ Hid (Rules wr a (.slice va n vc) M)) (fun iv _ => n - (intOf iv).toNat)
  case atStart => exact ⟨0, rfl, Nat.zero_le _, T2, HH, V2⟩
  case round =>
    obtain ⟨i, rfl, hi, S, H, V⟩ := hrel
    clear T2 V2 HH
    by_cases hin : i < n
    · have hw1 : IntKind.i64.wrap ((i : Int) + 1) = ((i + 1 : Nat) : Int) := by rw [IntKind.wrap_i64]; omega
      obtain ⟨x, hx⟩ : ∃ x, M[i]? = some x := ⟨_, List.getElem?_eq_getElem (by rw [HL.out]; exact hin)⟩
      have hxo := Lib.hid (HR.out x (List.mem_of_getElem? hx))
      have hnx := Lib.hid (add_next HN.out HR.out hx)
      obtain ⟨g, cap, e1, hc⟩ := rule_at V.out (by rw [HL.out]; omega)
      simp at e1
      obtain ⟨rfl, -, rfl⟩ := e1
      obtain ⟨c_0, c_1, c_2, c_3, c_4, c_5⟩ := hc i x hx
      have hml : ((M.take i).reverse).length ≤ 100000 := by rw [List.length_reverse, List.length_take]; omega
      obtain ⟨nb, hnb⟩ : ∃ n, wr.heap.size = n := ⟨_, rfl⟩
      clear hc hx
      go_upto_region 5 with fail
      refine at_code (S := fun w => Blk w nb x.cells ∧ Tab (fun k => Y k ∨ k = nb) q w ((M.take i).reverse) ∧ Hold Y w2 w ∧ Rules w a (.slice (some ⟨g, 0, none⟩) n vc) M) ⟨by rw [← hnb]; exact Blk.new _ _ _, (S.out.grow (bel_al (Below.refl _ _) _)).less (fun k c => c.imp id (fun e => by rw [e, ← hnb, World.size_alloc]; omega)), H.out.trans (Hold.of (bel_al (Below.refl _ _) _)), Row.on V.out (bel_al (Below.refl _ _) _)⟩ (fun w3 h3 => ?_)
      have X3 := Lib.hid h3.1
      have S3 := Lib.hid h3.2.1
      have H3 := Lib.hid h3.2.2.1
      have V3 := Lib.hid h3.2.2.2
      obtain ⟨⟨x_0, x_1, x_2, x_3, x_4, x_5⟩, -⟩ := blk_ru X3.out
      clear h3 c_0 c_1 c_2 c_3 c_4 c_5 S H V hnb
      go_wp2_with fail
      refine (tadd_any S3.out x hxo.out.2 hml).mono ?_
      rintro e w4 ⟨rfl, ht, hh⟩
      rw [hnx.out] at ht
      have S4 : Hid (Tab Y q w4 ((M.take (i + 1)).reverse)) := Lib.hid (ht.less (fun k c => Or.inl c))
      have H4 : Hid (Hold Y w2 w4) := Lib.hid (H3.out.trans (hh.less (fun k c => Or.inl c)))
      have V4 : Hid (Rules w4 a (.slice (some ⟨g, 0, none⟩) n vc) M) := Lib.hid (row_hold V3.out I2.out (hh.less (fun k c => Or.inl c)))
      clear ht hh S3 H3 V3 X3 x_0 x_1 x_2 x_3 x_4 x_5 hnx hxo
      generalize taddC (M.take i).reverse x = ce
      go_wp2_with fail
      refine ⟨⟨i + 1, by first | rfl | rw [hw1], by omega, S4, H4, V4⟩, by simp [intOf] <;> omega⟩
    · obtain rfl : i = n := by omega
      have TE : Hid (Tab (fun k => k < q) q wr M) := Lib.hid ((S.out.less HY.out).perm (fun r => by rw [List.mem_reverse, List.take_of_length_le (by rw [HL.out]; exact Nat.le_refl _)]) HN.out)
      have BE : Hid (Below q W wr) := Lib.hid (B2.out.trans (Hold.below H.out (by have := B2.out.size; omega) (fun k hk => HY.out k hk)))
      clear S H V
      go_wp2
      go_ret
      exact ⟨rfl, TE.out, BE.out⟩
set_option maxRecDepth 100000 in
theorem tclone_nil (W : World) : Calls Try.prog 39 #[.pointer none] W fun e w' => ∃ q, e = .returned (.pointer (some ⟨q, 0, none⟩)) ∧ Tab (fun k => k < W.heap.size) q w' [] ∧ Below W.heap.size W w' := by
  have CN := Lib.hid (sNewTab W)
  obtain ⟨q, hq⟩ : ∃ q, W.heap.size = q := ⟨_, rfl⟩
  rw [hq] at CN
  go_enter Try.func39, Try.ntmps39
  go_wp2_with fail
  refine CN.out.mono ?_
  rintro e w1 ⟨rfl, h1, hb1⟩
  have T1 := Lib.hid h1
  have B1 := Lib.hid hb1
  clear h1 hb1 CN
  go_wp2_with fail
  refine (rules_nil w1).mono ?_
  rintro e w2 ⟨rfl, rfl⟩
  go_wp2_with fail
  go_loopw [10] (fun iv wr => iv = .int .i64 0 ∧ Hid (Tab (fun k => k < q) q wr []) ∧ Hid (Below q W wr)) (fun _ _ => 0)
  case atStart => exact ⟨rfl, T1, B1⟩
  case round =>
    obtain ⟨rfl, T2, B2⟩ := hrel
    clear T1 B1
    go_wp2
    go_ret
    exact ⟨q, rfl, by rw [hq]; exact T2.out, by rw [hq]; exact B2.out⟩
theorem best_nil (W : World) (A : Nat) : Calls Try.prog 30 #[.pointer none, .int .u32 (A : Nat)] W fun e w' => e = .returned (.tuple #[rv ru0, .bool false]) ∧ Below W.heap.size W w' := by
  go_enter Try.func30, Try.ntmps30
  go_upto_region 1 with fail
  refine at_code (S := fun w => Blk w W.heap.size ru0.cells ∧ Below W.heap.size W w) ⟨Blk.new W 57 ru0.cells, bel_al (Below.refl _ _) _⟩ (fun W1 h1 => ?_)
  have X1 := Lib.hid h1.1
  have B1 := Lib.hid h1.2
  obtain ⟨⟨x_0, x_1, x_2, x_3, x_4, x_5⟩, f_0, f_1, f_2, f_3, f_4, f_5⟩ := blk_ru h1.1
  clear h1
  have zr := zeroRule
  go_wp2
  have n1 : W.heap.size ≤ W.heap.size := Nat.le_refl _
  refine bodyPost_ret (v := .tuple #[rv ru0, .bool false]) (by simp [results, Try.results30, go_sem, x_0, x_1, x_2, x_3, x_4, x_5]) rfl ⟨rfl, ?_⟩
  exact (((((B1.out.setCell n1 _).setCell n1 _).setCell n1 _).setCell n1 _).setCell n1 _).setCell n1 _
set_option maxRecDepth 100000 in
theorem hidden_nil (W : World) (id : Int) : Calls Try.prog 37 #[.pointer none, .int .i64 id] W fun e w' => e = .returned (.bool false) ∧ Below W.heap.size W w' := by
  have CG := Lib.hid (get_nil W id)
  go_enter Try.func37, Try.ntmps37
  go_wp2_with fail
  refine CG.out.mono ?_
  rintro e w1 ⟨rfl, hb⟩
  have B := Lib.hid hb
  clear hb CG
  go_wp2
  go_ret
  exact ⟨rfl, by first | exact bel_al B.out _ | exact B.out⟩
end Go.Proofs.Ytgcbngephokegaa
