/- The document's Drop of rules. -/
import Derived.Test.YtgcbngephokegaaT18
namespace Go.Proofs.Ytgcbngephokegaa
open Go.RowKit Go.Maps Go.MapKept Go.ChangeMaps Go.WideElems Go.Joins
set_option linter.unusedVariables false
set_option linter.unusedSimpArgs false

theorem dropI_at : ∀ {m : List Ru} {i : Nat} {y : Ru}, (m.map Ru.id).Nodup → m[i]? = some y → dropI m y.id = m.take i ++ m.drop (i + 1)
  | [], i, y, _, h => by simp at h
  | x :: m, 0, y, hn, h => by
    have e : x = y := by simpa using h
    subst e
    obtain ⟨h1, h2⟩ := List.nodup_cons.1 hn
    have := dropI_none h1
    unfold dropI at this ⊢
    rw [List.filter_cons_of_neg (by simp), this]
    simp
  | x :: m, i + 1, y, hn, h => by
    obtain ⟨h1, h2⟩ := List.nodup_cons.1 hn
    have hy : m[i]? = some y := by simpa using h
    have hne : x.id ≠ y.id := fun e => h1 (List.mem_map.2 ⟨y, List.mem_of_getElem? hy, e.symm⟩)
    have ih := dropI_at h2 hy
    unfold dropI at ih ⊢
    rw [List.filter_cons_of_pos (by simpa using hne), ih]
    simp
set_option maxRecDepth 100000 in
set_option maxHeartbeats 4000000 in
theorem rrdrop_some (W : World) (b0 : Nat) (l : Value) (m : List Ru) (id : Int) (hn : (m.map Ru.id).Nodup) (hl : Rules W b0 l m) (hlen : m.length ≤ 100000) (hb0 : b0 ≤ W.heap.size) (hne : 0 < m.length) :
    Calls Try.prog 25 #[l, .int .i64 id] W fun e w' => ∃ u, e = .returned (.tuple #[u, .int .i64 (tdropC m id)]) ∧ RLeft W w' b0 l u (dropI m id) := by
  have HN := Lib.hid hn
  have HL := Lib.hid hl
  have HB0 := Lib.hid hb0
  obtain ⟨g, cap0, el, -, -, -⟩ := Row.at hl hne
  subst el
  have HG : Hid (∀ w, Below W.heap.size W w → ∀ i u, (m.flatMap Ru.cells)[i]? = some u → w.cell? ⟨g, i, none⟩ = some u) := Lib.hid (fun w hb => by
    obtain ⟨g2, cap2, q1, -, -, q2⟩ := Row.at (show Row w b0 _ _ _ _ (m.flatMap Ru.cells) from Row.on hl hb) hne
    simp at q1
    obtain ⟨rfl, -⟩ := q1
    exact q2)
  have HCap : Hid (m.length ≤ cap0) := Lib.hid (by
    rcases hl.1.2 with ⟨e, -⟩ | ⟨g1, c1, cur1, e, -, -, q3⟩
    · cases e
    · cases e
      exact q3.1)
  have HB1 : Hid (Below W.heap.size W W) := Lib.hid (Below.refl _ _)
  clear hl hb0 hn
  unfold RLeft
  go_enter Try.func25, Try.ntmps25
  go_wp2_with fail
  go_loopw [6] (fun iv wr => ∃ (i : Nat), iv = .int .i64 (i : Nat) ∧ i ≤ m.length ∧ Hid (∀ j y, j < i → m[j]? = some y → y.id ≠ id) ∧ Hid (Below W.heap.size W wr)) (fun iv _ => m.length - (intOf iv).toNat)
  case atStart => exact ⟨0, rfl, Nat.zero_le _, Lib.hid (fun j y h => by omega), HB1⟩
  case round =>
    obtain ⟨i, rfl, hi, HJ, Bw⟩ := hrel
    clear HB1
    by_cases hil : i < m.length
    · have hw1 : IntKind.i64.wrap ((i : Int) + 1) = ((i + 1 : Nat) : Int) := by rw [IntKind.wrap_i64]; omega
      obtain ⟨y, hy, -, hym⟩ := drop_at hil
      have HY := Lib.hid hy
      obtain ⟨g2, cap2, q1, q2⟩ := rule_at (show Rules wr b0 _ m from Row.on HL.out Bw.out) hne
      simp at q1
      obtain ⟨rfl, -⟩ := q1
      obtain ⟨c_0, -⟩ := q2 i y hy
      clear q2 hy
      by_cases hid : y.id = id
      · have e1 : (y.id == id) = true := by simp [hid]
        have HC : Hid (tdropC m id = 0) := Lib.hid (by unfold tdropC; rw [if_pos (List.mem_map.2 ⟨y, hym, hid⟩)])
        have hat : dropI m id = m.take i ++ m.drop (i + 1) := by rw [← hid]; exact dropI_at HN.out HY.out
        have hcm : i + 1 ≤ m.length := hil
        obtain ⟨c, hcc⟩ : ∃ c, i + 1 = c := ⟨_, rfl⟩
        rw [hcc] at hat hcm hw1
        have HAT := Lib.hid hat
        have hcap := HCap.out
        obtain ⟨i0, hi0, hz0, hz1, hz2⟩ := hinfo_parts infoRule
        have HTL := Lib.hid (show (m.take i).length = i by rw [List.length_take]; omega)
        have HDL := Lib.hid (show (m.drop c).length = m.length - c from List.length_drop)
        clear hid hym HJ hat hcc
        rcases Nat.lt_or_ge c cap0 with hac | hac
        · go_upto_region 6 with fail
          have hown0 := (row_nil wr W.heap.size 57 6).1
          have hszW := Bw.out.size
          go_wp2_with (at_builtin; refine wpList_append_own _ rfl _ _ 55 rfl W.heap.size 57 i0 (.agg #[.int .i64 0, .int .i64 0, .int .u32 0, .int .i64 0, .int .i64 0, .int .i64 0]) 6 48 Try.underlying55 hi0 hz0 hz1 hz2 rfl (by decide) _ _ _ rfl hown0 ⟨g, 0, none⟩ i _ ((m.take i).flatMap Ru.cells) rfl ?c0 ?c1 ?c2 ?c3 ?c4 ?c5 ?_)
          case c0 => rw [rcells_len, HTL.out]
          case c1 => exact fun j u hu => by rw [add_plain, Nat.zero_add]; exact HG.out wr Bw.out j u (rtake_get m i j u hu)
          case c2 => exact rcells_one _
          case c3 => unfold maxLen; omega
          case c4 => omega
          case c5 => omega
          · intro v1 wA hown1 hgrow hnl
            have BA := Lib.hid (Bw.out.grown hgrow hszW (fun q e => (World.ownsRow.lt hown0 q e).1))
            have NV := Lib.hid hnl
            clear hgrow hnl hown0 Bw hszW
            have hszA := BA.out.size
            go_wp2_with (at_builtin; refine wpList_append_own _ rfl _ _ 55 rfl W.heap.size 57 i0 (.agg #[.int .i64 0, .int .i64 0, .int .u32 0, .int .i64 0, .int .i64 0, .int .i64 0]) 6 48 Try.underlying55 hi0 hz0 hz1 hz2 rfl (by decide) _ _ _ rfl hown1 _ _ _ ((m.drop c).flatMap Ru.cells) rfl ?c0 ?c1 ?c2 ?c3 ?c4 ?c5 ?_)
            case c0 => rw [rcells_len, HDL.out]
            case c1 => exact fun j u hu => by rw [add_plain]; have := HG.out wA BA.out (c * 6 + j) u (rdrop_get m c j hcm u hu); simpa using this
            case c2 => exact rcells_one _
            case c3 => unfold maxLen; omega
            case c4 => omega
            case c5 => omega
            · intro v3 wC hown3 hgrow hnl3
              have BC := Lib.hid (BA.out.grown hgrow hszA (fun q e => (World.ownsRow.lt hown1 q e).1))
              have RF : Hid (Rules wC W.heap.size v3 (m.take i ++ m.drop c)) := Lib.hid (by
                unfold Rules
                have hle : (m.take i ++ m.drop c).length = 0 + i + (m.length - c) := by rw [List.length_append, HTL.out, HDL.out]; omega
                have hce : (m.take i ++ m.drop c).flatMap Ru.cells = [] ++ (m.take i).flatMap Ru.cells ++ (m.drop c).flatMap Ru.cells := by
                  rw [List.flatMap_append]; simp
                rw [hle, hce]
                refine ⟨by simpa using hown3, ⟨fun e => ?_, fun e => ?_⟩⟩
                · have q1 := hnl3.1 e
                  have q2 := NV.out.1 q1.1
                  omega
                · exact hnl3.2 ⟨NV.out.2 (by first | omega | exact ⟨rfl, by omega⟩), by omega⟩)
              clear hgrow hnl3 hown3 hown1 hi0 hz0 hz1 hz2 BA hszA
              rw [← HAT.out] at RF
              go_wp2
              exact bodyPost_ret (v := .tuple #[v3, .int .i64 0]) (by simp [results, Try.results25, go_sem]) rfl ⟨v3, by rw [HC.out], Row.base RF.out HB0.out, BC.out, Or.inr RF.out⟩
        · go_upto_region 6 with fail
          have hown0 := (row_nil wr W.heap.size 57 6).1
          have hszW := Bw.out.size
          go_wp2_with (at_builtin; refine wpList_append_own _ rfl _ _ 55 rfl W.heap.size 57 i0 (.agg #[.int .i64 0, .int .i64 0, .int .u32 0, .int .i64 0, .int .i64 0, .int .i64 0]) 6 48 Try.underlying55 hi0 hz0 hz1 hz2 rfl (by decide) _ _ _ rfl hown0 ⟨g, 0, none⟩ i _ ((m.take i).flatMap Ru.cells) rfl ?c0 ?c1 ?c2 ?c3 ?c4 ?c5 ?_)
          case c0 => rw [rcells_len, HTL.out]
          case c1 => exact fun j u hu => by rw [add_plain, Nat.zero_add]; exact HG.out wr Bw.out j u (rtake_get m i j u hu)
          case c2 => exact rcells_one _
          case c3 => unfold maxLen; omega
          case c4 => omega
          case c5 => omega
          · intro v1 wA hown1 hgrow hnl
            have BA := Lib.hid (Bw.out.grown hgrow hszW (fun q e => (World.ownsRow.lt hown0 q e).1))
            have NV := Lib.hid hnl
            clear hgrow hnl hown0 Bw hszW
            have hszA := BA.out.size
            go_wp2_with (at_builtin; refine wpList_append_own _ rfl _ _ 55 rfl W.heap.size 57 i0 (.agg #[.int .i64 0, .int .i64 0, .int .u32 0, .int .i64 0, .int .i64 0, .int .i64 0]) 6 48 Try.underlying55 hi0 hz0 hz1 hz2 rfl (by decide) _ _ _ rfl hown1 _ _ _ ((m.drop c).flatMap Ru.cells) rfl ?c0 ?c1 ?c2 ?c3 ?c4 ?c5 ?_)
            case c0 => rw [rcells_len, HDL.out]
            case c1 => exact fun j u hu => by rw [List.drop_eq_nil_of_le (by omega)] at hu; simp at hu
            case c2 => exact rcells_one _
            case c3 => unfold maxLen; omega
            case c4 => omega
            case c5 => omega
            · intro v3 wC hown3 hgrow hnl3
              have BC := Lib.hid (BA.out.grown hgrow hszA (fun q e => (World.ownsRow.lt hown1 q e).1))
              have RF : Hid (Rules wC W.heap.size v3 (m.take i ++ m.drop c)) := Lib.hid (by
                unfold Rules
                have hle : (m.take i ++ m.drop c).length = 0 + i + (m.length - c) := by rw [List.length_append, HTL.out, HDL.out]; omega
                have hce : (m.take i ++ m.drop c).flatMap Ru.cells = [] ++ (m.take i).flatMap Ru.cells ++ (m.drop c).flatMap Ru.cells := by
                  rw [List.flatMap_append]; simp
                rw [hle, hce]
                refine ⟨by simpa using hown3, ⟨fun e => ?_, fun e => ?_⟩⟩
                · have q1 := hnl3.1 e
                  have q2 := NV.out.1 q1.1
                  omega
                · exact hnl3.2 ⟨NV.out.2 (by first | omega | exact ⟨rfl, by omega⟩), by omega⟩)
              clear hgrow hnl3 hown3 hown1 hi0 hz0 hz1 hz2 BA hszA
              rw [← HAT.out] at RF
              go_wp2
              exact bodyPost_ret (v := .tuple #[v3, .int .i64 0]) (by simp [results, Try.results25, go_sem]) rfl ⟨v3, by rw [HC.out], Row.base RF.out HB0.out, BC.out, Or.inr RF.out⟩
      · have e1 : (y.id == id) = false := by simp [hid]
        have HJ2 : Hid (∀ j z, j < i + 1 → m[j]? = some z → z.id ≠ id) := Lib.hid (fun j z hj hz => by
          rcases Nat.lt_or_ge j i with q | q
          · exact HJ.out j z q hz
          · obtain rfl : j = i := by omega
            rw [HY.out] at hz; cases hz; exact hid)
        clear hid hym
        go_wp2_with fail
        refine ⟨⟨i + 1, by first | rfl | rw [hw1], by omega, HJ2, Bw⟩, by simp [intOf] <;> omega⟩
    · obtain rfl : i = m.length := by omega
      have hno : id ∉ m.map Ru.id := fun q => by
        obtain ⟨y, hy, e⟩ := List.mem_map.1 q
        obtain ⟨j, hj⟩ := List.getElem?_of_mem hy
        have hjl : j < m.length := by
          rcases Nat.lt_or_ge j m.length with c | c
          · exact c
          · rw [List.getElem?_eq_none c] at hj; cases hj
        exact HJ.out j y hjl hj e
      have HC : Hid (tdropC m id = 3) := Lib.hid (by unfold tdropC; rw [if_neg hno])
      have HF : Hid (dropI m id = m) := Lib.hid (dropI_none hno)
      have HLD := Lib.hid (show Rules wr b0 (.slice (some ⟨g, 0, none⟩) m.length cap0) m from Row.on HL.out Bw.out)
      clear hno HJ
      go_wp2
      exact bodyPost_ret (v := .tuple #[.slice (some ⟨g, 0, none⟩) m.length cap0, .int .i64 3]) (by simp [results, Try.results25, go_sem]) rfl ⟨_, by rw [HC.out], by rw [HF.out]; exact HLD.out, Bw.out, Or.inl rfl⟩
theorem rrdrop_nil (W : World) (id : Int) : Calls Try.prog 25 #[.slice none 0 0, .int .i64 id] W fun e w' => e = .returned (.tuple #[.slice none 0 0, .int .i64 3]) ∧ W = w' := by
  go_enter Try.func25, Try.ntmps25
  go_wp2_with fail
  refine wp_loop_rounds 1 ?_
  rw [rounds_succ]
  go_wp2
  exact bodyPost_ret (v := .tuple #[.slice none 0 0, .int .i64 3]) (by simp [results, Try.results25, go_sem]) rfl ⟨rfl, rfl⟩
theorem rrdrop_any (W : World) (b0 : Nat) (l : Value) (m : List Ru) (id : Int) (hn : (m.map Ru.id).Nodup) (hl : Rules W b0 l m) (hlen : m.length ≤ 100000) (hb0 : b0 ≤ W.heap.size) :
    Calls Try.prog 25 #[l, .int .i64 id] W fun e w' => ∃ u, e = .returned (.tuple #[u, .int .i64 (tdropC m id)]) ∧ RLeft W w' b0 l u (dropI m id) := by
  cases m with
  | nil =>
    have el : l = .slice none 0 0 := hl.2.2 rfl
    subst el
    refine (rrdrop_nil W id).mono ?_
    rintro e w' ⟨rfl, rfl⟩
    exact ⟨_, rfl, hl, Below.refl _ _, Or.inl rfl⟩
  | cons y ys => exact rrdrop_some W b0 l (y :: ys) id hn hl hlen hb0 (by simp)
end Go.Proofs.Ytgcbngephokegaa
