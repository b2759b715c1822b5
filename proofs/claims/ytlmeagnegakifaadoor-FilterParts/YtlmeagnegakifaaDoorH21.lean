/- The document's ParseAddr: as the program's. -/
import Derived.Test.YtlmeagnegakifaaDoorH20
import Derived.Test.YtlmeagnegakifaaDoorH11
namespace Go.Proofs.YtlmeagnegakifaaDoor
open Go.RowKit
set_option linter.unusedVariables false

theorem mkS_list (l : List UInt8) : (mkS l).data.toList = l := by unfold mkS; simp
theorem mkS_size (l : List UInt8) : (mkS l).size = l.length := by unfold mkS; simp [ByteArray.size]
theorem mkS_of (s : ByteArray) : mkS s.data.toList = s := by unfold mkS; simp
/-- A part's cell in such a row. -/
theorem part_at {w : World} {base g cap n : Nat} {t : TypeId} {L : List (List UInt8)} (h : w.ownsRow base t 1 (.slice (some ⟨g, 0, none⟩) n cap) n (strCells L)) (hn : n = L.length) (j : Nat) (hj : j < L.length) :
    w.cell? ⟨g, j, none⟩ = some (.string (mkS L[j])) := by
  rw [World.ownsRow.cellAt h j (by omega)]
  unfold strCells
  rw [List.getElem?_map, List.getElem?_eq_getElem hj]; rfl
theorem own_on {w w' : World} {base n : Nat} {v : Value} {t : TypeId} {xs : List Value} (h : w.ownsRow base t 1 v n xs) (hb : Below w.heap.size w w') : w'.ownsRow base t 1 v n xs := by
  obtain ⟨h1, h2 | ⟨g, cap, cur, h2, h3, h4, rest⟩⟩ := h
  · exact ⟨h1, Or.inl h2⟩
  · exact ⟨h1, Or.inr ⟨g, cap, cur, h2, h3, (hb.block g (Array.getElem?_eq_some_iff.1 h4).1).trans h4, rest⟩⟩
set_option maxHeartbeats 4000000 in
theorem rpaddr_any (s : ByteArray) (hs : s.size ≤ 300) (w : World) :
    Calls Tryd.prog 19 #[.string s] w (ARet (parseA s.data.toList) w) := by
  have HSp := Lib.hid (rsplit_any 46 s hs w)
  have hsl : s.data.toList.length ≤ 300 := by rw [Array.length_toList]; exact hs
  have HLn := Lib.hid (fun x hx => Nat.le_trans (sp_part 46 s.data.toList x hx) hsl)
  obtain ⟨hl1, hl2⟩ := sp_len 46 s.data.toList
  obtain ⟨T, hT⟩ : ∃ T, parseA s.data.toList = T := ⟨_, rfl⟩
  rw [hT]
  unfold parseA at hT
  unfold RSplitRet at HSp
  generalize sp 46 s.data.toList = L at *
  have HT := Lib.hid hT
  clear hT
  go_enter Tryd.func19, Tryd.ntmps19
  go_wp2_with fail
  refine HSp.out.mono ?_
  rintro e w1 ⟨v, rfl, hb, ho⟩
  obtain ⟨g, cap, rfl, hgb, hcap, -⟩ := own_form ho hl1
  have HB := Lib.hid hb
  have HO := Lib.hid ho
  clear hb ho HSp
  by_cases c : L.length = 4
  · have HP : Hid (pgo L 0 = T) := by
      have h := HT.out
      rw [if_pos c] at h
      exact h
    have C := Lib.hid c
    have hcap4 : 4 ≤ cap := by omega
    rw [c] at HO ⊢
    clear c HT hcap hl1 hl2
    go_wp2_with fail
    go_loopw [5, 6] (fun av iv wr => ∃ j a : Nat, iv = .int .i64 j ∧ av = .int .u32 a ∧ j ≤ 4 ∧ a < 256 ^ j ∧ pgo (L.drop j) a = T ∧ w1 = wr) (fun _ iv _ => 4 - (intOf iv).toNat)
    case atStart => exact ⟨0, 0, rfl, rfl, by omega, by decide, HP.out, rfl⟩
    case round =>
      obtain ⟨j, a, rfl, rfl, hj, ha, hp, rfl⟩ := hrel
      have HPj := Lib.hid hp
      clear hp HP
      by_cases hlt : j < 4
      · have hjl : j < L.length := by have := C.out; omega
        have hcell := part_at HO.out C.out.symm j hjl
        have hxs := HLn.out L[j] (List.getElem_mem hjl)
        obtain ⟨p, hp⟩ : ∃ p, L[j] = p := ⟨_, rfl⟩
        rw [hp] at hcell hxs
        have ha24 : a < 16777216 := by
          have : 256 ^ j ≤ 256 ^ 3 := Nat.pow_le_pow_right (by omega) (by omega)
          omega
        obtain ⟨z1, z2⟩ := nz_le 255 p
        have hN := rnum_any (mkS p) 255 (by omega) (by rw [mkS_size]; unfold maxLen; omega) w1
        rw [mkS_list] at hN
        have HN := Lib.hid hN
        have HPc : Hid ((if (nz 255 p).2 = 0 then pgo (L.drop (j + 1)) (a * 256 + (nz 255 p).1) else (0, (nz 255 p).2)) = T) := by
          have h := HPj.out
          rw [List.drop_eq_getElem_cons hjl, hp, pgo_cons] at h
          exact h
        clear hN
        generalize nz 255 p = z at *
        obtain ⟨n, er⟩ := z
        simp only at z1 z2 HN HPc
        have HA : Hid (a * 256 + n < 256 ^ (j + 1)) := by show _ < _; rw [Nat.pow_succ]; omega
        clear hp HPj
        by_cases ce : er = 0
        · subst ce
          have HPn : Hid (pgo (L.drop (j + 1)) (a * 256 + n) = T) := by have h := HPc.out; rw [if_pos rfl] at h; exact h
          go_wp2_with fail
          refine HN.out.mono ?_
          rintro e w2 ⟨rfl, rfl⟩
          clear HN
          go_wp2_with fail
          refine ⟨⟨j + 1, a * 256 + n, by go_num, by go_num, by omega, HA.out, HPn.out, by trivial⟩, ?_⟩
          simp [intOf]; omega
        · have HTe : Hid (T = (0, er)) := by have h := HPc.out; rw [if_neg ce] at h; exact h.symm
          have ce1 : (er != 0) = true := by simp; exact ce
          go_wp2_with fail
          refine HN.out.mono ?_
          rintro e w2 ⟨rfl, rfl⟩
          clear HN
          go_wp2
          refine bodyPost_ret (v := .tuple #[.int .u32 0, .int .i64 er]) (by simp [results, Tryd.results19, go_sem]) rfl ⟨?_, HB.out⟩
          rw [HTe.out]; rfl
      · have hge : ¬ (j : Int) < 4 := by omega
        have HTa : Hid (T = (a, 0)) := by
          have h := HPj.out
          rw [List.drop_eq_nil_of_le (by have := C.out; omega)] at h
          exact h.symm
        go_wp2
        refine bodyPost_ret (v := .tuple #[.int .u32 a, .int .i64 0]) (by simp [results, Tryd.results19, go_sem]) rfl ⟨?_, HB.out⟩
        rw [HTa.out]
  · have HT6 : Hid (T = (0, 6)) := by
      have h := HT.out
      rw [if_neg c] at h
      exact h.symm
    have c1 : ((L.length : Int) != 4) = true := by simp; omega
    go_wp2
    refine bodyPost_ret (v := .tuple #[.int .u32 0, .int .i64 6]) (by simp [results, Tryd.results19, go_sem]) rfl ⟨?_, HB.out⟩
    rw [HT6.out]; rfl
end Go.Proofs.YtlmeagnegakifaaDoor
