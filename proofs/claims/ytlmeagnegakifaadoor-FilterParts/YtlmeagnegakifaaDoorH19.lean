/- What split and ParseAddr answer. -/
import Derived.Test.YtlmeagnegakifaaDoorHS
import Derived.Test.YtlmeagnegakifaaDoorH3
import Derived.Test.YtlmeagnegakifaaDoorH17
import Derived.Lib.EndianBits
namespace Go.Proofs.YtlmeagnegakifaaDoor
open Go.RowKit
set_option linter.unusedVariables false

/-- Block g holds these texts, from its first cell on. -/
def Strs (w : World) (g : Nat) (L : List ByteArray) : Prop := ∀ j x, L[j]? = some x → w.cell? ⟨g, j, none⟩ = some (.string x)
theorem Strs.on {w w' : World} {g : Nat} {L : List ByteArray} (h : Strs w g L) (hg : g < w.heap.size) (hb : Below w.heap.size w w') : Strs w' g L := fun j x hx =>
  (hb.cell (p := ⟨g, j, none⟩) hg).trans (h j x hx)
/-- What split leaves. -/
def SplitRet (c : UInt8) (m : Nat) (s : ByteArray) (w : World) (e : Ending) (w' : World) : Prop :=
  ∃ (g cap : Nat) (L : List ByteArray), e = .returned (.slice (some ⟨g, 0, none⟩) L.length cap) ∧ g < w'.heap.size ∧ Strs w' g L ∧ Below w.heap.size w w' ∧ L.length ≤ cap ∧ (∀ x ∈ L, x.size ≤ s.size) ∧
    ((sp c s.data.toList).length = m → L.map (·.data.toList) = sp c s.data.toList) ∧ (L.length = m ↔ (sp c s.data.toList).length = m)
theorem splitB_size (sep : ByteArray) : ∀ (k : Nat) (s x : ByteArray), x ∈ Lib.splitB sep 0 k s → x.size ≤ s.size
  | 0, s, x, h => by simp [Lib.splitB] at h; subst h; exact Nat.le_refl _
  | k + 1, s, x, h => by
    rw [Lib.splitB] at h
    split at h
    · simp at h; subst h; exact Nat.le_refl _
    · rcases List.mem_cons.1 h with rfl | h
      · simp; omega
      · have := splitB_size sep k _ x h
        simp at this; omega
set_option maxHeartbeats 1000000 in
theorem split_any (c : UInt8) (m : Nat) (hm : 1 ≤ m) (hm' : m ≤ 1000) (s : ByteArray) (hs : s.size < 4294967281) (w : World) (ht : Mxl w) :
    Calls Tryd.prog 47 #[.string s, .string ⟨#[c]⟩, .int .i64 m] w (SplitRet c m s w) := by
  obtain ⟨mx, hmx⟩ := ht
  have hS := fun w hmx => Tryd.strings_SplitN s ⟨#[c]⟩ (m + 1) mx w hs hmx (Nat.le_refl 1) (by omega) (by omega)
  have HS := Lib.hid (hS w hmx)
  clear hS hmx
  go_enter Tryd.func47, Tryd.ntmps47
  go_wp2_with fail
  rw [show (m : Int) + 1 = ((m + 1 : Nat) : Int) by omega]
  refine HS.out.mono ?_
  rintro e w' ⟨rfl, rfl⟩
  obtain ⟨L, hL⟩ : ∃ L, Lib.splitB ⟨#[c]⟩ 0 (min (m + 1) (s.size + 1) - 1) s = L := ⟨_, rfl⟩
  rw [hL]
  obtain ⟨N, hN⟩ : ∃ N, min (m + 1) (s.size + 1) = N := ⟨_, rfl⟩
  rw [hN]
  have HL := Lib.hid hL
  have HN := Lib.hid hN
  clear hL HS hN
  go_wp2
  go_ret
  have hd := Lib.splitB_data ⟨#[c]⟩ 0 (min (m + 1) (s.size + 1) - 1) s
  have hz : s.data.toList.length = s.size := by rw [Array.length_toList]; rfl
  have hk := splitN_sp c m s.data.toList hm
  rw [hz] at hk
  rw [HL.out] at hd
  have hd' : L.map (·.data.toList) = Lib.splitK [c] 0 (min (m + 1) (s.size + 1) - 1) s.data.toList := hd
  have hlen : L.length = min (m + 1) (sp c s.data.toList).length := by rw [← hk.1, ← hd', List.length_map]
  have hle := Lib.splitB_length_le ⟨#[c]⟩ 0 (min (m + 1) (s.size + 1) - 1) s
  rw [HL.out] at hle
  have hNo := HN.out
  refine ⟨w.heap.size, N, L, rfl, by simp, ?_, below_al (Below.refl _ _) _, by omega, fun x hx => splitB_size _ _ s x (by rw [HL.out]; exact hx), fun h => ?_, by omega⟩
  · intro j x hx
    have hj : j < L.length := by
      rcases Nat.lt_or_ge j L.length with h1 | h1
      · exact h1
      · rw [List.getElem?_eq_none h1] at hx; cases hx
    have : (Lib.cellsOf L N)[j]? = some (.string x) := by
      unfold Lib.cellsOf
      rw [List.getElem?_toArray, List.getElem?_append_left (by simpa using hj), List.getElem?_map, hx]; rfl
    simp [go_sem]
    exact this
  · rw [hd', hk.2 (by omega)]
theorem pgo_cons (p : List UInt8) (r : List (List UInt8)) (a : Nat) : pgo (p :: r) a = if (nz 255 p).2 = 0 then pgo r (a * 256 + (nz 255 p).1) else (0, (nz 255 p).2) := rfl
theorem shl_or (a n : Nat) (ha : a < 16777216) (hn : n < 256) : bits .or .u32 ((a : Int) * 256) (n : Int) = ((a * 256 + n : Nat) : Int) := by
  have hw : ∀ x : Int, 0 ≤ x → x < 2 ^ 32 → IntKind.u32.wrap x = x := fun x h0 h1 => by rw [IntKind.wrap_u32]; omega
  rw [bits_join .u32 32 (by decide) hw 8 ((a : Int) * 256) n (by omega) (by omega) (by omega) (by omega) (by omega) (by omega)]
  omega
def ARet (T : Nat × Int) (w : World) (e : Ending) (w' : World) : Prop := e = .returned (.tuple #[.int .u32 T.1, .int .i64 T.2]) ∧ Below w.heap.size w w'
set_option maxHeartbeats 4000000 in
theorem paddr_any (s : ByteArray) (hs : s.size < 4294967281) (w : World) (ht : Mxl w) :
    Calls Tryd.prog 13 #[.string s] w (ARet (parseA s.data.toList) w) := by
  have HSp := Lib.hid (split_any 46 4 (by omega) (by omega) s hs w ht)
  obtain ⟨T, hT⟩ : ∃ T, parseA s.data.toList = T := ⟨_, rfl⟩
  rw [hT]
  have HT := Lib.hid hT
  clear hT ht
  go_enter Tryd.func13, Tryd.ntmps13
  go_wp2_with fail
  refine HSp.out.mono ?_
  rintro e w1 ⟨g, cap, L, rfl, hg, hS, hb, hcap, hsz, h4, h4'⟩
  have HB := Lib.hid hb
  have HS := Lib.hid hS
  have HZ := Lib.hid hsz
  clear hb hS hsz HSp
  by_cases c : L.length = 4
  · have HP : Hid (pgo (L.map (·.data.toList)) 0 = T) := by
      have h1 := h4'.1 c
      show _ = _
      rw [h4 h1, ← HT.out, parseA, if_pos h1]
    rw [c]
    have C := Lib.hid c
    have hcap4 : 4 ≤ cap := by omega
    clear h4 h4' c HT hcap
    go_wp2_with fail
    go_loopw [5, 17] (fun av iv wr => ∃ j a : Nat, iv = .int .i64 j ∧ av = .int .u32 a ∧ j ≤ 4 ∧ a < 256 ^ j ∧ pgo ((L.drop j).map (·.data.toList)) a = T ∧ Below w1.heap.size w1 wr) (fun _ iv _ => 4 - (intOf iv).toNat)
    case atStart => exact ⟨0, 0, rfl, rfl, by omega, by decide, HP.out, Below.refl _ _⟩
    case round =>
      obtain ⟨j, a, rfl, rfl, hj, ha, hp, hbr⟩ := hrel
      have HPj := Lib.hid hp
      have HBr := Lib.hid hbr
      clear hp hbr HP
      by_cases hlt : j < 4
      · have hjl : j < L.length := by have := C.out; omega
        obtain ⟨x, hx⟩ : ∃ x, L[j] = x := ⟨_, rfl⟩
        have hgx : L[j]? = some x := by rw [List.getElem?_eq_getElem hjl, hx]
        have hcell := (HS.out.on hg HBr.out) j x hgx
        have hxs := HZ.out x (by rw [← hx]; exact List.getElem_mem hjl)
        have ha24 : a < 16777216 := by
          have : 256 ^ j ≤ 256 ^ 3 := Nat.pow_le_pow_right (by omega) (by omega)
          omega
        obtain ⟨z1, z2⟩ := nz_le 255 x.data.toList
        have HN := Lib.hid (number_any x 255 (by omega) (by unfold maxLen; omega) wr)
        have HPc : Hid ((if (nz 255 x.data.toList).2 = 0 then pgo ((L.drop (j + 1)).map (·.data.toList)) (a * 256 + (nz 255 x.data.toList).1) else (0, (nz 255 x.data.toList).2)) = T) := by
          have h := HPj.out
          rw [List.drop_eq_getElem_cons hjl, hx, List.map_cons, pgo_cons] at h
          exact h
        generalize nz 255 x.data.toList = z at *
        obtain ⟨n, er⟩ := z
        simp only at z1 z2 HN HPc
        have HA : Hid (a * 256 + n < 256 ^ (j + 1)) := by show _ < _; rw [Nat.pow_succ]; omega
        have hso := shl_or a n ha24 (by omega)
        have HSO := Lib.hid hso
        clear hso hx hgx HPj
        by_cases ce : er = 0
        · subst ce
          have HPn : Hid (pgo ((L.drop (j + 1)).map (·.data.toList)) (a * 256 + n) = T) := by have h := HPc.out; rw [if_pos rfl] at h; exact h
          go_wp2_with fail
          refine HN.out.mono ?_
          rintro e w2 ⟨rfl, hb2⟩
          have HB2 := Lib.hid (below_on HBr.out hb2)
          clear hb2 HN
          go_wp2_with fail
          refine ⟨⟨j + 1, a * 256 + n, by go_num, by rw [HSO.out], by omega, HA.out, HPn.out, HB2.out⟩, ?_⟩
          simp [intOf]; omega
        · have HTe : Hid (T = (0, er)) := by have h := HPc.out; rw [if_neg ce] at h; exact h.symm
          have ce1 : (er != 0) = true := by simp; exact ce
          go_wp2_with fail
          refine HN.out.mono ?_
          rintro e w2 ⟨rfl, hb2⟩
          have HB2 := Lib.hid (below_on (below_on HB.out HBr.out) hb2)
          clear hb2 HN
          go_wp2
          refine bodyPost_ret (v := .tuple #[.int .u32 0, .int .i64 er]) (by simp [results, Tryd.results13, go_sem]) rfl ⟨?_, HB2.out⟩
          rw [HTe.out]; rfl
      · have hge : ¬ (j : Int) < 4 := by omega
        have HTa : Hid (T = (a, 0)) := by
          have h := HPj.out
          rw [List.drop_eq_nil_of_le (by have := C.out; omega)] at h
          exact h.symm
        go_wp2
        refine bodyPost_ret (v := .tuple #[.int .u32 a, .int .i64 0]) (by simp [results, Tryd.results13, go_sem]) rfl ⟨?_, below_on HB.out HBr.out⟩
        rw [HTa.out]
  · have HT6 : Hid (T = (0, 6)) := by
      show _ = _
      rw [← HT.out, parseA, if_neg (fun h => c (h4'.2 h))]
    have c1 : ((L.length : Int) != 4) = true := by simp; omega
    clear h4 h4'
    go_wp2
    refine bodyPost_ret (v := .tuple #[.int .u32 0, .int .i64 6]) (by simp [results, Tryd.results13, go_sem]) rfl ⟨?_, HB.out⟩
    rw [HT6.out]; rfl
end Go.Proofs.YtlmeagnegakifaaDoor
