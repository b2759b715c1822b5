/- The blocks of a range of ports. -/
import Derived.Test.YtlmeagnegakifaaDoorC4
import Derived.Laws.OwnMore
namespace Go.Proofs.YtlmeagnegakifaaDoor
open Go.RowKit
set_option linter.unusedVariables false

/-- The cells of blocks. -/
def blkCells : List (Nat × Nat) → List Value
  | [] => []
  | x :: r => .int .u16 x.1 :: .int .i64 (16 - (x.2 : Int)) :: blkCells r
theorem blkCells_append : ∀ a b, blkCells (a ++ b) = blkCells a ++ blkCells b
  | [], _ => rfl
  | x :: r, b => by simp [blkCells, blkCells_append r b]
theorem blkCells_length : ∀ a, (blkCells a).length = a.length * 2
  | [] => rfl
  | x :: r => by simp [blkCells, blkCells_length r]; omega
theorem blkCells_get : ∀ (L : List (Nat × Nat)) (i : Nat) (x : Nat × Nat), L[i]? = some x → (blkCells L)[i * 2]? = some (.int .u16 x.1) ∧ (blkCells L)[i * 2 + 1]? = some (.int .i64 (16 - (x.2 : Int)))
  | [], i, x, h => by simp at h
  | y :: r, 0, x, h => by simp at h; subst h; simp [blkCells]
  | y :: r, i + 1, x, h => by
    have := blkCells_get r i x (by simpa using h)
    rw [show (i + 1) * 2 = i * 2 + 1 + 1 by omega, show i * 2 + 1 + 1 + 1 = (i * 2 + 1) + 1 + 1 by omega]
    simpa [blkCells] using this
/-- The slice v holds these blocks, in a row of the call's own. -/
def Blks (w : World) (base : Nat) (v : Value) (L : List (Nat × Nat)) : Prop := w.ownsRow base 97 2 v L.length (blkCells L)
theorem cinfo_parts {o : Option TypeInfo} {z : Option Value} {s b : Nat} (h : o.map (fun i => (i.zero, i.size, i.bytes)) = some (z, s, b)) : ∃ i, o = some i ∧ i.zero = z ∧ i.size = s ∧ i.bytes = b := by
  cases o with
  | none => cases h
  | some i => simp at h; exact ⟨i, rfl, h.1, h.2.1, h.2.2⟩
theorem infoBlk : (Tryd.prog.info? 97).map (fun i => (i.zero, i.size, i.bytes)) = some (some (.agg #[.int .u16 0, .int .i64 0]), 2, 16) := by kernel_rfl
/-- What Blocks leaves. -/
def BlksRet (w : World) (L : List (Nat × Nat)) (e : Ending) (w' : World) : Prop := ∃ v, e = .returned v ∧ Below w.heap.size w w' ∧ Blks w' w.heap.size v L
theorem done_len {d : List (Nat × Nat)} {f low e : Nat} {L : List (Nat × Nat)} (h : d ++ blks f low e = L) (hL : L.length ≤ 32) : d.length ≤ 32 := by
  rw [← h, List.length_append] at hL; omega
set_option maxHeartbeats 4000000 in
theorem blocks_any (l h : Nat) (hl : l < 65536) (hh : h < 65536) (w : World) (ht : DbTab w) :
    Calls Tryd.prog 55 #[.agg #[.int .u16 l, .int .u16 h]] w (BlksRet w (blks (h + 1 - l) l (h + 1))) := by
  have hL32 := blks_len l (h + 1) (by omega)
  obtain ⟨L, hL⟩ : ∃ L, blks (h + 1 - l) l (h + 1) = L := ⟨_, rfl⟩
  rw [hL] at hL32 ⊢
  have HL := Lib.hid hL
  have HT := Lib.hid ht
  clear hL ht
  go_enter Tryd.func55, Tryd.ntmps55
  go_wp2_with fail
  go_quiet (fail)
  go_wp2_with fail
  go_loopw [3, 4] (fun v lv wr => ∃ (low f : Nat) (d : List (Nat × Nat)), lv = .int .u32 low ∧ low ≤ 65536 ∧ d ++ blks f low (h + 1) = L ∧ h + 1 - low ≤ f ∧ Below w.heap.size w wr ∧ w.heap.size < wr.heap.size ∧ Blks wr (w.heap.size + 1) v d) (fun _ lv _ => h + 1 - (intOf lv).toNat)
  case atStart =>
    refine ⟨l, h + 1 - l, [], rfl, by omega, by simpa using HL.out, Nat.le_refl _, below_drewN (cbelow_al (Below.refl _ _) _) _, by simp, ?_⟩
    exact World.ownsRow_nil _ _ _ _
  case round =>
    obtain ⟨low, f, d, rfl, hlow, hd, hf, hB, hsz, hO⟩ := hrel
    have hd32 := done_len hd hL32
    have HD := Lib.hid hd
    have HB := Lib.hid hB
    have HO := Lib.hid hO
    clear hd hB hO HL
    by_cases hlt : low < h + 1
    · obtain ⟨f', e1, e2⟩ := blks_on f low (h + 1) hlt hf
      obtain ⟨r, hr⟩ : ∃ r, h + 1 - low = r := ⟨_, rfl⟩
      obtain ⟨k1, k2, k3, k4, k5⟩ := fr_spec low (h + 1 - low) (by omega) (by omega) (by omega)
      have hF := fun w ht => free_any low (h + 1 - low) (by omega) (by omega) (by omega) w ht
      simp only [hr] at hF k1 k3 e1 e2
      obtain ⟨k, hk⟩ : ∃ k, fr low r = k := ⟨_, rfl⟩
      simp only [hk] at hF k1 k3 e1 e2
      have hp16 := pow16 k1
      have hpos := Nat.pow_pos (n := k) (show 0 < 2 by decide)
      have E1 := Lib.hid e1
      have HF := Lib.hid hF
      have hrI : (h : Int) + 1 - (low : Int) = (r : Int) := by omega
      have hlI : (low : Int) < (h : Int) + 1 := by omega
      have hl16 : low < 65536 := by omega
      obtain ⟨q, hq⟩ : ∃ q, 2 ^ k = q := ⟨_, rfl⟩
      have hqI : (2 : Int) ^ k = (q : Int) := by rw [← hq]; exact (Int.natCast_pow 2 k).symm
      rw [hq] at e2 hp16 hpos k3
      have HQ := Lib.hid hq
      clear e1 hF hq hk hr k2 k4 k5
      go_wp2_with fail
      refine (HF.out _ (HT.out.on HB.out)).mono ?_
      rintro e w' ⟨rfl, rfl⟩
      obtain ⟨i0, hi0, hz0, hz1, hz2⟩ := cinfo_parts infoBlk
      have hown := HO.out
      unfold Blks at hown
      have hz := HB.out.size
      go_wp2_with (at_builtin; refine wpList_append_own _ rfl _ _ 94 rfl (w.heap.size + 1) 97 i0 (.agg #[.int .u16 0, .int .i64 0]) 2 16 Tryd.underlying94 hi0 hz0 hz1 hz2 rfl (by decide) _ _ _ rfl (hown.alloc _) ⟨wr.heap.size, 0, none⟩ 1 1 [.int .u16 low, .int .i64 (16 - (k : Int))] rfl rfl ?c1 ?c2 ?c3 ?c4 ?c5 ?_)
      case c1 =>
        intro j x hj
        match j, hj with
        | 0, hj => simp at hj; subst hj; simp [Addr.add, go_sem]
        | 1, hj => simp at hj; subst hj; simp [Addr.add, go_sem]
      case c2 => intro x hx; simp at hx; rcases hx with rfl | rfl <;> rfl
      case c3 => unfold maxLen; omega
      case c4 => omega
      case c5 => simp; omega
      · intro v' w2 hown' hgrow _
        have HO' := Lib.hid hown'
        have HG := Lib.hid hgrow
        clear hown' hgrow hown
        go_wp2_with fail
        have hB2 : Below w.heap.size w w2 := (cbelow_al HB.out _).grown HG.out (by simp; omega) (fun g e => by have := (World.ownsRow.lt HO.out g e).1; omega)
        refine ⟨⟨low + q, f', d ++ [(low, k)], by go_num, by omega, ?_, e2, hB2, ?_, ?_⟩, ?_⟩
        · rw [List.append_assoc, List.singleton_append, ← HQ.out, ← E1.out]; exact HD.out
        · have := HG.out.size
          simp at this
          omega
        · unfold Blks
          rw [List.length_append, blkCells_append]
          exact HO'.out
        · simp [intOf]; omega
    · have hge : ¬ (low : Int) < (h : Int) + 1 := by omega
      have HE : Hid (d = L) := by
        have h1 := HD.out
        rw [blks_end f low (h + 1) hlt, List.append_nil] at h1
        exact h1
      go_wp2
      go_ret
      refine ⟨_, rfl, HB.out, ?_⟩
      rw [← HE.out]
      have h1 := HO.out
      obtain ⟨h2, h3 | ⟨g, cap, cur, h3, h4, h5⟩⟩ := h1
      · exact ⟨h2, Or.inl h3⟩
      · exact ⟨h2, Or.inr ⟨g, cap, cur, h3, by omega, h5⟩⟩
/-- What is in such a slice. -/
theorem Blks.cellAt {w : World} {base : Nat} {v : Value} {L : List (Nat × Nat)} (h : Blks w base v L) (i : Nat) (x : Nat × Nat) (hx : L[i]? = some x) :
    ∃ g cap, v = .slice (some ⟨g, 0, none⟩) L.length cap ∧ base ≤ g ∧ g < w.heap.size ∧ w.cell? ⟨g, i * 2, none⟩ = some (.int .u16 x.1) ∧ w.cell? ⟨g, i * 2 + 1, none⟩ = some (.int .i64 (16 - (x.2 : Int))) := by
  have hi : i < L.length := by
    rcases Nat.lt_or_ge i L.length with h1 | h1
    · exact h1
    · rw [List.getElem?_eq_none h1] at hx; cases hx
  have hh := h
  obtain ⟨h1, ⟨h2, h3⟩ | ⟨g, cap, cur, h2, h3, h4, h5, h6, h7, h8⟩⟩ := h
  · omega
  · subst h2
    obtain ⟨c0, c1⟩ := blkCells_get L i x hx
    exact ⟨g, cap, rfl, h3, (Array.getElem?_eq_some_iff.1 h4).1, (World.ownsRow.cellAt hh (i * 2) (by omega)).trans c0, (World.ownsRow.cellAt hh (i * 2 + 1) (by omega)).trans c1⟩
theorem Blks.form {w : World} {base : Nat} {v : Value} {L : List (Nat × Nat)} (h : Blks w base v L) : ∃ a cap, v = .slice a L.length cap ∧ L.length ≤ cap := by
  obtain ⟨h1, ⟨h2, h3⟩ | ⟨g, cap, cur, h2, h3, h4, h5, h6, h7, h8⟩⟩ := h
  · exact ⟨none, 0, by rw [h2, h3], by rw [h3]; exact Nat.le_refl _⟩
  · exact ⟨_, cap, h2, h5⟩
theorem Blks.on {w w' : World} {base : Nat} {v : Value} {L : List (Nat × Nat)} (h : Blks w base v L) (hb : Below w.heap.size w w') : Blks w' base v L := by
  obtain ⟨h1, h2 | ⟨g, cap, cur, h2, h3, h4, rest⟩⟩ := h
  · exact ⟨h1, Or.inl h2⟩
  · exact ⟨h1, Or.inr ⟨g, cap, cur, h2, h3, (hb.block g (Array.getElem?_eq_some_iff.1 h4).1).trans h4, rest⟩⟩
end Go.Proofs.YtlmeagnegakifaaDoor
