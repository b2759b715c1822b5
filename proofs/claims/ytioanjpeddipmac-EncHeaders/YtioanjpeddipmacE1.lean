/- The first bits of a header, as they are set. -/
import Derived.Test.YtioanjpeddipmacAX
import Derived.Laws.OwnMore
namespace Go.Proofs.Ytioanjpeddipmac
open Go.RowKit
set_option linter.unusedVariables false

/-- The cells of bits. -/
def litCells (l : List (Int × Bool)) : List Value := l.flatMap fun p => [.int .i64 p.1, .bool p.2]
theorem litCells_append (a b : List (Int × Bool)) : litCells (a ++ b) = litCells a ++ litCells b := by unfold litCells; rw [List.flatMap_append]
theorem litCells_get : ∀ (L : List (Int × Bool)) (i : Nat) (x : Int × Bool), L[i]? = some x → (litCells L)[i * 2]? = some (.int .i64 x.1) ∧ (litCells L)[i * 2 + 1]? = some (.bool x.2)
  | [], i, x, h => by simp at h
  | y :: r, 0, x, h => by simp at h; subst h; simp [litCells]
  | y :: r, i + 1, x, h => by
    have := litCells_get r i x (by simpa using h)
    rw [show (i + 1) * 2 = i * 2 + 1 + 1 by omega, show i * 2 + 1 + 1 + 1 = (i * 2 + 1) + 1 + 1 by omega]
    simpa [litCells] using this
/-- So many bits of a header from one on. -/
def fl (d s p x y a n : Nat) : List (Nat × Bool) := (List.range n).map fun i => (a + i, bt d s p x y ((a + i : Nat) : Int))
theorem fl_len (d s p x y a n : Nat) : (fl d s p x y a n).length = n := by simp [fl]
theorem fl_succ (d s p x y a n : Nat) : fl d s p x y a (n + 1) = fl d s p x y a n ++ [(a + n, bt d s p x y ((a + n : Nat) : Int))] := by simp [fl, List.range_succ]
theorem fl_rise (d s p x y a n : Nat) (h : a + n ≤ 104) : Rise (fl d s p x y a n) := by
  constructor
  · unfold fl
    rw [List.pairwise_map]
    exact List.pairwise_lt_range.imp (fun {i j} q => by show a + i < a + j; omega)
  · intro q hq
    unfold fl at hq
    obtain ⟨i, hi, rfl⟩ := List.mem_map.1 hq
    rw [List.mem_range] at hi
    show a + i < 104
    omega
theorem natL_append (a b : List (Nat × Bool)) : natL (a ++ b) = natL a ++ natL b := by simp [natL]
/-- What lies in a row lies as bits. -/
theorem litC_of {w : World} {base : Nat} {v : Value} {l : List (Int × Bool)} {n : Nat} (h : w.ownsRow base 105 2 v n (litCells l)) (hn : n = l.length) (h0 : 0 < n) : ∃ g cap, v = .slice (some ⟨g, 0, none⟩) n cap ∧ base ≤ g ∧ g < w.heap.size ∧ LitC w g l := by
  subst hn
  rcases h.2 with ⟨e, q⟩ | ⟨g, cap, cur, e, q1, q2, q3⟩
  · omega
  · refine ⟨g, cap, e, q1, ?_, fun i x hx => ?_⟩
    · rcases Nat.lt_or_ge g w.heap.size with r | r
      · exact r
      · rw [Array.getElem?_eq_none r] at q2; cases q2
    · subst e
      have hi := lt_of_get hx
      obtain ⟨c1, c2⟩ := litCells_get l i x hx
      exact ⟨(World.ownsRow.cellAt h (i * 2) (by omega)).trans c1, (World.ownsRow.cellAt h (i * 2 + 1) (by omega)).trans c2⟩
theorem erow_on {w w' : World} {base : Nat} {t : TypeId} {sz n : Nat} {v : Value} {xs : List Value} (h : w.ownsRow base t sz v n xs) (hb : Below w.heap.size w w') : w'.ownsRow base t sz v n xs := by
  refine ⟨h.1, ?_⟩
  rcases h.2 with q | ⟨g, cap, cur, e, q1, q2, q3⟩
  · exact Or.inl q
  · have hg : g < w.heap.size := by
      rcases Nat.lt_or_ge g w.heap.size with r | r
      · exact r
      · rw [Array.getElem?_eq_none r] at q2; cases q2
    exact Or.inr ⟨g, cap, cur, e, q1, (hb.block g hg).trans q2, q3⟩
theorem erow_drew {w : World} {base : Nat} {t : TypeId} {sz n : Nat} {v : Value} {xs : List Value} (h : w.ownsRow base t sz v n xs) : w.drew.ownsRow base t sz v n xs := h
theorem infoLit : (Try.prog.info? 105).map (fun i => (i.zero, i.size, i.bytes)) = some (some (.agg #[.int .i64 0, .bool false]), 2, 16) := by kernel_rfl
theorem einfo_parts {o : Option TypeInfo} {z : Option Value} {s b : Nat} (h : o.map (fun i => (i.zero, i.size, i.bytes)) = some (z, s, b)) : ∃ i, o = some i ∧ i.zero = z ∧ i.size = s ∧ i.bytes = b := by
  cases o with
  | none => cases h
  | some i => simp at h; exact ⟨i, rfl, h.1, h.2.1, h.2.2⟩
/-- What first leaves. -/
def LitRet (w : World) (l : List (Nat × Bool)) (e : Ending) (w' : World) : Prop := ∃ v, e = .returned v ∧ Below w.heap.size w w' ∧ w'.ownsRow (w.heap.size + 1) 105 2 v l.length (litCells (natL l))
set_option maxRecDepth 100000 in
set_option maxHeartbeats 4000000 in
theorem first_any (d s p x y : Nat) (hh : HB d s p x y) (a n : Nat) (h104 : a + n ≤ 104) (w : World) :
    Calls Try.prog 32 #[hv d s p x y, .int .i64 (a : Nat), .int .i64 (n : Nat)] w (LitRet w (fl d s p x y a n)) := by
  have CB := Lib.hid (fun (i : Int) (W : World) => bit_any d s p x y i hh W)
  unfold LitRet
  go_enter Try.func32, Try.ntmps32
  go_upto_region 1 with fail
  refine at_code (S := fun W => Blk W w.heap.size [.int .u32 (d : Nat), .int .u32 (s : Nat), .int .u8 (p : Nat), .int .u16 (x : Nat), .int .u16 (y : Nat)] ∧ Below w.heap.size w W ∧ W.heap.size = w.heap.size + 1) ⟨Blk.new _ _ _, bel_al (Below.refl _ _) _, by simp⟩ (fun W1 hW => ?_)
  obtain ⟨hX, hb, hsz⟩ := hW
  have X1 := Lib.hid hX
  have B1 := Lib.hid hb
  clear hX hb
  go_wp2_with fail
  go_loopw [7, 10] (fun sv iv wr => ∃ (v : Value) (k : Nat), sv = v ∧ iv = .int .i64 (k : Nat) ∧ k ≤ n ∧ Hid (Below W1.heap.size W1 wr) ∧ Hid (wr.ownsRow (w.heap.size + 1) 105 2 v k (litCells (natL (fl d s p x y a k))))) (fun _ iv _ => n - (intOf iv).toNat)
  case atStart =>
    exact ⟨.slice none 0 0, 0, rfl, rfl, Nat.zero_le _, Lib.hid (Below.refl _ _), Lib.hid (World.ownsRow_nil _ _ _ _)⟩
  case round =>
    obtain ⟨v, k, rfl, rfl, hk, hB, hO⟩ := hrel
    have X2 := Lib.hid (X1.out.on hB.out)
    by_cases hkn : k < n
    · obtain ⟨x_0, x_1, x_2, x_3, x_4⟩ : _ ∧ _ ∧ _ ∧ _ ∧ _ := ⟨X2.out.1 0 _ rfl, X2.out.1 1 _ rfl, X2.out.1 2 _ rfl, X2.out.1 3 _ rfl, X2.out.1 4 _ rfl⟩
      have hwa : IntKind.i64.wrap ((a : Int) + (k : Int)) = ((a + k : Nat) : Int) := by rw [IntKind.wrap_i64]; omega
      have hwk : IntKind.i64.wrap ((k : Int) + 1) = ((k + 1 : Nat) : Int) := by rw [IntKind.wrap_i64]; omega
      have hki : (k : Int) < (n : Int) := by omega
      have CC := Lib.hid (fun W => CB.out ((a + k : Nat) : Int) W)
      obtain ⟨on, hon⟩ : ∃ on, bt d s p x y ((a + k : Nat) : Int) = on := ⟨_, rfl⟩
      rw [hon] at CC
      have HON := Lib.hid hon
      clear hon
      go_wp2_with fail
      refine (CC.out _).mono ?_
      rintro e w2 ⟨rfl, hb⟩
      have B2 := Lib.hid hb
      obtain ⟨i0, hi0, hz0, hz1, hz2⟩ := einfo_parts infoLit
      have hz : w.heap.size + 1 ≤ wr.heap.size := by have := hB.out.size; omega
      have hown := erow_on hO.out B2.out
      go_wp2_with (at_builtin; refine wpList_append_own _ rfl _ _ 79 rfl (w.heap.size + 1) 105 i0 (.agg #[.int .i64 0, .bool false]) 2 16 Try.underlying79 hi0 hz0 hz1 hz2 rfl (by decide) _ _ _ rfl (hown.alloc _) ⟨w2.heap.size, 0, none⟩ 1 1 [.int .i64 ((a + k : Nat) : Int), .bool on] rfl rfl ?c1 ?c2 ?c3 ?c4 ?c5 ?_)
      case c1 =>
        intro j x hj
        match j, hj with
        | 0, hj => simp at hj; subst hj; simp [Addr.add, go_sem]
        | 1, hj => simp at hj; subst hj; simp [Addr.add, go_sem]
      case c2 => intro x hx; simp at hx; rcases hx with rfl | rfl <;> rfl
      case c3 => unfold maxLen; omega
      case c4 => have := B2.out.size; omega
      case c5 => have := B2.out.size; simp; omega
      · intro v' w3 hown' hgrow _
        have HO' := Lib.hid hown'
        have HG := Lib.hid hgrow
        clear hown' hgrow hown
        go_wp2_with fail
        have hB2 : Below W1.heap.size W1 w3 := (bel_al (bel_on' hB.out B2.out) _).grown HG.out (by have := hB.out.size; have := B2.out.size; simp; omega) (fun g e => by have := (World.ownsRow.lt hO.out g e).1; omega)
        refine ⟨⟨v', k + 1, rfl, by first | rfl | rw [hwk], by omega, Lib.hid hB2, Lib.hid ?_⟩, by simp [intOf] <;> omega⟩
        rw [fl_succ, natL_append, litCells_append, HON.out]
        exact HO'.out
    · have hkn' : k = n := by omega
      subst hkn'
      go_wp2
      go_ret
      exact ⟨_, rfl, bel_on' B1.out hB.out, by rw [fl_len]; exact hO.out⟩
end Go.Proofs.Ytioanjpeddipmac
