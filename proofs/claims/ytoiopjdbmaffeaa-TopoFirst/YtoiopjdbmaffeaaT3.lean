/- The document's ends of all links. -/
import Derived.Test.YtoiopjdbmaffeaaT1
import Derived.Laws.OwnMore
import Derived.OwnWalk
import Derived.ChangeKeysEq
namespace Go.Proofs.Ytoiopjdbmaffeaa
open Go.RowKit
set_option linter.unusedVariables false

theorem part_int (xs : Array Value) (j : Nat) (x : Int) (h : xs[j]? = some (.int .i64 x)) (w : World) : (part 3 xs j).run Try.prog w = .ok (.int .i64 x) w := by
  simp [part, go_sem]
  rw [h]; rfl
theorem eq_pair (a b c d : Int) (w : World) : (Op.equalIn 10000 49 (.agg #[.int .i64 a, .int .i64 b]) (.agg #[.int .i64 c, .int .i64 d])).run Try.prog w = .ok (a == c && b == d) w := by
  obtain ⟨i, hi⟩ : ∃ i, Try.prog.info? 3 = some i := by
    cases h : Try.prog.info? 3 with
    | none => exact absurd h (by decide +kernel)
    | some i => exact ⟨i, rfl⟩
  have hu := Try.underlying3
  rw [run_equalIn_array w 9999 #[.int .i64 a, .int .i64 b] #[.int .i64 c, .int .i64 d] Try.underlying49 hi, show Try.prog.cellsOf 3 = 1 by kernel_rfl, show List.range 2 = [0, 1] from rfl]
  simp only [Op.eqItems, Sem.run_bind, part_int #[.int .i64 a, .int .i64 b] (0 * 1) a rfl, part_int #[.int .i64 c, .int .i64 d] (0 * 1) c rfl, Result.andThen_ok, run_equalIn_int _ _ _ _ _ _ _ hu]
  cases h : (a == c) with
  | false => simp
  | true =>
    simp only [Bool.not_true, Bool.false_eq_true, if_false, Sem.run_bind, part_int #[.int .i64 a, .int .i64 b] (1 * 1) b rfl, part_int #[.int .i64 c, .int .i64 d] (1 * 1) d rfl, Result.andThen_ok, run_equalIn_int _ _ _ _ _ _ _ hu]
    cases h2 : (b == d) <;> simp
def ecells (e : Int × Int) : List Value := [.int .i64 e.1, .int .i64 e.2]
theorem ends_len : ∀ ls : List Lk, (ends ls).length = 2 * ls.length
  | [] => rfl
  | l :: r => by simp [ends, ends_len r]; omega
theorem ends_app : ∀ (a b : List Lk), ends (a ++ b) = ends a ++ ends b
  | [], _ => rfl
  | l :: r, b => by simp [ends, ends_app r b]
theorem infoPair : (Try.prog.info? 49).map (fun i => (i.zero, i.size, i.bytes)) = some (some (.agg #[.int .i64 0, .int .i64 0]), 2, 16) := by kernel_rfl
theorem take_at {α : Type} {l : List α} {i : Nat} {x : α} (h : l[i]? = some x) : l.take (i + 1) = l.take i ++ [x] := by
  rw [List.take_add_one, h]; rfl
set_option maxRecDepth 100000 in
set_option maxHeartbeats 2000000 in
theorem rends_any (ls : List Lk) (pa : Option Addr) (np pc : Nat) (la : Option Addr) (lc : Nat) (aa : Option Addr) (na ac : Nat) (w : World) (hl : Rw w la (ls.flatMap Lk.cells)) (hlen : ls.length < 1000000) :
    Calls Try.prog 10 #[tv pa np pc la ls.length lc aa na ac] w fun e w' => ∃ a cap, e = .returned (.slice a (ends ls).length cap) ∧ Rw w' a ((ends ls).flatMap ecells) ∧ Below w.heap.size w w' := by
  obtain ⟨W0, hW0⟩ : ∃ W0, w.alloc (Obj.cells (tc pa np pc la ls.length lc aa na ac).toArray 26) = W0 := ⟨_, rfl⟩
  have hb0 : Below w.heap.size w W0 := by rw [← hW0]; exact cbelow_al (Below.refl _ _) _
  have T0 := Lib.hid (show Blk W0 w.heap.size (tc pa np pc la ls.length lc aa na ac) by rw [← hW0]; exact Blk.new _ _ _)
  have L0 := Lib.hid (hl.on hb0)
  have BB := Lib.hid hb0
  clear hb0 hl
  unfold tc at *
  unfold tv at *
  obtain ⟨n, hn⟩ : ∃ n, ls.length = n := ⟨_, rfl⟩
  have hel := ends_len ls
  rw [hn] at T0 hW0 hlen hel ⊢
  go_enter Try.func10, Try.ntmps10
  go_upto_region 1 with fail
  clear hW0
  go_wp2_with fail
  go_loopw [3, 4] (fun v iv wr => ∃ i : Nat, iv = .int .i64 i ∧ i ≤ n ∧ Hid (Below W0.heap.size W0 wr) ∧ Hid (wr.ownsRow W0.heap.size 49 2 v (2 * i) ((ends (ls.take i)).flatMap ecells))) (fun _ iv _ => n - (intOf iv).toNat)
  case atStart => exact ⟨0, rfl, Nat.zero_le _, Lib.hid (Below.refl _ _), Lib.hid ⟨rfl, Or.inl ⟨rfl, rfl⟩⟩⟩
  case round =>
    obtain ⟨i, rfl, hi, B1, O1⟩ := hrel
    have T1 := Lib.hid (T0.out.on B1.out)
    have L1 := Lib.hid (L0.out.on B1.out)
    clear T0 L0
    obtain ⟨t_0, t_1, t_2⟩ : _ ∧ _ ∧ _ := ⟨T1.out.1 0 _ rfl, T1.out.1 1 _ rfl, T1.out.1 2 _ rfl⟩
    by_cases hlt : i < n
    · obtain ⟨c, hc1, hc2, hc3⟩ := drop_at (l := ls) (i := i) (by omega)
      obtain ⟨bb, off, rfl⟩ := L1.out.elemAd 3 (fun _ => rfl) hc1
      have k0 : wr.cell? ⟨bb, off + i * 4, none⟩ = some (.int .i64 c.a) := L1.out.elem 4 (fun _ => rfl) hc1 0 rfl
      have k1 : wr.cell? ⟨bb, off + i * 4 + 1, none⟩ = some (.int .i64 c.b) := L1.out.elem 4 (fun _ => rfl) hc1 1 rfl
      have k2 : wr.cell? ⟨bb, off + i * 4 + 2, none⟩ = some (.int .i64 c.c) := L1.out.elem 4 (fun _ => rfl) hc1 2 rfl
      have k3 : wr.cell? ⟨bb, off + i * 4 + 3, none⟩ = some (.int .i64 c.d) := L1.out.elem 4 (fun _ => rfl) hc1 3 rfl
      have HN : Hid ((ends (ls.take (i + 1))).flatMap ecells = (ends (ls.take i)).flatMap ecells ++ [.int .i64 c.a, .int .i64 c.b, .int .i64 c.c, .int .i64 c.d]) := by
        show _ = _
        rw [take_at hc1, ends_app, List.flatMap_append]; rfl
      obtain ⟨ca, cb, cc, cd⟩ := c
      simp only at *
      clear hc1 hc2 hc3
      have hw1 : IntKind.i64.wrap ((i : Int) + 1) = (i : Int) + 1 := by rw [IntKind.wrap_i64]; omega
      go_upto_region 6 with fail
      refine at_code (S := fun W => Blk W wr.heap.size [.int .i64 ca, .int .i64 cb, .int .i64 cc, .int .i64 cd] ∧ Below wr.heap.size wr W ∧ W.ownsRow W0.heap.size 49 2 _ (2 * i) ((ends (ls.take i)).flatMap ecells)) ⟨Blk.new _ _ _, cbelow_al (Below.refl _ _) _, O1.out.alloc _⟩ (fun W2 hW => ?_)
      obtain ⟨hN, hb, hO⟩ := hW
      have B2 := Lib.hid (cbelow_on B1.out hb)
      clear hb k0 k1 k2 k3 t_0 t_1 t_2 O1
      obtain ⟨c_0, c_1, c_2, c_3⟩ : _ ∧ _ ∧ _ ∧ _ := ⟨hN.1 0 _ rfl, hN.1 1 _ rfl, hN.1 2 _ rfl, hN.1 3 _ rfl⟩
      have O2 := Lib.hid hO
      clear hN hO
      obtain ⟨i0, hi0, hz0, hz1, hz2⟩ := hinfo_parts infoPair
      have hown := O2.out
      go_wp2_with (at_builtin; refine wpList_append_own _ rfl _ _ 47 rfl W0.heap.size 49 i0 (.agg #[.int .i64 0, .int .i64 0]) 2 16 Try.underlying47 hi0 hz0 hz1 hz2 rfl (by decide) _ _ _ rfl (hown.alloc _) ⟨W2.heap.size, 0, none⟩ 2 2 [.int .i64 ca, .int .i64 cb, .int .i64 cc, .int .i64 cd] rfl rfl ?c1 ?c2 ?c3 ?c4 ?c5 ?_)
      case c1 =>
        intro j x hj
        match j, hj with
        | 0, hj => cases hj; simp [Addr.add, go_sem]
        | 1, hj => cases hj; simp [Addr.add, go_sem]
        | 2, hj => cases hj; simp [Addr.add, go_sem]
        | 3, hj => cases hj; simp [Addr.add, go_sem]
      case c2 => intro x hx; simp at hx; rcases hx with rfl | rfl | rfl | rfl <;> rfl
      case c3 => unfold maxLen; omega
      case c4 => omega
      case c5 => have := B2.out.size; simp; omega
      · intro v' w3 hown' hgrow _
        have O3 := Lib.hid hown'
        have HG := Lib.hid hgrow
        clear hown' hgrow hown
        go_wp2_with fail
        have hB3 : Below W0.heap.size W0 w3 := (cbelow_al B2.out _).grown HG.out (by have := B2.out.size; simp; omega) (fun g e => (World.ownsRow.lt O2.out g e).1)
        refine ⟨⟨i + 1, by go_num, by omega, Lib.hid hB3, ?_⟩, ?_⟩
        · show World.ownsRow _ _ _ _ _ _ _
          rw [HN.out, show 2 * (i + 1) = 2 * i + 2 by omega]
          exact O3.out
        · simp [intOf]; omega
    · obtain rfl : i = n := by omega
      rw [List.take_of_length_le (by omega)] at O1
      go_wp2
      go_ret
      have hO := O1.out
      rw [← hel] at hO
      have BF := cbelow_on BB.out B1.out
      obtain ⟨h1, ⟨h2, h3⟩ | ⟨g, cap, cur, h2, h3, h4, h5, h6, h7, h8⟩⟩ := hO
      · subst h2
        refine ⟨none, 0, by rw [h3]; rfl, fun j v hv => ?_, BF⟩
        rw [h3] at h1
        rw [List.eq_nil_of_length_eq_zero h1] at hv; cases hv
      · subst h2
        refine ⟨_, cap, rfl, fun j v hv => ⟨g, 0, rfl, ?_⟩, BF⟩
        rw [Nat.zero_add]
        have hO := O1.out
        rw [← hel] at hO
        rw [World.ownsRow.cellAt hO j (by
          rw [← h1]
          rcases Nat.lt_or_ge j ((ends ls).flatMap ecells).length with q | q
          · exact q
          · rw [List.getElem?_eq_none q] at hv; cases hv)]
        exact hv
end Go.Proofs.Ytoiopjdbmaffeaa
