/- maps.Values of a map of rules: its iterator gives each rule once. -/
import Derived.Test.YtgcbngephokegaaT11
import Derived.Test.YtgcbngephokegaaIter
namespace Go.Proofs.Ytgcbngephokegaa
open Go.RowKit Go.Maps Go.MapKept Go.ChangeMaps Go.WideElems Go.Joins Go.Sort Go.Shelf Go.WideShapes
set_option linter.unusedVariables false
set_option linter.unusedSimpArgs false

abbrev valsF (w : World) : Value := .func (.func 73) #[] #[.pointer (some ⟨w.heap.size, 0, none⟩)]
theorem values_any (mb : Option Nat) (w : World) : Calls Try.prog 58 #[.map mb] w fun e w' => e = .returned (valsF w) ∧ w.alloc (.cells #[.map mb] 106) = w' := by
  go_enter Try.func58, Try.ntmps58
  go_wp2
  go_ret
  exact ⟨rfl, rfl⟩
/-- All rules of a list, each once. -/
def AllOnce (R rs : List Ru) : Prop := rs.Nodup ∧ ∀ r, r ∈ rs ↔ r ∈ R
set_option maxRecDepth 100000 in
set_option maxHeartbeats 1000000 in
theorem values1_in (F : Fence) (n : Nat) (hf : F.fn 73) (hro : F.round = none) (hn : 1 ≤ n) (l Bm b : Nat) (R : List Ru) (hR : (R.map Ru.id).Nodup) (J : List Ru → World → Prop)
    (hY : ∀ pre x W, J pre W → pre.length < R.length → YieldAt F (n - 1) Try.prog l #[rv x] W fun e W' => e = .returned (.bool true) ∧ J (pre ++ [x]) W' ∧ KeepsWalks W W')
    (W : World) (hJ : AbidesFrom W.heap.size J) (hm : W.cell? ⟨Bm, 0, none⟩ = some (.map (some b))) (hM : RMap W (some b) R) (h0 : J [] W) :
    CallsIn F n Try.prog 73 #[.func (.yield l) #[] #[], .pointer (some ⟨Bm, 0, none⟩)] W fun e W' => (∃ v, e = .returned v) ∧ ∃ rs : List Ru, AllOnce R rs ∧ J rs W' := by
  obtain ⟨D0, hown, hsz, hnd, hin, hhas, hat0⟩ := val_owns (keyedInt) Try.underlying3 (show MapV Try.prog 3 zK (fun x : Ru => rv x) W b (ruL R) from hM)
  have hlen : (ruL R).length = R.length := by unfold ruL; rw [List.length_map]
  rw [hlen] at hown hsz
  have HIN := Lib.hid hin
  have HHAS := Lib.hid hhas
  have HAT := Lib.hid hat0
  have HND := Lib.hid hnd
  clear hin hhas hat0 hnd hM
  refine callsIn_of_wp Try.func73 rfl hf ?_ hro
  simp only [Try.ntmps73, List.size_toArray, List.length_cons, List.length_nil, Nat.reduceAdd, Nat.reduceSub, Array.replicate_succ, Array.replicate_zero, List.push_toArray, List.append_toArray, List.nil_append, List.cons_append]
  gi_wp2_with (first
    | (gi_at_range; refine wpListIn_range_own _ rfl _ 106 rfl 3 57 keyedInt Try.underlying106 _ b R.length _ rfl hown ?_; intro w0 hrg0 hg0 hs0)
    | gi_in)
  go_frame
  gi_loopw [4] (fun _ wr => ∃ (left : Lit → Bool) (cnt : Nat) (ps : List Ru), wr.ranges Try.prog 3 heldElem b W.heap.size R.length D0 left cnt ∧ ps.length + cnt ≤ Maps.size D0 ∧ CollectedI D0 left (ps.map Ru.id) ∧ (∀ p ∈ ps, p ∈ R) ∧ J ps wr)
    (fun _ wr => wr.rangeLeft b W.heap.size)
  case atStart =>
    exact ⟨_, _, [], hrg0, by simp, CollectedI.start D0, fun p hp => (by cases hp), hJ [] W w0 none h0 hg0 (fun r e => by cases e)⟩
  case round =>
    obtain ⟨left, cnt, ps, hrg, hcs, hC, hps, hJs⟩ := hrel
    gi_wp2_with (first
      | (gi_at_next; refine wpListIn_next_ranges _ rfl _ rfl 3 keyedInt heldElem encZ id (fun key kl hk => by obtain ⟨x, hx, _⟩ := Maps.keyOf_i64 Try.underlying3 hk; exact ⟨x, hx⟩) (fun v _ _ => ⟨v, rfl⟩) b W.heap.size R.length _ _ _ rfl hrg ?_ ?_)
      | gi_in)
    · intro hc0 hl0
      gi_wp2
      go_end0
      have hp := hC.perm hown keyedInt Try.underlying3 hl0
      refine ⟨⟨_, rfl⟩, ps, ⟨List.Pairwise.of_map (S := fun a b => a ≠ b) (f := Ru.id) (fun a b h e => h (congrArg _ e)) hC.1, fun r => ⟨hps r, fun hr => ?_⟩⟩, hJs⟩
      have h1 : r.id ∈ ps.map Ru.id := hp.mem_iff.2 ((HIN.out r.id).2 (by rw [ruL_keys]; exact List.mem_map.2 ⟨r, hr, rfl⟩))
      obtain ⟨s, hs, e⟩ := List.mem_map.1 h1
      rw [← id_inj hR (hps s hs) hr e]; exact hs
    · intro x c kl yd yp w2 cnt2 hkey hlk hv hat hrg2 hlt hg2 hs2 hen
      obtain ⟨x', ex, rfl, _⟩ := Maps.keyOf_i64 Try.underlying3 hkey
      obtain rfl : x = x' := encZ_inj ex
      obtain ⟨rfl, -⟩ : DataW.held c = yd ∧ [] = yp := by
        have := Option.some.inj hv
        exact ⟨congrArg Prod.fst this, congrArg Prod.snd this⟩
      obtain ⟨r, hr, hrx, hcr⟩ : ∃ r ∈ R, r.id = x ∧ c = rv r := by
        have h1 := HHAS.out x (has_true_of_atKey hat)
        rw [ruL_keys] at h1
        obtain ⟨r, hr, e⟩ := List.mem_map.1 h1
        refine ⟨r, hr, e, ?_⟩
        have h2 := HAT.out x r (mem_ruL.2 ⟨hr, e.symm⟩) .nil
        rw [hat .nil] at h2
        exact DataW.held.inj h2
      subst hcr
      subst hrx
      have hJ2 : J ps w2 := hJ ps wr w2 (some W.heap.size) hJs hg2 (fun r e => by cases e; exact ⟨Nat.le_refl _, hrg.iter_walk⟩)
      have hrg3 := hrg2.of_walks (KeepsWalks.alloc w2 (.cells r.cells.toArray 57))
      have hJ3 : J ps (w2.alloc (.cells r.cells.toArray 57)) := hJ ps w2 _ none hJ2 (World.grownBy_alloc w2 _ none) (fun r e => by cases e)
      obtain ⟨fn, tmps, assign, body, hy, hR'⟩ := hY ps r (w2.alloc (.cells r.cells.toArray 57)) hJ3 (by omega)
      have hC2 : CollectedI D0 (fun z => left z && !z.sameKey (.int .i64 r.id)) ((ps ++ [r]).map Ru.id) := by
        rw [List.map_append, List.map_singleton]; exact hC.step hlk hat
      have hps2 : ∀ p ∈ ps ++ [r], p ∈ R := fun p hp => by
        rcases List.mem_append.1 hp with q | q
        · exact hps p q
        · rw [List.mem_singleton.1 q]; exact hr
      have HC2 := Lib.hid hC2
      have HP2 := Lib.hid hps2
      clear hs2 hJ2 hJ3 hC2 hps2
      dsimp only [Ru.cells] at hy hR' hrg3
      gi_wp2
      refine hR'.mono ?_
      rintro e W3 ⟨rfl, hJ4, hk3⟩
      gi_wp2
      have hrg4 := hrg3.of_walks hk3
      go_roundw
      case rel => exact ⟨_, cnt2, ps ++ [r], hrg4, by simp; omega, HC2.out, HP2.out, hJ4⟩
      case measure => rw [hrg4.left_eq, hrg.left_eq]; exact hlt
set_option maxRecDepth 100000 in
set_option maxHeartbeats 1000000 in
theorem values1_nil (F : Fence) (n : Nat) (hf : F.fn 73) (hro : F.round = none) (l Bm : Nat) (J : List Ru → World → Prop) (W : World) (hJ : AbidesFrom W.heap.size J)
    (hm : W.cell? ⟨Bm, 0, none⟩ = some (.map none)) (h0 : J [] W) :
    CallsIn F n Try.prog 73 #[.func (.yield l) #[] #[], .pointer (some ⟨Bm, 0, none⟩)] W fun e W' => (∃ v, e = .returned v) ∧ ∃ rs : List Ru, AllOnce [] rs ∧ J rs W' := by
  refine callsIn_of_wp Try.func73 rfl hf ?_ hro
  simp only [Try.ntmps73, List.size_toArray, List.length_cons, List.length_nil, Nat.reduceAdd, Nat.reduceSub, Array.replicate_succ, Array.replicate_zero, List.push_toArray, List.append_toArray, List.nil_append, List.cons_append]
  have hrg := run_range_nilMap (P := Try.prog) W 106 3 57 Try.underlying106
  have hnx : ∀ ty, (Instr.next (.pointer (some ⟨W.heap.size, 0, none⟩)) false ty).run Try.prog (W.alloc (.mapIter none 0 #[] 0)) = _ := fun ty => run_next_nilMap _ ty 0 0 #[]
  gi_wp2
  refine wpIn_loop_rounds 1 ?_
  rw [roundsIn_succ]
  gi_wp2
  go_end0
  exact ⟨⟨_, rfl⟩, [], ⟨List.nodup_nil, fun r => Iff.rfl⟩, hJ [] W _ none h0 (World.grownBy_alloc W _ none) (fun r e => by cases e)⟩
/-- The iterator over a table's rules gives each once. -/
theorem values_gives (n : Nat) (hn : 1 ≤ n) (m : Option Nat) (R : List Ru) (hR : (R.map Ru.id).Nodup) (w : World) (h : RMap w m R) :
    SeqGives Fence.wide n Try.prog 73 #[.pointer (some ⟨w.heap.size, 0, none⟩)] (fun x : Ru => rv x) (AllOnce R) R.length (w.alloc (.cells #[.map m] 106)) := fun l J W hW hJ hY h0 => by
  have hc : W.cell? ⟨w.heap.size, 0, none⟩ = some (.map m) := (hW.cell (p := ⟨w.heap.size, 0, none⟩) (by show w.heap.size < _; rw [World.size_alloc]; omega)).trans (by simp)
  have hb := (bel_al (Below.refl w.heap.size w) (.cells #[.map m] 106)).trans (hW.mono (by rw [World.size_alloc]; omega))
  cases m with
  | none =>
    have hR0 : R = [] := h
    subst hR0
    exact values1_nil Fence.wide n trivial rfl l w.heap.size J W hJ hc h0
  | some b => exact values1_in Fence.wide n trivial rfl hn l w.heap.size b R hR J hY W hJ hc (h.on hb) h0
end Go.Proofs.Ytgcbngephokegaa
