/- A new arena; a node; whether a set has a header. -/
import Derived.Test.YtioanjpeddipmacAC
import Derived.Test.YtioanjpeddipmacBL
import Derived.Test.YtioanjpeddipmacH1
import Derived.LoopN
namespace Go.Proofs.Ytioanjpeddipmac
open Go.RowKit
set_option linter.unusedVariables false

theorem at_calls2 {P : Program} {f : Nat} {args : Array Value} {R : Ending → World → Prop} {W : World} {S : World → Prop} (h : S W) (k : ∀ W, S W → Calls P f args W R) : Calls P f args W R := k W h
/-- A new arena, in new memory. -/
def New (most : Nat) (w : World) (e : Ending) (w' : World) : Prop := ∃ a : AL, e = .returned (.tuple #[.pointer (some ⟨a.p, 0, none⟩), .int .i64 0]) ∧ Ar w' a most [bot, top] ∧ Below w.heap.size w w' ∧ w.heap.size ≤ a.p ∧ w.heap.size ≤ a.q ∧ w.heap.size ≤ a.m
theorem heap_now (w : World) (o : Obj) : (w.alloc o).heap[w.heap.size]? = some o := (MapKept.heap_alloc w o).1
set_option maxRecDepth 100000 in
set_option maxHeartbeats 1000000 in
theorem new_any (most : Nat) (h2 : 2 ≤ most) (hm : most ≤ 262144) (w : World) : Calls Try.prog 9 #[.int .i64 (most : Nat)] w (New most w) := by
  have hmm := @run_makeMap Try.prog
  have q1 : ¬ ((most : Nat) : Int) < 2 := by omega
  have q2 : ¬ 262144 < ((most : Nat) : Int) := by omega
  go_enter Try.func9, Try.ntmps9
  go_wp2
  go_ret2
  refine ⟨⟨w.heap.size + 2, w.heap.size, w.heap.size + 1, 2⟩, rfl, ⟨?_, ?_, ?_, by simp, hm, by show w.heap.size + 2 ≠ w.heap.size; omega⟩, bel_al (bel_al (bel_al (Below.refl _ _) _) _) _, by show _ ≤ w.heap.size + 2; omega, Nat.le_refl _, by show _ ≤ w.heap.size + 1; omega⟩
  · have k := Blk.new ((w.alloc (.cells #[.int .i64 104, .int .i64 0, .int .i64 0, .int .i64 104, .int .i64 1, .int .i64 1] 73)).alloc (.map #[] 0)) 77 [.int .i64 (most : Nat), .slice (some ⟨w.heap.size, 0, none⟩) 2 2, .map (some (w.heap.size + 1))]
    rw [World.size_alloc, World.size_alloc] at k
    exact k
  · refine ⟨by rw [flat_len], Or.inr ⟨w.heap.size, 2, #[.int .i64 104, .int .i64 0, .int .i64 0, .int .i64 104, .int .i64 1, .int .i64 1], rfl, Nat.zero_le _, ?_, by simp, by unfold maxLen; omega, rfl, rfl⟩⟩
    rw [Below.heap_alloc _ _ _ (by simp; omega), Below.heap_alloc _ _ _ (by simp)]
    exact heap_now _ _
  · have k : numL [bot, top] = [] := rfl
    rw [k]
    have k2 := (MapG.made (P := Try.prog) (tk := 73) (te := 3) (kv := nv) (w.alloc (.cells #[.int .i64 104, .int .i64 0, .int .i64 0, .int .i64 104, .int .i64 1, .int .i64 1] 73)))
    rw [World.size_alloc] at k2
    exact k2.same (Below.heap_alloc _ _ _ (by simp))
set_option maxHeartbeats 1000000 in
theorem new_bad (most : Int) (h : most < 2 ∨ 262144 < most) (w : World) : Calls Try.prog 9 #[.int .i64 most] w fun e w' => e = .returned (.tuple #[.pointer none, .int .i64 1]) ∧ w = w' := by
  by_cases q1 : most < 2
  · go_enter Try.func9, Try.ntmps9
    go_wp2
    go_ret2
    exact ⟨rfl, rfl⟩
  · have q2 : 262144 < most := by omega
    go_enter Try.func9, Try.ntmps9
    go_wp2
    go_ret2
    exact ⟨rfl, rfl⟩
/-- A header's bits. -/
def hE (d s p x y : Nat) : Env := fun i => bt d s p x y (i : Int)
set_option maxRecDepth 100000 in
set_option maxHeartbeats 2000000 in
theorem in_any (a : AL) (most : Nat) (ns : List Nd) (f d s p x y : Nat) (hh : HB d s p x y) (w : World) (h : Ar w a most ns) (hw : WF ns) (hf : f < ns.length) :
    Calls Try.prog 13 #[.pointer (some ⟨a.p, 0, none⟩), .int .i64 (f : Nat), hv d s p x y] w fun e w' => e = .returned (.bool (ev ns (hE d s p x y) f)) ∧ Below w.heap.size w w' := by
  obtain ⟨R, hR⟩ : ∃ R, ev ns (hE d s p x y) f = R := ⟨_, rfl⟩
  rw [hR]
  have HR := Lib.hid hR
  have A0 := Lib.hid h
  have HW := Lib.hid hw
  have C := Lib.hid (fun (W : World) (hA : Ar W a most ns) => has_any a most ns f W hA)
  have CB := Lib.hid (fun (i : Int) (W : World) => bit_any d s p x y i hh W)
  have hb : hasB ns.length (f : Nat) = true := by unfold hasB; simp; omega
  rw [hb] at C
  have hlen := h.len
  clear h hw hR hb hh
  go_enter Try.func13, Try.ntmps13
  go_wp2_with fail
  refine at_calls2 (S := fun W => Blk W w.heap.size [.int .u32 (d : Nat), .int .u32 (s : Nat), .int .u8 (p : Nat), .int .u16 (x : Nat), .int .u16 (y : Nat)] ∧ Below w.heap.size w W) ⟨Blk.new _ _ _, bel_al (Below.refl _ _) _⟩ (fun W1 hW => ?_)
  obtain ⟨hX, hb⟩ := hW
  refine (C.out W1 (A0.out.on hb)).mono ?_
  rintro e w' ⟨rfl, rfl⟩
  have X1 := Lib.hid hX
  have B1 := Lib.hid hb
  clear hX hb C
  go_wp2_with fail
  go_loopw [1] (fun iv wr => ∃ k : Nat, iv = .int .i64 (k : Nat) ∧ k < ns.length ∧ Hid (ev ns (hE d s p x y) k = R) ∧ Hid (Below W1.heap.size W1 wr)) (fun iv _ => (intOf iv).toNat)
  case atStart => exact ⟨f, rfl, hf, HR, Lib.hid (Below.refl _ _)⟩
  case round =>
    obtain ⟨k, rfl, hk, hE, hB⟩ := hrel
    have X2 := Lib.hid (X1.out.on hB.out)
    have A2 := Lib.hid (A0.out.on (bel_on' B1.out hB.out))
    by_cases h1 : 1 < k
    · obtain ⟨n, hn⟩ : ∃ n, ns.getD k bot = n := ⟨_, rfl⟩
      obtain ⟨v, l, hi⟩ := n
      obtain ⟨p1, p2, -⟩ := HW.out.parts (f := k) (by omega) hk
      have hev := ev_node HW.out (Go.Proofs.Ytioanjpeddipmac.hE d s p x y) (f := k) (by omega) hk
      unfold lv at hev
      rw [hn] at p1 p2 hev
      replace hev : ev ns (Go.Proofs.Ytioanjpeddipmac.hE d s p x y) k = if bt d s p x y (v : Nat) then ev ns (Go.Proofs.Ytioanjpeddipmac.hE d s p x y) hi else ev ns (Go.Proofs.Ytioanjpeddipmac.hE d s p x y) l := hev
      rw [hE.out] at hev
      have n_0 : wr.cell? ⟨a.q, k * 3, none⟩ = some (.int .i64 (v : Nat)) := A2.out.node (j := 0) hk (by rw [hn]; rfl)
      have n_1 : wr.cell? ⟨a.q, k * 3 + 1, none⟩ = some (.int .i64 (l : Nat)) := A2.out.node (j := 1) hk (by rw [hn]; rfl)
      have n_2 : wr.cell? ⟨a.q, k * 3 + 2, none⟩ = some (.int .i64 (hi : Nat)) := A2.out.node (j := 2) hk (by rw [hn]; rfl)
      obtain ⟨a_0, a_1, a_2⟩ : _ ∧ _ ∧ _ := ⟨A2.out.s.1 0 _ rfl, A2.out.s.1 1 _ rfl, A2.out.s.1 2 _ rfl⟩
      have h1' : (1 : Int) < (k : Nat) := by omega
      simp only at p1 p2
      have HV := Lib.hid hev
      clear hn hev hE
      go_upto_region 6 with fail
      refine at_code (S := fun W => Blk W wr.heap.size [.int .i64 (v : Nat), .int .i64 (l : Nat), .int .i64 (hi : Nat)] ∧ Below wr.heap.size wr W) ⟨Blk.new _ _ _, bel_al (Below.refl _ _) _⟩ (fun W3 hW => ?_)
      obtain ⟨hY, hb⟩ := hW
      have Y3 := Lib.hid hY
      have X3 := Lib.hid (X2.out.on hb)
      have B3 := Lib.hid (bel_on' hB.out hb)
      clear hY hb n_0 n_1 n_2 a_0 a_1 a_2 A2 X2 hB
      obtain ⟨y_0, y_1, y_2⟩ : _ ∧ _ ∧ _ := ⟨Y3.out.1 0 _ rfl, Y3.out.1 1 _ rfl, Y3.out.1 2 _ rfl⟩
      obtain ⟨x_0, x_1, x_2, x_3, x_4⟩ : _ ∧ _ ∧ _ ∧ _ ∧ _ := ⟨X3.out.1 0 _ rfl, X3.out.1 1 _ rfl, X3.out.1 2 _ rfl, X3.out.1 3 _ rfl, X3.out.1 4 _ rfl⟩
      have CC := Lib.hid (CB.out (v : Nat) W3)
      clear CB
      cases hbt : bt d s p x y (v : Nat) with
      | true =>
        rw [hbt] at CC HV
        go_wp2_with fail
        refine CC.out.mono ?_
        rintro e w4 ⟨rfl, hb4⟩
        have Y4 := Lib.hid (Y3.out.on hb4)
        have B4 := Lib.hid (bel_on' B3.out hb4)
        clear hb4 y_0 y_1 y_2 x_0 x_1 x_2 x_3 x_4 Y3 X3 B3 CC
        obtain ⟨y_0, y_1, y_2⟩ : _ ∧ _ ∧ _ := ⟨Y4.out.1 0 _ rfl, Y4.out.1 1 _ rfl, Y4.out.1 2 _ rfl⟩
        go_wp2_with fail
        refine ⟨⟨hi, rfl, by omega, Lib.hid ?_, B4⟩, by simp [intOf]; omega⟩
        have := HV.out
        simp only [if_true] at this
        exact this.symm
      | false =>
        rw [hbt] at CC HV
        go_wp2_with fail
        refine CC.out.mono ?_
        rintro e w4 ⟨rfl, hb4⟩
        have B4 := Lib.hid (bel_on' B3.out hb4)
        clear hb4 y_0 y_1 y_2 x_0 x_1 x_2 x_3 x_4 Y3 X3 B3 CC
        go_wp2_with fail
        refine ⟨⟨l, rfl, by omega, Lib.hid ?_, B4⟩, by simp [intOf]; omega⟩
        have := HV.out
        simp only [Bool.false_eq_true, if_false] at this
        exact this.symm
    · have h1' : ¬ (1 : Int) < (k : Nat) := by omega
      have hz : (((k : Nat) : Int) == 1) = R := by
        rw [← hE.out]
        have : k = 0 ∨ k = 1 := by omega
        rcases this with rfl | rfl <;> rfl
      go_wp2
      go_ret
      refine ⟨?_, bel_on' B1.out hB.out⟩
      first | rfl | rw [hz]
theorem in_none (p hd : Value) (f : Int) (w : World) (hk : ∃ d s q x y, hd = hv d s q x y) (C : Hid (∀ W, Below w.heap.size w W → Calls Try.prog 34 #[p, .int .i64 f] W fun e w' => e = .returned (.bool false) ∧ W = w')) :
    Calls Try.prog 13 #[p, .int .i64 f, hd] w fun e w' => e = .returned (.bool false) ∧ Below w.heap.size w w' := by
  obtain ⟨d, s, q, x, y, rfl⟩ := hk
  go_enter Try.func13, Try.ntmps13
  go_wp2_with fail
  refine at_calls2 (S := fun W => Below w.heap.size w W) (bel_al (Below.refl _ _) _) (fun W1 hb => ?_)
  refine (C.out W1 hb).mono ?_
  rintro e w' ⟨rfl, rfl⟩
  go_wp2
  go_ret
  exact ⟨rfl, hb⟩
end Go.Proofs.Ytioanjpeddipmac
