/- The document's example; TopoChecks' call answers true. -/
import Derived.Test.YtoiopjdbmaffeaaT7
import Derived.Test.YtoiopjdbmaffeaaT8
namespace Go.Proofs.Ytoiopjdbmaffeaa
open Go.RowKit
set_option linter.unusedVariables false

set_option maxRecDepth 100000 in
set_option maxHeartbeats 2000000 in
theorem tawake_any (w : World) : Calls Try.prog 7 #[] w fun e w' => e = .returned (.bool true) ∧ Below w.heap.size w w' := by
  have CP : Hid (∀ W, Rw W (some ⟨w.heap.size + 1, 0, none⟩) ([(⟨0, 0, 1, 0⟩ : Lk)].flatMap Lk.cells) → Calls Try.prog 12 #[tv (some ⟨w.heap.size, 0, none⟩) 2 2 (some ⟨w.heap.size + 1, 0, none⟩) 1 1 none 0 0, .int .i64 0, .int .i64 0] W fun e w' => e = .returned (.tuple #[.int .i64 1, .int .i64 0, .bool true]) ∧ Below W.heap.size W w') := fun W h =>
    peer_any [⟨0, 0, 1, 0⟩] (some ⟨w.heap.size, 0, none⟩) 2 2 (some ⟨w.heap.size + 1, 0, none⟩) 1 none 0 0 0 0 W h (by decide)
  have CC : Hid (∀ W, Rw W (some ⟨w.heap.size, 0, none⟩) (ints [1, 1]) → Rw W (some ⟨w.heap.size + 1, 0, none⟩) ([(⟨0, 0, 1, 0⟩ : Lk)].flatMap Lk.cells) → Calls Try.prog 9 #[tv (some ⟨w.heap.size, 0, none⟩) 2 2 (some ⟨w.heap.size + 1, 0, none⟩) 1 1 none 0 0] W fun e w' => e = .returned (.int .i64 0) ∧ Below W.heap.size W w') := fun W h1 h2 => by
    have c := tcheck_any [1, 1] [⟨0, 0, 1, 0⟩] [] (some ⟨w.heap.size, 0, none⟩) 2 (some ⟨w.heap.size + 1, 0, none⟩) 1 none 0 W (fun c hc => by simp at hc; subst hc; exact ⟨⟨by decide, by decide⟩, ⟨by decide, by decide⟩⟩) (by simp) h1 h2 (fun j v hv => by simp at hv) (by decide) (by decide) (by decide)
    rw [show TP.chk ⟨[1, 1], [⟨0, 0, 1, 0⟩], []⟩ = 0 by decide +kernel] at c
    exact c
  unfold tv at CP CC
  go_enter Try.func7, Try.ntmps7
  go_upto_region 2 with fail
  refine at_code (S := fun W => Blk W (w.heap.size + 1 + 1) [.slice (some ⟨w.heap.size, 0, none⟩) 2 2, .slice (some ⟨w.heap.size + 1, 0, none⟩) 1 1, .slice none 0 0] ∧ Rw W (some ⟨w.heap.size, 0, none⟩) (ints [1, 1]) ∧ Rw W (some ⟨w.heap.size + 1, 0, none⟩) ([(⟨0, 0, 1, 0⟩ : Lk)].flatMap Lk.cells) ∧ Below w.heap.size w W) ?_ (fun W1 hW => ?_)
  · refine ⟨⟨fun i v hv => ?_, fun i v hv => ?_⟩, fun j v hv => ⟨_, _, rfl, ?_⟩, fun j v hv => ⟨_, _, rfl, ?_⟩, ?_⟩
    · match i, hv with
      | 0, hv => cases hv; simp [go_sem]
      | 1, hv => cases hv; simp [go_sem]
      | 2, hv => cases hv; simp [go_sem]
    · match i, hv with
      | 0, hv => cases hv; simp [go_sem]
      | 1, hv => cases hv; simp [go_sem]
      | 2, hv => cases hv; simp [go_sem]
    · match j, hv with
      | 0, hv => cases hv; simp [go_sem]
      | 1, hv => cases hv; simp [go_sem]
    · match j, hv with
      | 0, hv => cases hv; simp [go_sem]
      | 1, hv => cases hv; simp [go_sem]
      | 2, hv => cases hv; simp [go_sem]
      | 3, hv => cases hv; simp [go_sem]
    · repeat (first | exact Below.refl _ _ | refine cbelow_al ?_ _)
  obtain ⟨hT, hP, hL, hB⟩ := hW
  have T1 := Lib.hid hT
  have P1 := Lib.hid hP
  have L1 := Lib.hid hL
  have B1 := Lib.hid hB
  clear hT hP hL hB
  obtain ⟨t_0, t_1, t_2⟩ : _ ∧ _ ∧ _ := ⟨T1.out.1 0 _ rfl, T1.out.1 1 _ rfl, T1.out.1 2 _ rfl⟩
  go_wp2_with fail
  refine (CP.out _ L1.out).mono ?_
  rintro e w2 ⟨rfl, hb⟩
  have T2 := Lib.hid (T1.out.on hb)
  have P2 := Lib.hid (P1.out.on hb)
  have L2 := Lib.hid (L1.out.on hb)
  have B2 := Lib.hid (cbelow_on B1.out hb)
  clear hb t_0 t_1 t_2 T1 P1 L1 B1 CP
  obtain ⟨t_0, t_1, t_2⟩ : _ ∧ _ ∧ _ := ⟨T2.out.1 0 _ rfl, T2.out.1 1 _ rfl, T2.out.1 2 _ rfl⟩
  go_wp2_with fail
  refine (CC.out _ P2.out L2.out).mono ?_
  rintro e w3 ⟨rfl, hb⟩
  have B3 := Lib.hid (cbelow_on B2.out hb)
  clear hb
  go_wp2
  go_ret
  exact ⟨rfl, B3.out⟩
/-- What a topology that is handed in is, and how it lies in memory. -/
structure Tp (w : World) (v : Value) (ps : List Int) (ls : List Lk) (es : List Ac) (pa : Option Addr) (pc : Nat) (la : Option Addr) (lc : Nat) (aa : Option Addr) (ac : Nat) : Prop where
  v : v = tv pa ps.length pc la ls.length lc aa es.length ac
  p : Rw w pa (ints ps)
  l : Rw w la (ls.flatMap Lk.cells)
  e : Rw w aa (es.flatMap Ac.cells)
  lok : ∀ c ∈ ls, c.Ok
  eok : ∀ c ∈ es, c.Ok
end Go.Proofs.Ytoiopjdbmaffeaa
