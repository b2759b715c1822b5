/- The headers that have some bits so. -/
import Derived.Test.YtioanjpeddipmacAS
import Derived.LoopN
namespace Go.Proofs.Ytioanjpeddipmac
open Go.RowKit
set_option linter.unusedVariables false

/-- Bits, as they lie. -/
def LitC (w : World) (b : Nat) (l : List (Int × Bool)) : Prop := ∀ i x, l[i]? = some x → w.cell? ⟨b, i * 2, none⟩ = some (.int .i64 x.1) ∧ w.cell? ⟨b, i * 2 + 1, none⟩ = some (.bool x.2)
theorem LitC.on {w w' : World} {b : Nat} {l : List (Int × Bool)} (h : LitC w b l) (hb : Below w.heap.size w w') : LitC w' b l := fun i x hx => by
  obtain ⟨h1, h2⟩ := h i x hx
  exact ⟨(hb.cell (p := ⟨b, i * 2, none⟩) (cell_lt (o := i * 2) (by rw [h1]; rfl))).trans h1, (hb.cell (p := ⟨b, i * 2 + 1, none⟩) (cell_lt (o := i * 2 + 1) (by rw [h2]; rfl))).trans h2⟩
theorem LitC.blk {w w' : World} {b : Nat} {l : List (Int × Bool)} (h : LitC w b l) (hb : w'.heap[b]? = w.heap[b]?) : LitC w' b l := fun i x hx => by
  obtain ⟨h1, h2⟩ := h i x hx
  exact ⟨(World.cell?_of_block (w := w) (a := ⟨b, i * 2, none⟩) hb).trans h1, (World.cell?_of_block (w := w) (a := ⟨b, i * 2 + 1, none⟩) hb).trans h2⟩
theorem LitC.lt {w : World} {b : Nat} {x : Int × Bool} {l : List (Int × Bool)} (h : LitC w b (x :: l)) : b < w.heap.size := cell_lt (o := 0 * 2) (by rw [(h 0 x rfl).1]; rfl)
def natL (l : List (Nat × Bool)) : List (Int × Bool) := l.map fun p => ((p.1 : Int), p.2)
theorem natL_len (l : List (Nat × Bool)) : (natL l).length = l.length := by simp [natL]
theorem natL_get {l : List (Nat × Bool)} {i : Nat} {p : Nat × Bool} (h : l[i]? = some p) : (natL l)[i]? = some ((p.1 : Int), p.2) := by simp [natL, h]
theorem drop_one {α : Type} {l : List α} {j : Nat} {p : α} (h : l[j]? = some p) : l.drop j = p :: l.drop (j + 1) := by
  have hj := lt_of_get h
  rw [List.getElem?_eq_getElem hj] at h
  cases h
  exact List.drop_eq_getElem_cons hj
/-- Bits that rise. -/
def Rise (l : List (Nat × Bool)) : Prop := l.Pairwise (fun a b => a.1 < b.1) ∧ ∀ p ∈ l, p.1 < 104
theorem Rise.drop {l : List (Nat × Bool)} (h : Rise l) (k : Nat) : Rise (l.drop k) := ⟨h.1.sublist (List.drop_sublist _ _), fun p hp => h.2 p (List.mem_of_mem_drop hp)⟩
theorem Rise.len {l : List (Nat × Bool)} (h : Rise l) : l.length ≤ 104 := by
  have h1 : (l.map (·.1)).Nodup := by
    unfold List.Nodup
    rw [List.pairwise_map]
    exact h.1.imp (fun {a b} q e => by omega)
  have := nodup_sub _ (List.range 104) h1 (fun v hv => by
    obtain ⟨p, hp, rfl⟩ := List.mem_map.1 hv
    rw [List.mem_range]; exact h.2 p hp)
  rw [List.length_map, List.length_range] at this
  exact this
/-- Where there was no room for bits behind there is none. -/
theorem cubeF_stuck (most : Nat) (ns : List Nd) : ∀ (j : Nat) (l : List (Nat × Bool)) {ns1 : List Nd}, cubeF most ns (l.drop j) = (none, ns1) → cubeF most ns l = (none, ns1)
  | 0, l, ns1, h => h
  | j + 1, [], ns1, h => h
  | j + 1, p :: r, ns1, h => by
    have := cubeF_stuck most ns j r (by simpa using h)
    rw [cubeF.eq_2, this]
set_option maxRecDepth 100000 in
set_option maxHeartbeats 4000000 in
theorem cube_any (a : AL) (most : Nat) (ns : List Nd) (l : List (Nat × Bool)) (w : World) (h : Ar w a most ns) (hw : WF ns) (hr : Rise l) (b cap : Nat) (hl : LitC w b (natL l)) (hb : b < w.heap.size) (ho : Off (fun _ => False) a b) :
    Calls Try.prog 54 #[.pointer (some ⟨a.p, 0, none⟩), .slice (some ⟨b, 0, none⟩) l.length cap] w (Ans most (cubeF most ns l) w a) := by
  have hln := hr.len
  obtain ⟨n, hn⟩ : ∃ n, l.length = n := ⟨_, rfl⟩
  rw [hn]
  obtain ⟨R, hR⟩ : ∃ R, cubeF most ns l = R := ⟨_, rfl⟩
  rw [hR]
  have HR := Lib.hid hR
  have HN := Lib.hid hn
  have HA := Lib.hid h
  have HW := Lib.hid hw
  have HRi := Lib.hid hr
  have HL := Lib.hid hl
  have HO := Lib.hid (And.intro hb ho)
  rw [hn] at hln
  clear hR hn h hw hr hl hb ho
  have hw0 : IntKind.i64.wrap ((n : Int) - 1) = (n : Int) - 1 := by rw [IntKind.wrap_i64]; omega
  unfold Ans
  go_enter Try.func54, Try.ntmps54
  go_wp2_with fail
  go_loopw [6, 7] (fun fv iv wr => ∃ k f : Nat, fv = .int .i64 (f : Nat) ∧ iv = .int .i64 ((k : Int) - 1) ∧ k ≤ n ∧ ∃ nsk a', Hid (cubeF most ns (l.drop k) = (some f, nsk)) ∧ Hid (Ar wr a' most nsk) ∧ Hid (Tr (fun _ => False) w a wr a')) (fun _ iv _ => (intOf iv + 1).toNat)
  case atStart =>
    refine ⟨n, 1, rfl, rfl, Nat.le_refl _, ns, a, Lib.hid ?_, HA, Lib.hid (Tr.refl _ _ _)⟩
    rw [← HN.out, List.drop_length]; rfl
  case round =>
    obtain ⟨k, f, rfl, rfl, hk, nsk, a', hC, hA, hT⟩ := hrel
    have hp := hT.out.m.1
    match k, hk, hC with
    | 0, hk, hC =>
      have hz : R = (some f, nsk) := by rw [← HR.out]; exact hC.out
      subst hz
      go_wp2
      go_ret2
      exact ⟨rfl, a', hA.out, hT.out⟩
    | j + 1, hk, hC =>
      have e1 : (((j + 1 : Nat) : Int) - 1) = ((j : Nat) : Int) := by omega
      rw [e1]
      clear e1
      obtain ⟨p, hpj⟩ : ∃ p, l[j]? = some p := ⟨_, List.getElem?_eq_getElem (by have := HN.out; omega)⟩
      obtain ⟨v, on⟩ := p
      have hL2 := HL.out.blk (hT.out.k.block b HO.out.1 HO.out.2.not)
      obtain ⟨l_0, l_1⟩ := hL2 j _ (natL_get hpj)
      simp only at l_0 l_1
      have hd := drop_one hpj
      have hv104 : v < 104 := HRi.out.2 (v, on) (List.mem_of_getElem? hpj)
      obtain ⟨wk, -, -, -, sk, -⟩ := cubeF_made most HW.out (l.drop (j + 1)) (HRi.out.drop _).1 (HRi.out.drop _).2
      rw [hC.out] at wk sk
      have hfl := (sk f rfl).1
      simp only at wk hfl
      have WK := Lib.hid wk
      have hfN : f ≤ 262144 := by have := hA.out.len; omega
      have hwj : IntKind.i64.wrap ((j : Int) - 1) = (j : Int) - 1 := by rw [IntKind.wrap_i64]; omega
      have hstep : cubeF most ns (l.drop j) = numF most nsk (if on then ⟨v, 0, f⟩ else ⟨v, f, 0⟩) := by
        rw [hd, cubeF.eq_2, hC.out]
      have HS := Lib.hid hstep
      clear hL2 hd hpj wk sk hfl hstep hC
      go_upto_region 6 with fail
      refine at_code (S := fun W => Blk W wr.heap.size [.int .i64 (v : Nat), .int .i64 (f : Nat), .int .i64 0] ∧ Below wr.heap.size wr W) ⟨Blk.new _ _ _, bel_al (Below.refl _ _) _⟩ (fun W1 hW => ?_)
      obtain ⟨hX, hb1⟩ := hW
      have X1 := Lib.hid hX
      have B1 := Lib.hid hb1
      have l0' : W1.cell? ⟨b, j * 2, none⟩ = some (.int .i64 (v : Nat)) := (hb1.cell (p := ⟨b, j * 2, none⟩) (cell_lt (o := j * 2) (by rw [l_0]; rfl))).trans l_0
      have l1' : W1.cell? ⟨b, j * 2 + 1, none⟩ = some (.bool on) := (hb1.cell (p := ⟨b, j * 2 + 1, none⟩) (cell_lt (o := j * 2 + 1) (by rw [l_1]; rfl))).trans l_1
      clear hX hb1 l_0 l_1
      obtain ⟨x_0, x_1, x_2⟩ : _ ∧ _ ∧ _ := ⟨X1.out.1 0 _ rfl, X1.out.1 1 _ rfl, X1.out.1 2 _ rfl⟩
      obtain ⟨z_0, z_1, z_2⟩ : _ ∧ _ ∧ _ := ⟨X1.out.2 0 _ rfl, X1.out.2 1 _ rfl, X1.out.2 2 _ rfl⟩
      cases on with
      | true =>
        go_upto_region 8 with fail
        refine at_code (S := fun W => Blk W wr.heap.size [.int .i64 (v : Nat), .int .i64 0, .int .i64 (f : Nat)] ∧ Below wr.heap.size wr W) ⟨X1.out.put3 _ _ _, bel_put3 B1.out (Nat.le_refl _) _ _ _⟩ (fun W2 hW => ?_)
        obtain ⟨hX, hb1⟩ := hW
        have B2 := Lib.hid hb1
        have A2 := Lib.hid (hA.out.on hb1)
        clear x_0 x_1 x_2 z_0 z_1 z_2 l0' l1' B1 X1
        obtain ⟨x_0, x_1, x_2⟩ : _ ∧ _ ∧ _ := ⟨hX.1 0 _ rfl, hX.1 1 _ rfl, hX.1 2 _ rfl⟩
        have hstep := HS.out
        simp only [if_true] at hstep
        have CN := Lib.hid (number_any a' most nsk v 0 f W2 A2.out WK.out ⟨by show v ≤ _; omega, by show 0 ≤ _; omega, by show f ≤ _; omega⟩)
        rw [← hstep, hp] at CN
        have hdj : ∀ R', cubeF most ns (l.drop j) = R' → j = 0 → R = R' := fun R' e q => by rw [← HR.out, ← e, q]; rfl
        obtain ⟨r1, ns1, e1⟩ : ∃ r ns', cubeF most ns (l.drop j) = (r, ns') := ⟨_, _, rfl⟩
        rw [e1] at CN
        have E1 := Lib.hid e1
        clear hX hb1 hstep HS e1 hdj
        cases r1 with
        | none =>
          replace CN : Hid (Calls Try.prog _ _ W2 fun e w' => e = .returned (.tuple #[.int .i64 0, .int .i64 20]) ∧ ∃ a'', Ar w' a'' most ns1 ∧ Tr (fun _ => False) W2 a' w' a'') := CN
          have hz : R = (none, ns1) := by
            rw [← HR.out]
            exact cubeF_stuck most ns j l E1.out
          subst hz
          go_wp2_with fail
          refine CN.out.mono ?_
          rintro e w3 ⟨rfl, a2, hA3, hT3⟩
          have F := Lib.hid (And.intro hA3 hT3)
          clear hA3 hT3
          go_wp2
          go_ret2
          exact ⟨rfl, a2, F.out.1, hT.out.trans (Tr.ahead B2.out F.out.2)⟩
        | some f' =>
          replace CN : Hid (Calls Try.prog _ _ W2 fun e w' => e = .returned (.tuple #[.int .i64 (f' : Nat), .int .i64 0]) ∧ ∃ a'', Ar w' a'' most ns1 ∧ Tr (fun _ => False) W2 a' w' a'') := CN
          go_wp2_with fail
          refine CN.out.mono ?_
          rintro e w3 ⟨rfl, a2, hA3, hT3⟩
          have F := Lib.hid (And.intro hA3 hT3)
          clear hA3 hT3
          go_wp2_with fail
          refine ⟨⟨j, f', rfl, ?_, by omega, ns1, a2, E1, Lib.hid F.out.1, Lib.hid (hT.out.trans (Tr.ahead B2.out F.out.2))⟩, by simp [intOf] <;> omega⟩
          first | rfl | rw [hwj]
      | false =>
        go_upto_region 8 with fail
        obtain ⟨W2, hW2⟩ : ∃ W2, W2 = W1 := ⟨_, rfl⟩
        rw [← hW2] at X1 B1 x_0 x_1 x_2 ⊢
        clear hW2 l0' l1' z_0 z_1 z_2
        have B2 := Lib.hid B1.out
        have A2 := Lib.hid (hA.out.on B1.out)
        clear X1 B1
        have hstep := HS.out
        simp only [Bool.false_eq_true, if_false] at hstep
        have CN := Lib.hid (number_any a' most nsk v f 0 W2 A2.out WK.out ⟨by show v ≤ _; omega, by show f ≤ _; omega, by show 0 ≤ _; omega⟩)
        rw [← hstep, hp] at CN
        have hdj : ∀ R', cubeF most ns (l.drop j) = R' → j = 0 → R = R' := fun R' e q => by rw [← HR.out, ← e, q]; rfl
        obtain ⟨r1, ns1, e1⟩ : ∃ r ns', cubeF most ns (l.drop j) = (r, ns') := ⟨_, _, rfl⟩
        rw [e1] at CN
        have E1 := Lib.hid e1
        clear hstep HS e1 hdj
        cases r1 with
        | none =>
          replace CN : Hid (Calls Try.prog _ _ W2 fun e w' => e = .returned (.tuple #[.int .i64 0, .int .i64 20]) ∧ ∃ a'', Ar w' a'' most ns1 ∧ Tr (fun _ => False) W2 a' w' a'') := CN
          have hz : R = (none, ns1) := by
            rw [← HR.out]
            exact cubeF_stuck most ns j l E1.out
          subst hz
          go_wp2_with fail
          refine CN.out.mono ?_
          rintro e w3 ⟨rfl, a2, hA3, hT3⟩
          have F := Lib.hid (And.intro hA3 hT3)
          clear hA3 hT3
          go_wp2
          go_ret2
          exact ⟨rfl, a2, F.out.1, hT.out.trans (Tr.ahead B2.out F.out.2)⟩
        | some f' =>
          replace CN : Hid (Calls Try.prog _ _ W2 fun e w' => e = .returned (.tuple #[.int .i64 (f' : Nat), .int .i64 0]) ∧ ∃ a'', Ar w' a'' most ns1 ∧ Tr (fun _ => False) W2 a' w' a'') := CN
          go_wp2_with fail
          refine CN.out.mono ?_
          rintro e w3 ⟨rfl, a2, hA3, hT3⟩
          have F := Lib.hid (And.intro hA3 hT3)
          clear hA3 hT3
          go_wp2_with fail
          refine ⟨⟨j, f', rfl, ?_, by omega, ns1, a2, E1, Lib.hid F.out.1, Lib.hid (hT.out.trans (Tr.ahead B2.out F.out.2))⟩, by simp [intOf] <;> omega⟩
          first | rfl | rw [hwj]
end Go.Proofs.Ytioanjpeddipmac
