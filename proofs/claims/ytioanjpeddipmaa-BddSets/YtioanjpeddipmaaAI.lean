/- Ite. -/
import Derived.Test.YtioanjpeddipmaaAJ
namespace Go.Proofs.Ytioanjpeddipmaa
open Go.RowKit
set_option linter.unusedVariables false

set_option maxRecDepth 100000 in
set_option maxHeartbeats 1000000 in
theorem iteL_any (most : Nat) (R : Option Nat × List Nd) (f g h : Int) (W : World) (a : AL) (b0 b1 b2 b3 : Nat) (c0 : W.cell? ⟨b0, 0, none⟩ = some (.pointer (some ⟨a.p, 0, none⟩))) (c1 : W.cell? ⟨b1, 0, none⟩ = some (.int .i64 f)) (c2 : W.cell? ⟨b2, 0, none⟩ = some (.int .i64 g)) (c3 : W.cell? ⟨b3, 0, none⟩ = some (.int .i64 h))
    (HJ : Hid (Calls Try.prog 40 #[.pointer (some ⟨a.p, 0, none⟩), .int .i64 f, .int .i64 g, .int .i64 h] W (Ans most R W a))) :
    Calls Try.prog 39 #[.pointer (some ⟨b0, 0, none⟩), .pointer (some ⟨b1, 0, none⟩), .pointer (some ⟨b2, 0, none⟩), .pointer (some ⟨b3, 0, none⟩)] W (Ans most R W a) := by
  unfold Ans at HJ ⊢
  obtain ⟨r, hr⟩ : ∃ r : Int, ((rv R.1 : Nat) : Int) = r := ⟨_, rfl⟩
  obtain ⟨x, hx⟩ : ∃ x : Int, er R.1 = x := ⟨_, rfl⟩
  rw [hr, hx] at HJ ⊢
  clear hr hx
  go_enter Try.func39, Try.ntmps39
  go_wp2_with fail
  refine HJ.out.mono ?_
  rintro e w1 ⟨rfl, a1, hA, hT⟩
  have F := Lib.hid (And.intro hA hT)
  clear hA hT
  go_wp2
  go_ret2
  exact ⟨rfl, a1, F.out.1, F.out.2⟩
set_option maxRecDepth 100000 in
set_option maxHeartbeats 2000000 in
theorem iteJ_core1 (most : Nat) (ns : List Nd) (f g h : Int) (w : World) (a : AL) (hA0 : Ar w a most ns) 
    (HK : Hid (∀ W b, Ar W a most ns → W.cell? ⟨b, 0, none⟩ = some (.int .i64 f) → W.cell? ⟨b, 1, none⟩ = some (.int .i64 g) → W.cell? ⟨b, 2, none⟩ = some (.int .i64 h) → Calls Try.prog 30 #[.pointer (some ⟨a.p, 0, none⟩), .slice (some ⟨b, 0, none⟩) 3 3] W fun e w' => e = .returned (.int .i64 (1)) ∧ W = w'))
    : Calls Try.prog 23 #[.pointer (some ⟨a.p, 0, none⟩), .int .i64 f, .int .i64 g, .int .i64 h] w fun e w' => e = .returned (.tuple #[.int .i64 0, .int .i64 1]) ∧ Below w.heap.size w w' := by
  have A0 := Lib.hid hA0
  clear hA0
  have hmf : ∀ (fn : Fn) (first cap : Array Value) (w : World), (Instr.makeFunc fn first cap).run Try.prog w = .ok (.func fn first cap) w := fun _ _ _ _ => rfl
  go_enter Try.func23, Try.ntmps23
  go_wp2_with fail
  refine at_calls (S := fun W => W.cell? ⟨w.heap.size, 0, none⟩ = some (.pointer (some ⟨a.p, 0, none⟩)) ∧ W.cell? ⟨w.heap.size + 1, 0, none⟩ = some (.int .i64 f) ∧ W.cell? ⟨w.heap.size + 2, 0, none⟩ = some (.int .i64 g) ∧ W.cell? ⟨w.heap.size + 3, 0, none⟩ = some (.int .i64 h) ∧ W.cell? ⟨w.heap.size + 4, 0, none⟩ = some (.int .i64 f) ∧ W.cell? ⟨w.heap.size + 4, 1, none⟩ = some (.int .i64 g) ∧ W.cell? ⟨w.heap.size + 4, 2, none⟩ = some (.int .i64 h) ∧ Below w.heap.size w W) ⟨by simp [go_sem], by simp [go_sem], by simp [go_sem], by simp [go_sem], by simp [go_sem], by simp [go_sem], by simp [go_sem], bel_al (bel_al (bel_al (bel_al (bel_al (Below.refl _ _) _) _) _) _) _⟩ (fun W1 hW => ?_)
  obtain ⟨w_0, w_1, w_2, w_3, k_0, k_1, k_2, hb⟩ := hW
  have A1 := Lib.hid (A0.out.on hb)
  have B1 := Lib.hid hb
  clear hb
  refine (HK.out W1 _ A1.out k_0 k_1 k_2).mono ?_
  rintro e w' ⟨rfl, rfl⟩
  clear k_0 k_1 k_2 HK
  go_wp2
  go_ret2
  exact ⟨rfl, B1.out⟩
set_option maxRecDepth 100000 in
set_option maxHeartbeats 2000000 in
theorem iteJ_core3 (most : Nat) (ns : List Nd) (f g h : Int) (w : World) (a : AL) (hA0 : Ar w a most ns) (R : Option Nat × List Nd) (HW : Hid (∀ W (b0 b1 b2 b3 : Nat), Ar W a most ns → W.cell? ⟨b0, 0, none⟩ = some (.pointer (some ⟨a.p, 0, none⟩)) → W.cell? ⟨b1, 0, none⟩ = some (.int .i64 f) → W.cell? ⟨b2, 0, none⟩ = some (.int .i64 g) → W.cell? ⟨b3, 0, none⟩ = some (.int .i64 h) → Calls Try.prog 31 #[.pointer (some ⟨a.p, 0, none⟩), .func (.func 39) #[] #[.pointer (some ⟨b0, 0, none⟩), .pointer (some ⟨b1, 0, none⟩), .pointer (some ⟨b2, 0, none⟩), .pointer (some ⟨b3, 0, none⟩)]] W (Ans most R W a)))
    (HK : Hid (∀ W b, Ar W a most ns → W.cell? ⟨b, 0, none⟩ = some (.int .i64 f) → W.cell? ⟨b, 1, none⟩ = some (.int .i64 g) → W.cell? ⟨b, 2, none⟩ = some (.int .i64 h) → Calls Try.prog 30 #[.pointer (some ⟨a.p, 0, none⟩), .slice (some ⟨b, 0, none⟩) 3 3] W fun e w' => e = .returned (.int .i64 (0)) ∧ W = w'))
    : Calls Try.prog 23 #[.pointer (some ⟨a.p, 0, none⟩), .int .i64 f, .int .i64 g, .int .i64 h] w (Ans most R w a) := by
  obtain ⟨r, hr⟩ : ∃ r : Int, ((rv R.1 : Nat) : Int) = r := ⟨_, rfl⟩
  obtain ⟨x, hx⟩ : ∃ x : Int, er R.1 = x := ⟨_, rfl⟩
  unfold Ans at HW ⊢
  rw [hr, hx] at HW ⊢
  clear hr hx
  have A0 := Lib.hid hA0
  clear hA0
  have hmf : ∀ (fn : Fn) (first cap : Array Value) (w : World), (Instr.makeFunc fn first cap).run Try.prog w = .ok (.func fn first cap) w := fun _ _ _ _ => rfl
  go_enter Try.func23, Try.ntmps23
  go_wp2_with fail
  refine at_calls (S := fun W => W.cell? ⟨w.heap.size, 0, none⟩ = some (.pointer (some ⟨a.p, 0, none⟩)) ∧ W.cell? ⟨w.heap.size + 1, 0, none⟩ = some (.int .i64 f) ∧ W.cell? ⟨w.heap.size + 2, 0, none⟩ = some (.int .i64 g) ∧ W.cell? ⟨w.heap.size + 3, 0, none⟩ = some (.int .i64 h) ∧ W.cell? ⟨w.heap.size + 4, 0, none⟩ = some (.int .i64 f) ∧ W.cell? ⟨w.heap.size + 4, 1, none⟩ = some (.int .i64 g) ∧ W.cell? ⟨w.heap.size + 4, 2, none⟩ = some (.int .i64 h) ∧ Below w.heap.size w W) ⟨by simp [go_sem], by simp [go_sem], by simp [go_sem], by simp [go_sem], by simp [go_sem], by simp [go_sem], by simp [go_sem], bel_al (bel_al (bel_al (bel_al (bel_al (Below.refl _ _) _) _) _) _) _⟩ (fun W1 hW => ?_)
  obtain ⟨w_0, w_1, w_2, w_3, k_0, k_1, k_2, hb⟩ := hW
  have A1 := Lib.hid (A0.out.on hb)
  have B1 := Lib.hid hb
  clear hb
  refine (HK.out W1 _ A1.out k_0 k_1 k_2).mono ?_
  rintro e w' ⟨rfl, rfl⟩
  clear k_0 k_1 k_2 HK
  have CW := Lib.hid (HW.out W1 _ _ _ _ A1.out w_0 w_1 w_2 w_3)
  clear HW
  go_wp2_with fail
  refine CW.out.mono ?_
  rintro e w2 ⟨rfl, a2, hA, hT⟩
  have F := Lib.hid (And.intro hA hT)
  clear hA hT
  go_wp2
  go_ret2
  exact ⟨rfl, a2, F.out.1, Tr.ahead B1.out F.out.2⟩
set_option maxRecDepth 100000 in
set_option maxHeartbeats 2000000 in
theorem ite_nil (f g h : Int) (w : World) : Calls Try.prog 23 #[.pointer none, .int .i64 f, .int .i64 g, .int .i64 h] w fun e w' => e = .returned (.tuple #[.int .i64 0, .int .i64 2]) ∧ Below w.heap.size w w' := by
  have HK := Lib.hid (fun v W => check_nil v W)
  go_enter Try.func23, Try.ntmps23
  go_wp2_with fail
  refine at_calls (S := fun W => Below w.heap.size w W) (bel_al (bel_al (bel_al (bel_al (bel_al (Below.refl _ _) _) _) _) _) _) (fun W1 hb => ?_)
  have B1 := Lib.hid hb
  clear hb
  refine (HK.out _ W1).mono ?_
  rintro e w' ⟨rfl, rfl⟩
  go_wp2
  go_ret2
  exact ⟨rfl, B1.out⟩

set_option maxRecDepth 100000 in
set_option maxHeartbeats 2000000 in
theorem ite_any (most : Nat) (ns : List Nd) (f g h : Nat) (w : World) (a : AL) (hA : Ar w a most ns) (hw : WF ns) (hf : f < ns.length) (hg : g < ns.length) (hh : h < ns.length) :
    Calls Try.prog 40 #[.pointer (some ⟨a.p, 0, none⟩), .int .i64 (f : Nat), .int .i64 (g : Nat), .int .i64 (h : Nat)] w (Ans most (iteR most ns f g h) w a) := by
  have C1 := join_any 0 most ns f g w a hA hw hf hg
  have M1 := joinF_made 0 most hw hf hg
  obtain ⟨r1, ns1, e1⟩ : ∃ r ns', joinF 0 most ns f g = (r, ns') := ⟨_, _, rfl⟩
  rw [e1] at C1 M1
  simp only at M1
  cases r1 with
  | none =>
    have e : iteR most ns f g h = (none, ns1) := by unfold iteR; rw [e1]
    rw [e]
    have H1 : Hid (Calls Try.prog 33 #[.pointer (some ⟨a.p, 0, none⟩), .int .i64 0, .int .i64 (f : Nat), .int .i64 (g : Nat)] w fun e w' => e = .returned (.tuple #[.int .i64 0, .int .i64 20]) ∧ ∃ a', Ar w' a' most ns1 ∧ Tr (fun _ => False) w a w' a') := C1
    show Calls Try.prog 40 _ w fun e w' => e = .returned (.tuple #[.int .i64 0, .int .i64 20]) ∧ ∃ a', Ar w' a' most ns1 ∧ Tr (fun _ => False) w a w' a'
    clear C1 M1 e e1 hA hw hf hg hh
    go_enter Try.func40, Try.ntmps40
    go_wp2_with fail
    refine H1.out.mono ?_
    rintro e w1 ⟨rfl, a1, hA, hT⟩
    have F := Lib.hid (And.intro hA hT)
    clear hA hT
    go_wp2
    go_ret2
    exact ⟨rfl, a1, F.out.1, F.out.2⟩
  | some x =>
    obtain ⟨hx, -⟩ := M1.set x rfl
    have l1 := M1.ext.len
    have M2 := joinF_made 3 most (ns := ns1) (f := h) (g := f) M1.wf (by omega) (by omega)
    have H1 : Hid (Calls Try.prog 33 #[.pointer (some ⟨a.p, 0, none⟩), .int .i64 0, .int .i64 (f : Nat), .int .i64 (g : Nat)] w fun e w' => e = .returned (.tuple #[.int .i64 (x : Nat), .int .i64 0]) ∧ ∃ a', Ar w' a' most ns1 ∧ Tr (fun _ => False) w a w' a') := C1
    have H2 := Lib.hid (fun (W : World) (a' : AL) (k : Ar W a' most ns1) => join_any 3 most ns1 h f W a' k M1.wf (by omega) (by omega))
    obtain ⟨r2, ns2, e2⟩ : ∃ r ns', joinF 3 most ns1 h f = (r, ns') := ⟨_, _, rfl⟩
    rw [e2] at H2 M2
    simp only at M2
    cases r2 with
    | none =>
      have e : iteR most ns f g h = (none, ns2) := by unfold iteR; rw [e1]; simp only; rw [e2]
      rw [e]
      replace H2 : Hid (∀ (W : World) (a' : AL), Ar W a' most ns1 → Calls Try.prog 33 #[.pointer (some ⟨a'.p, 0, none⟩), .int .i64 3, .int .i64 (h : Nat), .int .i64 (f : Nat)] W fun e w' => e = .returned (.tuple #[.int .i64 0, .int .i64 20]) ∧ ∃ a'', Ar w' a'' most ns2 ∧ Tr (fun _ => False) W a' w' a'') := H2
      show Calls Try.prog 40 _ w fun e w' => e = .returned (.tuple #[.int .i64 0, .int .i64 20]) ∧ ∃ a', Ar w' a' most ns2 ∧ Tr (fun _ => False) w a w' a'
      clear C1 M1 M2 e e1 e2 hA hw hf hg hh hx l1
      go_enter Try.func40, Try.ntmps40
      go_wp2_with fail
      refine H1.out.mono ?_
      rintro e w1 ⟨rfl, a1, hA, hT⟩
      have G2 := Lib.hid (H2.out w1 a1 hA)
      rw [hT.m.1] at G2
      have T1 := Lib.hid hT
      clear hA hT H1 H2
      go_wp2_with fail
      refine G2.out.mono ?_
      rintro e w2 ⟨rfl, a2, hA, hT⟩
      have F := Lib.hid (And.intro hA hT)
      clear hA hT
      go_wp2
      go_ret2
      exact ⟨rfl, a2, F.out.1, T1.out.trans F.out.2⟩
    | some y =>
      obtain ⟨hy, -⟩ := M2.set y rfl
      have l2 := M2.ext.len
      have e : iteR most ns f g h = joinF 1 most ns2 x y := by unfold iteR; rw [e1]; simp only; rw [e2]
      rw [e]
      have H3 := Lib.hid (fun (W : World) (a' : AL) (k : Ar W a' most ns2) => join_any 1 most ns2 x y W a' k M2.wf (by omega) hy)
      obtain ⟨R, hR⟩ : ∃ R, joinF 1 most ns2 x y = R := ⟨_, rfl⟩
      rw [hR] at H3 ⊢
      obtain ⟨r, hr⟩ : ∃ r : Int, ((rv R.1 : Nat) : Int) = r := ⟨_, rfl⟩
      obtain ⟨z, hz⟩ : ∃ x : Int, er R.1 = x := ⟨_, rfl⟩
      unfold Ans at H3 ⊢
      rw [hr, hz] at H3 ⊢
      replace H2 : Hid (∀ (W : World) (a' : AL), Ar W a' most ns1 → Calls Try.prog 33 #[.pointer (some ⟨a'.p, 0, none⟩), .int .i64 3, .int .i64 (h : Nat), .int .i64 (f : Nat)] W fun e w' => e = .returned (.tuple #[.int .i64 (y : Nat), .int .i64 0]) ∧ ∃ a'', Ar w' a'' most ns2 ∧ Tr (fun _ => False) W a' w' a'') := H2
      clear C1 M1 M2 e e1 e2 hA hw hf hg hh hx l1 l2 hy hr hz hR
      go_enter Try.func40, Try.ntmps40
      go_wp2_with fail
      refine H1.out.mono ?_
      rintro e w1 ⟨rfl, a1, hA, hT⟩
      have G2 := Lib.hid (H2.out w1 a1 hA)
      rw [hT.m.1] at G2
      have T1 := Lib.hid hT
      clear hA hT H1 H2
      go_wp2_with fail
      refine G2.out.mono ?_
      rintro e w2 ⟨rfl, a2, hA, hT⟩
      have G3 := Lib.hid (H3.out w2 a2 hA)
      rw [hT.m.1, T1.out.m.1] at G3
      have T2 := Lib.hid (T1.out.trans hT)
      clear hA hT H3 T1 G2
      go_wp2_with fail
      refine G3.out.mono ?_
      rintro e w3 ⟨rfl, a3, hA, hT⟩
      have F := Lib.hid (And.intro hA hT)
      clear hA hT
      go_wp2
      go_ret2
      exact ⟨rfl, a3, F.out.1, T2.out.trans F.out.2⟩
theorem chkF_three (n : Nat) (f g h : Int) : chkF n [f, g, h] = if hasB n f && (hasB n g && hasB n h) then 0 else 1 := by unfold chkF; simp [List.all_cons]
theorem iteJ_chk (most : Nat) (ns : List Nd) (f g h : Int) (a : AL) {c : Int} (hc : chkF ns.length [f, g, h] = c) : ∀ W b, Ar W a most ns → W.cell? ⟨b, 0, none⟩ = some (.int .i64 f) → W.cell? ⟨b, 1, none⟩ = some (.int .i64 g) → W.cell? ⟨b, 2, none⟩ = some (.int .i64 h) → Calls Try.prog 30 #[.pointer (some ⟨a.p, 0, none⟩), .slice (some ⟨b, 0, none⟩) 3 3] W fun e w' => e = .returned (.int .i64 c) ∧ W = w' := fun W b hA h0 h1 h2 => by
  subst hc
  exact check_any a most ns W hA b 3 [f, g, h] (by simp) (fun i v hv => by
    match i, hv with
    | 0, hv => cases hv; exact h0
    | 1, hv => cases hv; exact h1
    | 2, hv => cases hv; exact h2)
theorem iteJ_any (most : Nat) (ns : List Nd) (f g h : Nat) (w : World) (a : AL) (hA : Ar w a most ns) (hw : WF ns) (hf : f < ns.length) (hg : g < ns.length) (hh : h < ns.length) :
    Calls Try.prog 23 #[.pointer (some ⟨a.p, 0, none⟩), .int .i64 (f : Nat), .int .i64 (g : Nat), .int .i64 (h : Nat)] w (Ans most (iF most ns f g h) w a) := by
  obtain ⟨-, M, X⟩ := got_ite most hw hf hg hh
  refine iteJ_core3 most ns f g h w a hA (iF most ns f g h) (fun W b0 b1 b2 b3 hA c0 c1 c2 c3 => ?_) (iteJ_chk most ns f g h a ?_)
  · exact whole_core most ns (iteR most ns f g h).2 (iteR most ns f g h).1 39 _ W a hA hw M X Try.call39 (iteL_any most (iteR most ns f g h) f g h W a b0 b1 b2 b3 c0 c1 c2 c3 (ite_any most ns f g h W a hA hw hf hg hh))
  · rw [chkF_three, if_pos]; unfold hasB; simp; omega
theorem iteJ_bad (most : Nat) (ns : List Nd) (f g h : Int) (w : World) (a : AL) (hA : Ar w a most ns) (hb : hasB ns.length f = false ∨ hasB ns.length g = false ∨ hasB ns.length h = false) :
    Calls Try.prog 23 #[.pointer (some ⟨a.p, 0, none⟩), .int .i64 f, .int .i64 g, .int .i64 h] w fun e w' => e = .returned (.tuple #[.int .i64 0, .int .i64 1]) ∧ Below w.heap.size w w' := by
  refine iteJ_core1 most ns f g h w a hA (iteJ_chk most ns f g h a ?_)
  rw [chkF_three, if_neg]
  intro q
  rw [Bool.and_eq_true, Bool.and_eq_true] at q
  obtain ⟨q1, q2, q3⟩ := q
  rcases hb with r | r | r
  · rw [r] at q1; cases q1
  · rw [r] at q2; cases q2
  · rw [r] at q3; cases q3
end Go.Proofs.Ytioanjpeddipmaa
