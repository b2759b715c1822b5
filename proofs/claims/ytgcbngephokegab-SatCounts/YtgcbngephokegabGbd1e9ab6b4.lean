/- Texts joined, in their order: AJ, AI, AU. -/
import Derived.Test.YtgcbngephokegabG29859d04e1
import Derived.Test.YtgcbngephokegabGAQ
import Derived.LoopN
/- Join and Not. -/
namespace Go.Proofs.Ytgcbngephokegab
open Go.RowKit
set_option linter.unusedVariables false

theorem at_calls {P : Program} {f : Nat} {args : Array Value} {R : Ending → World → Prop} {W : World} {S : World → Prop} (h : S W) (k : ∀ W, S W → Calls P f args W R) : Calls P f args W R := k W h
theorem join_any (kind most : Nat) (ns : List Nd) (f g : Nat) (w : World) (a : AL) (h : Ar w a most ns) (hw : WF ns) (hf : f < ns.length) (hg : g < ns.length) :
    Calls Try.prog 37 #[.pointer (some ⟨a.p, 0, none⟩), .int .i64 (kind : Nat), .int .i64 (f : Nat), .int .i64 (g : Nat)] w (Ans most (joinF kind most ns f g) w a) :=
  join_core kind most ns f g w a h (pairF kind most 105 ns [] f g) (fun W jb db hA hJ => pair_any kind most jb db 105 ns [] f g W a hA hw ⟨fun p hp => (by cases hp), List.nodup_nil⟩ hJ hf hg (by omega))
set_option maxRecDepth 100000 in
set_option maxHeartbeats 1000000 in
theorem joinL_any (most : Nat) (R : Option Nat × List Nd) (kind f g : Int) (W : World) (a : AL) (b0 b1 b2 b3 : Nat) (c0 : W.cell? ⟨b0, 0, none⟩ = some (.pointer (some ⟨a.p, 0, none⟩))) (c1 : W.cell? ⟨b1, 0, none⟩ = some (.int .i64 kind)) (c2 : W.cell? ⟨b2, 0, none⟩ = some (.int .i64 f)) (c3 : W.cell? ⟨b3, 0, none⟩ = some (.int .i64 g))
    (HJ : Hid (Calls Try.prog 37 #[.pointer (some ⟨a.p, 0, none⟩), .int .i64 kind, .int .i64 f, .int .i64 g] W (Ans most R W a))) :
    Calls Try.prog 36 #[.pointer (some ⟨b0, 0, none⟩), .pointer (some ⟨b1, 0, none⟩), .pointer (some ⟨b2, 0, none⟩), .pointer (some ⟨b3, 0, none⟩)] W (Ans most R W a) := by
  unfold Ans at HJ ⊢
  obtain ⟨r, hr⟩ : ∃ r : Int, ((rv R.1 : Nat) : Int) = r := ⟨_, rfl⟩
  obtain ⟨x, hx⟩ : ∃ x : Int, er R.1 = x := ⟨_, rfl⟩
  rw [hr, hx] at HJ ⊢
  clear hr hx
  go_enter Try.func36, Try.ntmps36
  go_wp2_with fail
  refine HJ.out.mono ?_
  rintro e w1 ⟨rfl, a1, hA, hT⟩
  have F := Lib.hid (And.intro hA hT)
  clear hA hT
  go_wp2
  go_ret2
  exact ⟨rfl, a1, F.out.1, F.out.2⟩
set_option maxRecDepth 100000 in
set_option maxHeartbeats 2000000 in
theorem joinJ_core1 (most : Nat) (ns : List Nd) (kind f g : Int) (w : World) (a : AL) (h : Ar w a most ns) 
    (HK : Hid (∀ W b, Ar W a most ns → W.cell? ⟨b, 0, none⟩ = some (.int .i64 f) → W.cell? ⟨b, 1, none⟩ = some (.int .i64 g) → Calls Try.prog 35 #[.pointer (some ⟨a.p, 0, none⟩), .slice (some ⟨b, 0, none⟩) 2 2] W fun e w' => e = .returned (.int .i64 (1)) ∧ W = w'))
    : Calls Try.prog 17 #[.pointer (some ⟨a.p, 0, none⟩), .int .i64 kind, .int .i64 f, .int .i64 g] w fun e w' => e = .returned (.tuple #[.int .i64 0, .int .i64 1]) ∧ Below w.heap.size w w' := by
  have A0 := Lib.hid h
  clear h
  have hmf : ∀ (fn : Fn) (first cap : Array Value) (w : World), (Instr.makeFunc fn first cap).run Try.prog w = .ok (.func fn first cap) w := fun _ _ _ _ => rfl
  go_enter Try.func17, Try.ntmps17
  go_wp2_with fail
  refine at_calls (S := fun W => W.cell? ⟨w.heap.size, 0, none⟩ = some (.pointer (some ⟨a.p, 0, none⟩)) ∧ W.cell? ⟨w.heap.size + 1, 0, none⟩ = some (.int .i64 kind) ∧ W.cell? ⟨w.heap.size + 2, 0, none⟩ = some (.int .i64 f) ∧ W.cell? ⟨w.heap.size + 3, 0, none⟩ = some (.int .i64 g) ∧ W.cell? ⟨w.heap.size + 4, 0, none⟩ = some (.int .i64 f) ∧ W.cell? ⟨w.heap.size + 4, 1, none⟩ = some (.int .i64 g) ∧ Below w.heap.size w W) ⟨by simp [go_sem], by simp [go_sem], by simp [go_sem], by simp [go_sem], by simp [go_sem], by simp [go_sem], bel_al (bel_al (bel_al (bel_al (bel_al (Below.refl _ _) _) _) _) _) _⟩ (fun W1 hW => ?_)
  obtain ⟨w_0, w_1, w_2, w_3, k_0, k_1, hb⟩ := hW
  have A1 := Lib.hid (A0.out.on hb)
  have B1 := Lib.hid hb
  clear hb
  refine (HK.out W1 _ A1.out k_0 k_1).mono ?_
  rintro e w' ⟨rfl, rfl⟩
  clear k_0 k_1 HK
  go_wp2
  go_ret2
  exact ⟨rfl, B1.out⟩
set_option maxRecDepth 100000 in
set_option maxHeartbeats 2000000 in
theorem joinJ_core2 (most : Nat) (ns : List Nd) (kind f g : Int) (w : World) (a : AL) (h : Ar w a most ns) (hk : kind < 0 ∨ 3 < kind)
    (HK : Hid (∀ W b, Ar W a most ns → W.cell? ⟨b, 0, none⟩ = some (.int .i64 f) → W.cell? ⟨b, 1, none⟩ = some (.int .i64 g) → Calls Try.prog 35 #[.pointer (some ⟨a.p, 0, none⟩), .slice (some ⟨b, 0, none⟩) 2 2] W fun e w' => e = .returned (.int .i64 (0)) ∧ W = w'))
    : Calls Try.prog 17 #[.pointer (some ⟨a.p, 0, none⟩), .int .i64 kind, .int .i64 f, .int .i64 g] w fun e w' => e = .returned (.tuple #[.int .i64 0, .int .i64 1]) ∧ Below w.heap.size w w' := by
  have A0 := Lib.hid h
  clear h
  have hmf : ∀ (fn : Fn) (first cap : Array Value) (w : World), (Instr.makeFunc fn first cap).run Try.prog w = .ok (.func fn first cap) w := fun _ _ _ _ => rfl
  go_enter Try.func17, Try.ntmps17
  go_wp2_with fail
  refine at_calls (S := fun W => W.cell? ⟨w.heap.size, 0, none⟩ = some (.pointer (some ⟨a.p, 0, none⟩)) ∧ W.cell? ⟨w.heap.size + 1, 0, none⟩ = some (.int .i64 kind) ∧ W.cell? ⟨w.heap.size + 2, 0, none⟩ = some (.int .i64 f) ∧ W.cell? ⟨w.heap.size + 3, 0, none⟩ = some (.int .i64 g) ∧ W.cell? ⟨w.heap.size + 4, 0, none⟩ = some (.int .i64 f) ∧ W.cell? ⟨w.heap.size + 4, 1, none⟩ = some (.int .i64 g) ∧ Below w.heap.size w W) ⟨by simp [go_sem], by simp [go_sem], by simp [go_sem], by simp [go_sem], by simp [go_sem], by simp [go_sem], bel_al (bel_al (bel_al (bel_al (bel_al (Below.refl _ _) _) _) _) _) _⟩ (fun W1 hW => ?_)
  obtain ⟨w_0, w_1, w_2, w_3, k_0, k_1, hb⟩ := hW
  have A1 := Lib.hid (A0.out.on hb)
  have B1 := Lib.hid hb
  clear hb
  refine (HK.out W1 _ A1.out k_0 k_1).mono ?_
  rintro e w' ⟨rfl, rfl⟩
  clear k_0 k_1 HK
  rcases hk with hk | hk
  · go_wp2
    go_ret2
    exact ⟨rfl, B1.out⟩
  · have hk' : ¬ kind < 0 := by omega
    go_wp2
    go_ret2
    exact ⟨rfl, B1.out⟩
set_option maxRecDepth 100000 in
set_option maxHeartbeats 2000000 in
theorem joinJ_core3 (most : Nat) (ns : List Nd) (kind f g : Int) (w : World) (a : AL) (h : Ar w a most ns) (hk0 : ¬ kind < 0) (hk3 : ¬ 3 < kind) (R : Option Nat × List Nd) (HW : Hid (∀ W (b0 b1 b2 b3 : Nat), Ar W a most ns → W.cell? ⟨b0, 0, none⟩ = some (.pointer (some ⟨a.p, 0, none⟩)) → W.cell? ⟨b1, 0, none⟩ = some (.int .i64 kind) → W.cell? ⟨b2, 0, none⟩ = some (.int .i64 f) → W.cell? ⟨b3, 0, none⟩ = some (.int .i64 g) → Calls Try.prog 32 #[.pointer (some ⟨a.p, 0, none⟩), .func (.func 36) #[] #[.pointer (some ⟨b0, 0, none⟩), .pointer (some ⟨b1, 0, none⟩), .pointer (some ⟨b2, 0, none⟩), .pointer (some ⟨b3, 0, none⟩)]] W (Ans most R W a)))
    (HK : Hid (∀ W b, Ar W a most ns → W.cell? ⟨b, 0, none⟩ = some (.int .i64 f) → W.cell? ⟨b, 1, none⟩ = some (.int .i64 g) → Calls Try.prog 35 #[.pointer (some ⟨a.p, 0, none⟩), .slice (some ⟨b, 0, none⟩) 2 2] W fun e w' => e = .returned (.int .i64 (0)) ∧ W = w'))
    : Calls Try.prog 17 #[.pointer (some ⟨a.p, 0, none⟩), .int .i64 kind, .int .i64 f, .int .i64 g] w (Ans most R w a) := by
  obtain ⟨r, hr⟩ : ∃ r : Int, ((rv R.1 : Nat) : Int) = r := ⟨_, rfl⟩
  obtain ⟨x, hx⟩ : ∃ x : Int, er R.1 = x := ⟨_, rfl⟩
  unfold Ans at HW ⊢
  rw [hr, hx] at HW ⊢
  clear hr hx
  have A0 := Lib.hid h
  clear h
  have hmf : ∀ (fn : Fn) (first cap : Array Value) (w : World), (Instr.makeFunc fn first cap).run Try.prog w = .ok (.func fn first cap) w := fun _ _ _ _ => rfl
  go_enter Try.func17, Try.ntmps17
  go_wp2_with fail
  refine at_calls (S := fun W => W.cell? ⟨w.heap.size, 0, none⟩ = some (.pointer (some ⟨a.p, 0, none⟩)) ∧ W.cell? ⟨w.heap.size + 1, 0, none⟩ = some (.int .i64 kind) ∧ W.cell? ⟨w.heap.size + 2, 0, none⟩ = some (.int .i64 f) ∧ W.cell? ⟨w.heap.size + 3, 0, none⟩ = some (.int .i64 g) ∧ W.cell? ⟨w.heap.size + 4, 0, none⟩ = some (.int .i64 f) ∧ W.cell? ⟨w.heap.size + 4, 1, none⟩ = some (.int .i64 g) ∧ Below w.heap.size w W) ⟨by simp [go_sem], by simp [go_sem], by simp [go_sem], by simp [go_sem], by simp [go_sem], by simp [go_sem], bel_al (bel_al (bel_al (bel_al (bel_al (Below.refl _ _) _) _) _) _) _⟩ (fun W1 hW => ?_)
  obtain ⟨w_0, w_1, w_2, w_3, k_0, k_1, hb⟩ := hW
  have A1 := Lib.hid (A0.out.on hb)
  have B1 := Lib.hid hb
  clear hb
  refine (HK.out W1 _ A1.out k_0 k_1).mono ?_
  rintro e w' ⟨rfl, rfl⟩
  clear k_0 k_1 HK
  have CW := Lib.hid (HW.out W1 _ _ _ _ A1.out w_0 w_1 w_2 w_3)
  clear HW
  go_wp2_with fail
  refine CW.out.mono ?_
  rintro e w2 ⟨rfl, a2, hA, hT⟩
  have F := Lib.hid (And.intro hA hT)
  clear hA hT
  go_wp2
  go_ret2
  exact ⟨rfl, a2, F.out.1, Tr.ahead B1.out F.out.2⟩
set_option maxRecDepth 100000 in
set_option maxHeartbeats 2000000 in
theorem join_nil (kind f g : Int) (w : World) : Calls Try.prog 17 #[.pointer none, .int .i64 kind, .int .i64 f, .int .i64 g] w fun e w' => e = .returned (.tuple #[.int .i64 0, .int .i64 2]) ∧ Below w.heap.size w w' := by
  have HK := Lib.hid (fun v W => check_nil v W)
  go_enter Try.func17, Try.ntmps17
  go_wp2_with fail
  refine at_calls (S := fun W => Below w.heap.size w W) (bel_al (bel_al (bel_al (bel_al (bel_al (Below.refl _ _) _) _) _) _) _) (fun W1 hb => ?_)
  have B1 := Lib.hid hb
  clear hb
  refine (HK.out _ W1).mono ?_
  rintro e w' ⟨rfl, rfl⟩
  go_wp2
  go_ret2
  exact ⟨rfl, B1.out⟩
theorem chkF_two (n : Nat) (f g : Int) : chkF n [f, g] = if hasB n f && hasB n g then 0 else 1 := by unfold chkF; simp [List.all_cons]
theorem joinJ_chk (most : Nat) (ns : List Nd) (f g : Int) (a : AL) {c : Int} (hc : chkF ns.length [f, g] = c) : ∀ W b, Ar W a most ns → W.cell? ⟨b, 0, none⟩ = some (.int .i64 f) → W.cell? ⟨b, 1, none⟩ = some (.int .i64 g) → Calls Try.prog 35 #[.pointer (some ⟨a.p, 0, none⟩), .slice (some ⟨b, 0, none⟩) 2 2] W fun e w' => e = .returned (.int .i64 c) ∧ W = w' := fun W b hA h0 h1 => by
  subst hc
  exact check_any a most ns W hA b 2 [f, g] (by simp) (fun i v hv => by
    match i, hv with
    | 0, hv => cases hv; exact h0
    | 1, hv => cases hv; exact h1)
/-- Join of sets and a kind that there are. -/
theorem joinJ_any (kind most : Nat) (ns : List Nd) (f g : Nat) (w : World) (a : AL) (h : Ar w a most ns) (hw : WF ns) (hk : kind ≤ 3) (hf : f < ns.length) (hg : g < ns.length) :
    Calls Try.prog 17 #[.pointer (some ⟨a.p, 0, none⟩), .int .i64 (kind : Nat), .int .i64 (f : Nat), .int .i64 (g : Nat)] w (Ans most (jF kind most ns f g) w a) := by
  have M := joinF_made kind most hw hf hg
  refine joinJ_core3 most ns kind f g w a h (by omega) (by omega) (jF kind most ns f g) (fun W b0 b1 b2 b3 hA c0 c1 c2 c3 => ?_) (joinJ_chk most ns f g a ?_)
  · have k := whole_core most ns (joinF kind most ns f g).2 (joinF kind most ns f g).1 36 _ W a hA hw M.wf M.ext Try.call36 (joinL_any most (joinF kind most ns f g) kind f g W a b0 b1 b2 b3 c0 c1 c2 c3 (join_any kind most ns f g W a hA hw hf hg))
    exact k
  · rw [chkF_two, if_pos]; unfold hasB; simp; omega
/-- .. of others. -/
theorem joinJ_bad (most : Nat) (ns : List Nd) (kind f g : Int) (w : World) (a : AL) (h : Ar w a most ns) (hb : kind < 0 ∨ 3 < kind ∨ hasB ns.length f = false ∨ hasB ns.length g = false) :
    Calls Try.prog 17 #[.pointer (some ⟨a.p, 0, none⟩), .int .i64 kind, .int .i64 f, .int .i64 g] w fun e w' => e = .returned (.tuple #[.int .i64 0, .int .i64 1]) ∧ Below w.heap.size w w' := by
  by_cases hc : hasB ns.length f = true ∧ hasB ns.length g = true
  · refine joinJ_core2 most ns kind f g w a h ?_ (joinJ_chk most ns f g a ?_)
    · rcases hb with q | q | q | q
      · exact Or.inl q
      · exact Or.inr q
      · rw [q] at hc; exact absurd hc.1 (by simp)
      · rw [q] at hc; exact absurd hc.2 (by simp)
    · rw [chkF_two, if_pos]; simp [hc.1, hc.2]
  · refine joinJ_core1 most ns kind f g w a h (joinJ_chk most ns f g a ?_)
    rw [chkF_two, if_neg]
    intro q
    rw [Bool.and_eq_true] at q
    exact hc q
set_option maxRecDepth 100000 in
set_option maxHeartbeats 1000000 in
theorem not_core (most : Nat) (R : Option Nat × List Nd) (f : Int) (w : World) (a : AL)
    (HJ : Hid (Calls Try.prog 17 #[.pointer (some ⟨a.p, 0, none⟩), .int .i64 3, .int .i64 1, .int .i64 f] w (Ans most R w a))) :
    Calls Try.prog 18 #[.pointer (some ⟨a.p, 0, none⟩), .int .i64 f] w (Ans most R w a) := by
  unfold Ans at HJ ⊢
  obtain ⟨r, hr⟩ : ∃ r : Int, ((rv R.1 : Nat) : Int) = r := ⟨_, rfl⟩
  obtain ⟨x, hx⟩ : ∃ x : Int, er R.1 = x := ⟨_, rfl⟩
  rw [hr, hx] at HJ ⊢
  clear hr hx
  go_enter Try.func18, Try.ntmps18
  go_wp2_with fail
  refine HJ.out.mono ?_
  rintro e w1 ⟨rfl, a1, hA, hT⟩
  have F := Lib.hid (And.intro hA hT)
  clear hA hT
  go_wp2
  go_ret2
  exact ⟨rfl, a1, F.out.1, F.out.2⟩
theorem not_any (most : Nat) (ns : List Nd) (f : Nat) (w : World) (a : AL) (h : Ar w a most ns) (hw : WF ns) (hf : f < ns.length) :
    Calls Try.prog 18 #[.pointer (some ⟨a.p, 0, none⟩), .int .i64 (f : Nat)] w (Ans most (jF 3 most ns 1 f) w a) :=
  not_core most _ f w a (joinJ_any 3 most ns 1 f w a h hw (by omega) (by have := hw.len; omega) hf)
end Go.Proofs.Ytgcbngephokegab
/- Ite. -/
namespace Go.Proofs.Ytgcbngephokegab
open Go.RowKit
set_option linter.unusedVariables false

set_option maxRecDepth 100000 in
set_option maxHeartbeats 1000000 in
theorem iteL_any (most : Nat) (R : Option Nat × List Nd) (f g h : Int) (W : World) (a : AL) (b0 b1 b2 b3 : Nat) (c0 : W.cell? ⟨b0, 0, none⟩ = some (.pointer (some ⟨a.p, 0, none⟩))) (c1 : W.cell? ⟨b1, 0, none⟩ = some (.int .i64 f)) (c2 : W.cell? ⟨b2, 0, none⟩ = some (.int .i64 g)) (c3 : W.cell? ⟨b3, 0, none⟩ = some (.int .i64 h))
    (HJ : Hid (Calls Try.prog 41 #[.pointer (some ⟨a.p, 0, none⟩), .int .i64 f, .int .i64 g, .int .i64 h] W (Ans most R W a))) :
    Calls Try.prog 40 #[.pointer (some ⟨b0, 0, none⟩), .pointer (some ⟨b1, 0, none⟩), .pointer (some ⟨b2, 0, none⟩), .pointer (some ⟨b3, 0, none⟩)] W (Ans most R W a) := by
  unfold Ans at HJ ⊢
  obtain ⟨r, hr⟩ : ∃ r : Int, ((rv R.1 : Nat) : Int) = r := ⟨_, rfl⟩
  obtain ⟨x, hx⟩ : ∃ x : Int, er R.1 = x := ⟨_, rfl⟩
  rw [hr, hx] at HJ ⊢
  clear hr hx
  go_enter Try.func40, Try.ntmps40
  go_wp2_with fail
  refine HJ.out.mono ?_
  rintro e w1 ⟨rfl, a1, hA, hT⟩
  have F := Lib.hid (And.intro hA hT)
  clear hA hT
  go_wp2
  go_ret2
  exact ⟨rfl, a1, F.out.1, F.out.2⟩
set_option maxRecDepth 100000 in
set_option maxHeartbeats 2000000 in
theorem iteJ_core1 (most : Nat) (ns : List Nd) (f g h : Int) (w : World) (a : AL) (hA0 : Ar w a most ns) 
    (HK : Hid (∀ W b, Ar W a most ns → W.cell? ⟨b, 0, none⟩ = some (.int .i64 f) → W.cell? ⟨b, 1, none⟩ = some (.int .i64 g) → W.cell? ⟨b, 2, none⟩ = some (.int .i64 h) → Calls Try.prog 35 #[.pointer (some ⟨a.p, 0, none⟩), .slice (some ⟨b, 0, none⟩) 3 3] W fun e w' => e = .returned (.int .i64 (1)) ∧ W = w'))
    : Calls Try.prog 20 #[.pointer (some ⟨a.p, 0, none⟩), .int .i64 f, .int .i64 g, .int .i64 h] w fun e w' => e = .returned (.tuple #[.int .i64 0, .int .i64 1]) ∧ Below w.heap.size w w' := by
  have A0 := Lib.hid hA0
  clear hA0
  have hmf : ∀ (fn : Fn) (first cap : Array Value) (w : World), (Instr.makeFunc fn first cap).run Try.prog w = .ok (.func fn first cap) w := fun _ _ _ _ => rfl
  go_enter Try.func20, Try.ntmps20
  go_wp2_with fail
  refine at_calls (S := fun W => W.cell? ⟨w.heap.size, 0, none⟩ = some (.pointer (some ⟨a.p, 0, none⟩)) ∧ W.cell? ⟨w.heap.size + 1, 0, none⟩ = some (.int .i64 f) ∧ W.cell? ⟨w.heap.size + 2, 0, none⟩ = some (.int .i64 g) ∧ W.cell? ⟨w.heap.size + 3, 0, none⟩ = some (.int .i64 h) ∧ W.cell? ⟨w.heap.size + 4, 0, none⟩ = some (.int .i64 f) ∧ W.cell? ⟨w.heap.size + 4, 1, none⟩ = some (.int .i64 g) ∧ W.cell? ⟨w.heap.size + 4, 2, none⟩ = some (.int .i64 h) ∧ Below w.heap.size w W) ⟨by simp [go_sem], by simp [go_sem], by simp [go_sem], by simp [go_sem], by simp [go_sem], by simp [go_sem], by simp [go_sem], bel_al (bel_al (bel_al (bel_al (bel_al (Below.refl _ _) _) _) _) _) _⟩ (fun W1 hW => ?_)
  obtain ⟨w_0, w_1, w_2, w_3, k_0, k_1, k_2, hb⟩ := hW
  have A1 := Lib.hid (A0.out.on hb)
  have B1 := Lib.hid hb
  clear hb
  refine (HK.out W1 _ A1.out k_0 k_1 k_2).mono ?_
  rintro e w' ⟨rfl, rfl⟩
  clear k_0 k_1 k_2 HK
  go_wp2
  go_ret2
  exact ⟨rfl, B1.out⟩
set_option maxRecDepth 100000 in
set_option maxHeartbeats 2000000 in
theorem iteJ_core3 (most : Nat) (ns : List Nd) (f g h : Int) (w : World) (a : AL) (hA0 : Ar w a most ns) (R : Option Nat × List Nd) (HW : Hid (∀ W (b0 b1 b2 b3 : Nat), Ar W a most ns → W.cell? ⟨b0, 0, none⟩ = some (.pointer (some ⟨a.p, 0, none⟩)) → W.cell? ⟨b1, 0, none⟩ = some (.int .i64 f) → W.cell? ⟨b2, 0, none⟩ = some (.int .i64 g) → W.cell? ⟨b3, 0, none⟩ = some (.int .i64 h) → Calls Try.prog 32 #[.pointer (some ⟨a.p, 0, none⟩), .func (.func 40) #[] #[.pointer (some ⟨b0, 0, none⟩), .pointer (some ⟨b1, 0, none⟩), .pointer (some ⟨b2, 0, none⟩), .pointer (some ⟨b3, 0, none⟩)]] W (Ans most R W a)))
    (HK : Hid (∀ W b, Ar W a most ns → W.cell? ⟨b, 0, none⟩ = some (.int .i64 f) → W.cell? ⟨b, 1, none⟩ = some (.int .i64 g) → W.cell? ⟨b, 2, none⟩ = some (.int .i64 h) → Calls Try.prog 35 #[.pointer (some ⟨a.p, 0, none⟩), .slice (some ⟨b, 0, none⟩) 3 3] W fun e w' => e = .returned (.int .i64 (0)) ∧ W = w'))
    : Calls Try.prog 20 #[.pointer (some ⟨a.p, 0, none⟩), .int .i64 f, .int .i64 g, .int .i64 h] w (Ans most R w a) := by
  obtain ⟨r, hr⟩ : ∃ r : Int, ((rv R.1 : Nat) : Int) = r := ⟨_, rfl⟩
  obtain ⟨x, hx⟩ : ∃ x : Int, er R.1 = x := ⟨_, rfl⟩
  unfold Ans at HW ⊢
  rw [hr, hx] at HW ⊢
  clear hr hx
  have A0 := Lib.hid hA0
  clear hA0
  have hmf : ∀ (fn : Fn) (first cap : Array Value) (w : World), (Instr.makeFunc fn first cap).run Try.prog w = .ok (.func fn first cap) w := fun _ _ _ _ => rfl
  go_enter Try.func20, Try.ntmps20
  go_wp2_with fail
  refine at_calls (S := fun W => W.cell? ⟨w.heap.size, 0, none⟩ = some (.pointer (some ⟨a.p, 0, none⟩)) ∧ W.cell? ⟨w.heap.size + 1, 0, none⟩ = some (.int .i64 f) ∧ W.cell? ⟨w.heap.size + 2, 0, none⟩ = some (.int .i64 g) ∧ W.cell? ⟨w.heap.size + 3, 0, none⟩ = some (.int .i64 h) ∧ W.cell? ⟨w.heap.size + 4, 0, none⟩ = some (.int .i64 f) ∧ W.cell? ⟨w.heap.size + 4, 1, none⟩ = some (.int .i64 g) ∧ W.cell? ⟨w.heap.size + 4, 2, none⟩ = some (.int .i64 h) ∧ Below w.heap.size w W) ⟨by simp [go_sem], by simp [go_sem], by simp [go_sem], by simp [go_sem], by simp [go_sem], by simp [go_sem], by simp [go_sem], bel_al (bel_al (bel_al (bel_al (bel_al (Below.refl _ _) _) _) _) _) _⟩ (fun W1 hW => ?_)
  obtain ⟨w_0, w_1, w_2, w_3, k_0, k_1, k_2, hb⟩ := hW
  have A1 := Lib.hid (A0.out.on hb)
  have B1 := Lib.hid hb
  clear hb
  refine (HK.out W1 _ A1.out k_0 k_1 k_2).mono ?_
  rintro e w' ⟨rfl, rfl⟩
  clear k_0 k_1 k_2 HK
  have CW := Lib.hid (HW.out W1 _ _ _ _ A1.out w_0 w_1 w_2 w_3)
  clear HW
  go_wp2_with fail
  refine CW.out.mono ?_
  rintro e w2 ⟨rfl, a2, hA, hT⟩
  have F := Lib.hid (And.intro hA hT)
  clear hA hT
  go_wp2
  go_ret2
  exact ⟨rfl, a2, F.out.1, Tr.ahead B1.out F.out.2⟩
set_option maxRecDepth 100000 in
set_option maxHeartbeats 2000000 in
theorem ite_nil (f g h : Int) (w : World) : Calls Try.prog 20 #[.pointer none, .int .i64 f, .int .i64 g, .int .i64 h] w fun e w' => e = .returned (.tuple #[.int .i64 0, .int .i64 2]) ∧ Below w.heap.size w w' := by
  have HK := Lib.hid (fun v W => check_nil v W)
  go_enter Try.func20, Try.ntmps20
  go_wp2_with fail
  refine at_calls (S := fun W => Below w.heap.size w W) (bel_al (bel_al (bel_al (bel_al (bel_al (Below.refl _ _) _) _) _) _) _) (fun W1 hb => ?_)
  have B1 := Lib.hid hb
  clear hb
  refine (HK.out _ W1).mono ?_
  rintro e w' ⟨rfl, rfl⟩
  go_wp2
  go_ret2
  exact ⟨rfl, B1.out⟩

set_option maxRecDepth 100000 in
set_option maxHeartbeats 2000000 in
theorem ite_any (most : Nat) (ns : List Nd) (f g h : Nat) (w : World) (a : AL) (hA : Ar w a most ns) (hw : WF ns) (hf : f < ns.length) (hg : g < ns.length) (hh : h < ns.length) :
    Calls Try.prog 41 #[.pointer (some ⟨a.p, 0, none⟩), .int .i64 (f : Nat), .int .i64 (g : Nat), .int .i64 (h : Nat)] w (Ans most (iteR most ns f g h) w a) := by
  have C1 := join_any 0 most ns f g w a hA hw hf hg
  have M1 := joinF_made 0 most hw hf hg
  obtain ⟨r1, ns1, e1⟩ : ∃ r ns', joinF 0 most ns f g = (r, ns') := ⟨_, _, rfl⟩
  rw [e1] at C1 M1
  simp only at M1
  cases r1 with
  | none =>
    have e : iteR most ns f g h = (none, ns1) := by unfold iteR; rw [e1]
    rw [e]
    have H1 : Hid (Calls Try.prog 37 #[.pointer (some ⟨a.p, 0, none⟩), .int .i64 0, .int .i64 (f : Nat), .int .i64 (g : Nat)] w fun e w' => e = .returned (.tuple #[.int .i64 0, .int .i64 20]) ∧ ∃ a', Ar w' a' most ns1 ∧ Tr (fun _ => False) w a w' a') := C1
    show Calls Try.prog 41 _ w fun e w' => e = .returned (.tuple #[.int .i64 0, .int .i64 20]) ∧ ∃ a', Ar w' a' most ns1 ∧ Tr (fun _ => False) w a w' a'
    clear C1 M1 e e1 hA hw hf hg hh
    go_enter Try.func41, Try.ntmps41
    go_wp2_with fail
    refine H1.out.mono ?_
    rintro e w1 ⟨rfl, a1, hA, hT⟩
    have F := Lib.hid (And.intro hA hT)
    clear hA hT
    go_wp2
    go_ret2
    exact ⟨rfl, a1, F.out.1, F.out.2⟩
  | some x =>
    obtain ⟨hx, -⟩ := M1.set x rfl
    have l1 := M1.ext.len
    have M2 := joinF_made 3 most (ns := ns1) (f := h) (g := f) M1.wf (by omega) (by omega)
    have H1 : Hid (Calls Try.prog 37 #[.pointer (some ⟨a.p, 0, none⟩), .int .i64 0, .int .i64 (f : Nat), .int .i64 (g : Nat)] w fun e w' => e = .returned (.tuple #[.int .i64 (x : Nat), .int .i64 0]) ∧ ∃ a', Ar w' a' most ns1 ∧ Tr (fun _ => False) w a w' a') := C1
    have H2 := Lib.hid (fun (W : World) (a' : AL) (k : Ar W a' most ns1) => join_any 3 most ns1 h f W a' k M1.wf (by omega) (by omega))
    obtain ⟨r2, ns2, e2⟩ : ∃ r ns', joinF 3 most ns1 h f = (r, ns') := ⟨_, _, rfl⟩
    rw [e2] at H2 M2
    simp only at M2
    cases r2 with
    | none =>
      have e : iteR most ns f g h = (none, ns2) := by unfold iteR; rw [e1]; simp only; rw [e2]
      rw [e]
      replace H2 : Hid (∀ (W : World) (a' : AL), Ar W a' most ns1 → Calls Try.prog 37 #[.pointer (some ⟨a'.p, 0, none⟩), .int .i64 3, .int .i64 (h : Nat), .int .i64 (f : Nat)] W fun e w' => e = .returned (.tuple #[.int .i64 0, .int .i64 20]) ∧ ∃ a'', Ar w' a'' most ns2 ∧ Tr (fun _ => False) W a' w' a'') := H2
      show Calls Try.prog 41 _ w fun e w' => e = .returned (.tuple #[.int .i64 0, .int .i64 20]) ∧ ∃ a', Ar w' a' most ns2 ∧ Tr (fun _ => False) w a w' a'
      clear C1 M1 M2 e e1 e2 hA hw hf hg hh hx l1
      go_enter Try.func41, Try.ntmps41
      go_wp2_with fail
      refine H1.out.mono ?_
      rintro e w1 ⟨rfl, a1, hA, hT⟩
      have G2 := Lib.hid (H2.out w1 a1 hA)
      rw [hT.m.1] at G2
      have T1 := Lib.hid hT
      clear hA hT H1 H2
      go_wp2_with fail
      refine G2.out.mono ?_
      rintro e w2 ⟨rfl, a2, hA, hT⟩
      have F := Lib.hid (And.intro hA hT)
      clear hA hT
      go_wp2
      go_ret2
      exact ⟨rfl, a2, F.out.1, T1.out.trans F.out.2⟩
    | some y =>
      obtain ⟨hy, -⟩ := M2.set y rfl
      have l2 := M2.ext.len
      have e : iteR most ns f g h = joinF 1 most ns2 x y := by unfold iteR; rw [e1]; simp only; rw [e2]
      rw [e]
      have H3 := Lib.hid (fun (W : World) (a' : AL) (k : Ar W a' most ns2) => join_any 1 most ns2 x y W a' k M2.wf (by omega) hy)
      obtain ⟨R, hR⟩ : ∃ R, joinF 1 most ns2 x y = R := ⟨_, rfl⟩
      rw [hR] at H3 ⊢
      obtain ⟨r, hr⟩ : ∃ r : Int, ((rv R.1 : Nat) : Int) = r := ⟨_, rfl⟩
      obtain ⟨z, hz⟩ : ∃ x : Int, er R.1 = x := ⟨_, rfl⟩
      unfold Ans at H3 ⊢
      rw [hr, hz] at H3 ⊢
      replace H2 : Hid (∀ (W : World) (a' : AL), Ar W a' most ns1 → Calls Try.prog 37 #[.pointer (some ⟨a'.p, 0, none⟩), .int .i64 3, .int .i64 (h : Nat), .int .i64 (f : Nat)] W fun e w' => e = .returned (.tuple #[.int .i64 (y : Nat), .int .i64 0]) ∧ ∃ a'', Ar w' a'' most ns2 ∧ Tr (fun _ => False) W a' w' a'') := H2
      clear C1 M1 M2 e e1 e2 hA hw hf hg hh hx l1 l2 hy hr hz hR
      go_enter Try.func41, Try.ntmps41
      go_wp2_with fail
      refine H1.out.mono ?_
      rintro e w1 ⟨rfl, a1, hA, hT⟩
      have G2 := Lib.hid (H2.out w1 a1 hA)
      rw [hT.m.1] at G2
      have T1 := Lib.hid hT
      clear hA hT H1 H2
      go_wp2_with fail
      refine G2.out.mono ?_
      rintro e w2 ⟨rfl, a2, hA, hT⟩
      have G3 := Lib.hid (H3.out w2 a2 hA)
      rw [hT.m.1, T1.out.m.1] at G3
      have T2 := Lib.hid (T1.out.trans hT)
      clear hA hT H3 T1 G2
      go_wp2_with fail
      refine G3.out.mono ?_
      rintro e w3 ⟨rfl, a3, hA, hT⟩
      have F := Lib.hid (And.intro hA hT)
      clear hA hT
      go_wp2
      go_ret2
      exact ⟨rfl, a3, F.out.1, T2.out.trans F.out.2⟩
theorem chkF_three (n : Nat) (f g h : Int) : chkF n [f, g, h] = if hasB n f && (hasB n g && hasB n h) then 0 else 1 := by unfold chkF; simp [List.all_cons]
theorem iteJ_chk (most : Nat) (ns : List Nd) (f g h : Int) (a : AL) {c : Int} (hc : chkF ns.length [f, g, h] = c) : ∀ W b, Ar W a most ns → W.cell? ⟨b, 0, none⟩ = some (.int .i64 f) → W.cell? ⟨b, 1, none⟩ = some (.int .i64 g) → W.cell? ⟨b, 2, none⟩ = some (.int .i64 h) → Calls Try.prog 35 #[.pointer (some ⟨a.p, 0, none⟩), .slice (some ⟨b, 0, none⟩) 3 3] W fun e w' => e = .returned (.int .i64 c) ∧ W = w' := fun W b hA h0 h1 h2 => by
  subst hc
  exact check_any a most ns W hA b 3 [f, g, h] (by simp) (fun i v hv => by
    match i, hv with
    | 0, hv => cases hv; exact h0
    | 1, hv => cases hv; exact h1
    | 2, hv => cases hv; exact h2)
theorem iteJ_any (most : Nat) (ns : List Nd) (f g h : Nat) (w : World) (a : AL) (hA : Ar w a most ns) (hw : WF ns) (hf : f < ns.length) (hg : g < ns.length) (hh : h < ns.length) :
    Calls Try.prog 20 #[.pointer (some ⟨a.p, 0, none⟩), .int .i64 (f : Nat), .int .i64 (g : Nat), .int .i64 (h : Nat)] w (Ans most (iF most ns f g h) w a) := by
  obtain ⟨-, M, X⟩ := got_ite most hw hf hg hh
  refine iteJ_core3 most ns f g h w a hA (iF most ns f g h) (fun W b0 b1 b2 b3 hA c0 c1 c2 c3 => ?_) (iteJ_chk most ns f g h a ?_)
  · exact whole_core most ns (iteR most ns f g h).2 (iteR most ns f g h).1 40 _ W a hA hw M X Try.call40 (iteL_any most (iteR most ns f g h) f g h W a b0 b1 b2 b3 c0 c1 c2 c3 (ite_any most ns f g h W a hA hw hf hg hh))
  · rw [chkF_three, if_pos]; unfold hasB; simp; omega
theorem iteJ_bad (most : Nat) (ns : List Nd) (f g h : Int) (w : World) (a : AL) (hA : Ar w a most ns) (hb : hasB ns.length f = false ∨ hasB ns.length g = false ∨ hasB ns.length h = false) :
    Calls Try.prog 20 #[.pointer (some ⟨a.p, 0, none⟩), .int .i64 f, .int .i64 g, .int .i64 h] w fun e w' => e = .returned (.tuple #[.int .i64 0, .int .i64 1]) ∧ Below w.heap.size w w' := by
  refine iteJ_core1 most ns f g h w a hA (iteJ_chk most ns f g h a ?_)
  rw [chkF_three, if_neg]
  intro q
  rw [Bool.and_eq_true, Bool.and_eq_true] at q
  obtain ⟨q1, q2, q3⟩ := q
  rcases hb with r | r | r
  · rw [r] at q1; cases q1
  · rw [r] at q2; cases q2
  · rw [r] at q3; cases q3
end Go.Proofs.Ytgcbngephokegab
/- The headers that have some bits so. -/
namespace Go.Proofs.Ytgcbngephokegab
open Go.RowKit
set_option linter.unusedVariables false

/-- Bits, as they lie. -/
def LitC (w : World) (b : Nat) (l : List (Int × Bool)) : Prop := ∀ i x, l[i]? = some x → w.cell? ⟨b, i * 2, none⟩ = some (.int .i64 x.1) ∧ w.cell? ⟨b, i * 2 + 1, none⟩ = some (.bool x.2)
theorem LitC.on {w w' : World} {b : Nat} {l : List (Int × Bool)} (h : LitC w b l) (hb : Below w.heap.size w w') : LitC w' b l := fun i x hx => by
  obtain ⟨h1, h2⟩ := h i x hx
  exact ⟨(hb.cell (p := ⟨b, i * 2, none⟩) (cell_lt (o := i * 2) (by rw [h1]; rfl))).trans h1, (hb.cell (p := ⟨b, i * 2 + 1, none⟩) (cell_lt (o := i * 2 + 1) (by rw [h2]; rfl))).trans h2⟩
theorem LitC.blk {w w' : World} {b : Nat} {l : List (Int × Bool)} (h : LitC w b l) (hb : w'.heap[b]? = w.heap[b]?) : LitC w' b l := fun i x hx => by
  obtain ⟨h1, h2⟩ := h i x hx
  exact ⟨(World.cell?_of_block (w := w) (a := ⟨b, i * 2, none⟩) hb).trans h1, (World.cell?_of_block (w := w) (a := ⟨b, i * 2 + 1, none⟩) hb).trans h2⟩
theorem LitC.lt {w : World} {b : Nat} {x : Int × Bool} {l : List (Int × Bool)} (h : LitC w b (x :: l)) : b < w.heap.size := cell_lt (o := 0 * 2) (by rw [(h 0 x rfl).1]; rfl)
def natL (l : List (Nat × Bool)) : List (Int × Bool) := l.map fun p => ((p.1 : Int), p.2)
theorem natL_len (l : List (Nat × Bool)) : (natL l).length = l.length := by simp [natL]
theorem natL_get {l : List (Nat × Bool)} {i : Nat} {p : Nat × Bool} (h : l[i]? = some p) : (natL l)[i]? = some ((p.1 : Int), p.2) := by simp [natL, h]
theorem drop_one {α : Type} {l : List α} {j : Nat} {p : α} (h : l[j]? = some p) : l.drop j = p :: l.drop (j + 1) := by
  have hj := lt_of_get h
  rw [List.getElem?_eq_getElem hj] at h
  cases h
  exact List.drop_eq_getElem_cons hj
/-- Bits that rise. -/
def Rise (l : List (Nat × Bool)) : Prop := l.Pairwise (fun a b => a.1 < b.1) ∧ ∀ p ∈ l, p.1 < 104
theorem Rise.drop {l : List (Nat × Bool)} (h : Rise l) (k : Nat) : Rise (l.drop k) := ⟨h.1.sublist (List.drop_sublist _ _), fun p hp => h.2 p (List.mem_of_mem_drop hp)⟩
theorem Rise.len {l : List (Nat × Bool)} (h : Rise l) : l.length ≤ 104 := by
  have h1 : (l.map (·.1)).Nodup := by
    unfold List.Nodup
    rw [List.pairwise_map]
    exact h.1.imp (fun {a b} q e => by omega)
  have := nodup_sub _ (List.range 104) h1 (fun v hv => by
    obtain ⟨p, hp, rfl⟩ := List.mem_map.1 hv
    rw [List.mem_range]; exact h.2 p hp)
  rw [List.length_map, List.length_range] at this
  exact this
/-- Where there was no room for bits behind there is none. -/
theorem cubeF_stuck (most : Nat) (ns : List Nd) : ∀ (j : Nat) (l : List (Nat × Bool)) {ns1 : List Nd}, cubeF most ns (l.drop j) = (none, ns1) → cubeF most ns l = (none, ns1)
  | 0, l, ns1, h => h
  | j + 1, [], ns1, h => h
  | j + 1, p :: r, ns1, h => by
    have := cubeF_stuck most ns j r (by simpa using h)
    rw [cubeF.eq_2, this]
set_option maxRecDepth 100000 in
set_option maxHeartbeats 4000000 in
theorem cube_any (a : AL) (most : Nat) (ns : List Nd) (l : List (Nat × Bool)) (w : World) (h : Ar w a most ns) (hw : WF ns) (hr : Rise l) (b cap : Nat) (hl : LitC w b (natL l)) (hb : b < w.heap.size) (ho : Off (fun _ => False) a b) :
    Calls Try.prog 34 #[.pointer (some ⟨a.p, 0, none⟩), .slice (some ⟨b, 0, none⟩) l.length cap] w (Ans most (cubeF most ns l) w a) := by
  have hln := hr.len
  obtain ⟨n, hn⟩ : ∃ n, l.length = n := ⟨_, rfl⟩
  rw [hn]
  obtain ⟨R, hR⟩ : ∃ R, cubeF most ns l = R := ⟨_, rfl⟩
  rw [hR]
  have HR := Lib.hid hR
  have HN := Lib.hid hn
  have HA := Lib.hid h
  have HW := Lib.hid hw
  have HRi := Lib.hid hr
  have HL := Lib.hid hl
  have HO := Lib.hid (And.intro hb ho)
  rw [hn] at hln
  clear hR hn h hw hr hl hb ho
  have hw0 : IntKind.i64.wrap ((n : Int) - 1) = (n : Int) - 1 := by rw [IntKind.wrap_i64]; omega
  unfold Ans
  go_enter Try.func34, Try.ntmps34
  go_wp2_with fail
  go_loopw [6, 7] (fun fv iv wr => ∃ k f : Nat, fv = .int .i64 (f : Nat) ∧ iv = .int .i64 ((k : Int) - 1) ∧ k ≤ n ∧ ∃ nsk a', Hid (cubeF most ns (l.drop k) = (some f, nsk)) ∧ Hid (Ar wr a' most nsk) ∧ Hid (Tr (fun _ => False) w a wr a')) (fun _ iv _ => (intOf iv + 1).toNat)
  case atStart =>
    refine ⟨n, 1, rfl, rfl, Nat.le_refl _, ns, a, Lib.hid ?_, HA, Lib.hid (Tr.refl _ _ _)⟩
    rw [← HN.out, List.drop_length]; rfl
  case round =>
    obtain ⟨k, f, rfl, rfl, hk, nsk, a', hC, hA, hT⟩ := hrel
    have hp := hT.out.m.1
    match k, hk, hC with
    | 0, hk, hC =>
      have hz : R = (some f, nsk) := by rw [← HR.out]; exact hC.out
      subst hz
      go_wp2
      go_ret2
      exact ⟨rfl, a', hA.out, hT.out⟩
    | j + 1, hk, hC =>
      have e1 : (((j + 1 : Nat) : Int) - 1) = ((j : Nat) : Int) := by omega
      rw [e1]
      clear e1
      obtain ⟨p, hpj⟩ : ∃ p, l[j]? = some p := ⟨_, List.getElem?_eq_getElem (by have := HN.out; omega)⟩
      obtain ⟨v, on⟩ := p
      have hL2 := HL.out.blk (hT.out.k.block b HO.out.1 HO.out.2.not)
      obtain ⟨l_0, l_1⟩ := hL2 j _ (natL_get hpj)
      simp only at l_0 l_1
      have hd := drop_one hpj
      have hv104 : v < 104 := HRi.out.2 (v, on) (List.mem_of_getElem? hpj)
      obtain ⟨wk, -, -, -, sk, -⟩ := cubeF_made most HW.out (l.drop (j + 1)) (HRi.out.drop _).1 (HRi.out.drop _).2
      rw [hC.out] at wk sk
      have hfl := (sk f rfl).1
      simp only at wk hfl
      have WK := Lib.hid wk
      have hfN : f ≤ 262144 := by have := hA.out.len; omega
      have hwj : IntKind.i64.wrap ((j : Int) - 1) = (j : Int) - 1 := by rw [IntKind.wrap_i64]; omega
      have hstep : cubeF most ns (l.drop j) = numF most nsk (if on then ⟨v, 0, f⟩ else ⟨v, f, 0⟩) := by
        rw [hd, cubeF.eq_2, hC.out]
      have HS := Lib.hid hstep
      clear hL2 hd hpj wk sk hfl hstep hC
      go_upto_region 6 with fail
      refine at_code (S := fun W => Blk W wr.heap.size [.int .i64 (v : Nat), .int .i64 (f : Nat), .int .i64 0] ∧ Below wr.heap.size wr W) ⟨Blk.new _ _ _, bel_al (Below.refl _ _) _⟩ (fun W1 hW => ?_)
      obtain ⟨hX, hb1⟩ := hW
      have X1 := Lib.hid hX
      have B1 := Lib.hid hb1
      have l0' : W1.cell? ⟨b, j * 2, none⟩ = some (.int .i64 (v : Nat)) := (hb1.cell (p := ⟨b, j * 2, none⟩) (cell_lt (o := j * 2) (by rw [l_0]; rfl))).trans l_0
      have l1' : W1.cell? ⟨b, j * 2 + 1, none⟩ = some (.bool on) := (hb1.cell (p := ⟨b, j * 2 + 1, none⟩) (cell_lt (o := j * 2 + 1) (by rw [l_1]; rfl))).trans l_1
      clear hX hb1 l_0 l_1
      obtain ⟨x_0, x_1, x_2⟩ : _ ∧ _ ∧ _ := ⟨X1.out.1 0 _ rfl, X1.out.1 1 _ rfl, X1.out.1 2 _ rfl⟩
      obtain ⟨z_0, z_1, z_2⟩ : _ ∧ _ ∧ _ := ⟨X1.out.2 0 _ rfl, X1.out.2 1 _ rfl, X1.out.2 2 _ rfl⟩
      cases on with
      | true =>
        go_upto_region 8 with fail
        refine at_code (S := fun W => Blk W wr.heap.size [.int .i64 (v : Nat), .int .i64 0, .int .i64 (f : Nat)] ∧ Below wr.heap.size wr W) ⟨X1.out.put3 _ _ _, bel_put3 B1.out (Nat.le_refl _) _ _ _⟩ (fun W2 hW => ?_)
        obtain ⟨hX, hb1⟩ := hW
        have B2 := Lib.hid hb1
        have A2 := Lib.hid (hA.out.on hb1)
        clear x_0 x_1 x_2 z_0 z_1 z_2 l0' l1' B1 X1
        obtain ⟨x_0, x_1, x_2⟩ : _ ∧ _ ∧ _ := ⟨hX.1 0 _ rfl, hX.1 1 _ rfl, hX.1 2 _ rfl⟩
        have hstep := HS.out
        simp only [if_true] at hstep
        have CN := Lib.hid (number_any a' most nsk v 0 f W2 A2.out WK.out ⟨by show v ≤ _; omega, by show 0 ≤ _; omega, by show f ≤ _; omega⟩)
        rw [← hstep, hp] at CN
        have hdj : ∀ R', cubeF most ns (l.drop j) = R' → j = 0 → R = R' := fun R' e q => by rw [← HR.out, ← e, q]; rfl
        obtain ⟨r1, ns1, e1⟩ : ∃ r ns', cubeF most ns (l.drop j) = (r, ns') := ⟨_, _, rfl⟩
        rw [e1] at CN
        have E1 := Lib.hid e1
        clear hX hb1 hstep HS e1 hdj
        cases r1 with
        | none =>
          replace CN : Hid (Calls Try.prog _ _ W2 fun e w' => e = .returned (.tuple #[.int .i64 0, .int .i64 20]) ∧ ∃ a'', Ar w' a'' most ns1 ∧ Tr (fun _ => False) W2 a' w' a'') := CN
          have hz : R = (none, ns1) := by
            rw [← HR.out]
            exact cubeF_stuck most ns j l E1.out
          subst hz
          go_wp2_with fail
          refine CN.out.mono ?_
          rintro e w3 ⟨rfl, a2, hA3, hT3⟩
          have F := Lib.hid (And.intro hA3 hT3)
          clear hA3 hT3
          go_wp2
          go_ret2
          exact ⟨rfl, a2, F.out.1, hT.out.trans (Tr.ahead B2.out F.out.2)⟩
        | some f' =>
          replace CN : Hid (Calls Try.prog _ _ W2 fun e w' => e = .returned (.tuple #[.int .i64 (f' : Nat), .int .i64 0]) ∧ ∃ a'', Ar w' a'' most ns1 ∧ Tr (fun _ => False) W2 a' w' a'') := CN
          go_wp2_with fail
          refine CN.out.mono ?_
          rintro e w3 ⟨rfl, a2, hA3, hT3⟩
          have F := Lib.hid (And.intro hA3 hT3)
          clear hA3 hT3
          go_wp2_with fail
          refine ⟨⟨j, f', rfl, ?_, by omega, ns1, a2, E1, Lib.hid F.out.1, Lib.hid (hT.out.trans (Tr.ahead B2.out F.out.2))⟩, by simp [intOf] <;> omega⟩
          first | rfl | rw [hwj]
      | false =>
        go_upto_region 8 with fail
        obtain ⟨W2, hW2⟩ : ∃ W2, W2 = W1 := ⟨_, rfl⟩
        rw [← hW2] at X1 B1 x_0 x_1 x_2 ⊢
        clear hW2 l0' l1' z_0 z_1 z_2
        have B2 := Lib.hid B1.out
        have A2 := Lib.hid (hA.out.on B1.out)
        clear X1 B1
        have hstep := HS.out
        simp only [Bool.false_eq_true, if_false] at hstep
        have CN := Lib.hid (number_any a' most nsk v f 0 W2 A2.out WK.out ⟨by show v ≤ _; omega, by show f ≤ _; omega, by show 0 ≤ _; omega⟩)
        rw [← hstep, hp] at CN
        have hdj : ∀ R', cubeF most ns (l.drop j) = R' → j = 0 → R = R' := fun R' e q => by rw [← HR.out, ← e, q]; rfl
        obtain ⟨r1, ns1, e1⟩ : ∃ r ns', cubeF most ns (l.drop j) = (r, ns') := ⟨_, _, rfl⟩
        rw [e1] at CN
        have E1 := Lib.hid e1
        clear hstep HS e1 hdj
        cases r1 with
        | none =>
          replace CN : Hid (Calls Try.prog _ _ W2 fun e w' => e = .returned (.tuple #[.int .i64 0, .int .i64 20]) ∧ ∃ a'', Ar w' a'' most ns1 ∧ Tr (fun _ => False) W2 a' w' a'') := CN
          have hz : R = (none, ns1) := by
            rw [← HR.out]
            exact cubeF_stuck most ns j l E1.out
          subst hz
          go_wp2_with fail
          refine CN.out.mono ?_
          rintro e w3 ⟨rfl, a2, hA3, hT3⟩
          have F := Lib.hid (And.intro hA3 hT3)
          clear hA3 hT3
          go_wp2
          go_ret2
          exact ⟨rfl, a2, F.out.1, hT.out.trans (Tr.ahead B2.out F.out.2)⟩
        | some f' =>
          replace CN : Hid (Calls Try.prog _ _ W2 fun e w' => e = .returned (.tuple #[.int .i64 (f' : Nat), .int .i64 0]) ∧ ∃ a'', Ar w' a'' most ns1 ∧ Tr (fun _ => False) W2 a' w' a'') := CN
          go_wp2_with fail
          refine CN.out.mono ?_
          rintro e w3 ⟨rfl, a2, hA3, hT3⟩
          have F := Lib.hid (And.intro hA3 hT3)
          clear hA3 hT3
          go_wp2_with fail
          refine ⟨⟨j, f', rfl, ?_, by omega, ns1, a2, E1, Lib.hid F.out.1, Lib.hid (hT.out.trans (Tr.ahead B2.out F.out.2))⟩, by simp [intOf] <;> omega⟩
          first | rfl | rw [hwj]
end Go.Proofs.Ytgcbngephokegab
