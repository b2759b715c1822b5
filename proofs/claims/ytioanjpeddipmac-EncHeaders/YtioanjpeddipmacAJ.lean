/- Join and Not. -/
import Derived.Test.YtioanjpeddipmacAS
import Derived.Test.YtioanjpeddipmacAQ
namespace Go.Proofs.Ytioanjpeddipmac
open Go.RowKit
set_option linter.unusedVariables false

theorem at_calls {P : Program} {f : Nat} {args : Array Value} {R : Ending → World → Prop} {W : World} {S : World → Prop} (h : S W) (k : ∀ W, S W → Calls P f args W R) : Calls P f args W R := k W h
theorem join_any (kind most : Nat) (ns : List Nd) (f g : Nat) (w : World) (a : AL) (h : Ar w a most ns) (hw : WF ns) (hf : f < ns.length) (hg : g < ns.length) :
    Calls Try.prog 45 #[.pointer (some ⟨a.p, 0, none⟩), .int .i64 (kind : Nat), .int .i64 (f : Nat), .int .i64 (g : Nat)] w (Ans most (joinF kind most ns f g) w a) :=
  join_core kind most ns f g w a h (pairF kind most 105 ns [] f g) (fun W jb db hA hJ => pair_any kind most jb db 105 ns [] f g W a hA hw ⟨fun p hp => (by cases hp), List.nodup_nil⟩ hJ hf hg (by omega))
set_option maxRecDepth 100000 in
set_option maxHeartbeats 1000000 in
theorem joinL_any (most : Nat) (R : Option Nat × List Nd) (kind f g : Int) (W : World) (a : AL) (b0 b1 b2 b3 : Nat) (c0 : W.cell? ⟨b0, 0, none⟩ = some (.pointer (some ⟨a.p, 0, none⟩))) (c1 : W.cell? ⟨b1, 0, none⟩ = some (.int .i64 kind)) (c2 : W.cell? ⟨b2, 0, none⟩ = some (.int .i64 f)) (c3 : W.cell? ⟨b3, 0, none⟩ = some (.int .i64 g))
    (HJ : Hid (Calls Try.prog 45 #[.pointer (some ⟨a.p, 0, none⟩), .int .i64 kind, .int .i64 f, .int .i64 g] W (Ans most R W a))) :
    Calls Try.prog 44 #[.pointer (some ⟨b0, 0, none⟩), .pointer (some ⟨b1, 0, none⟩), .pointer (some ⟨b2, 0, none⟩), .pointer (some ⟨b3, 0, none⟩)] W (Ans most R W a) := by
  unfold Ans at HJ ⊢
  obtain ⟨r, hr⟩ : ∃ r : Int, ((rv R.1 : Nat) : Int) = r := ⟨_, rfl⟩
  obtain ⟨x, hx⟩ : ∃ x : Int, er R.1 = x := ⟨_, rfl⟩
  rw [hr, hx] at HJ ⊢
  clear hr hx
  go_enter Try.func44, Try.ntmps44
  go_wp2_with fail
  refine HJ.out.mono ?_
  rintro e w1 ⟨rfl, a1, hA, hT⟩
  have F := Lib.hid (And.intro hA hT)
  clear hA hT
  go_wp2
  go_ret2
  exact ⟨rfl, a1, F.out.1, F.out.2⟩
set_option maxRecDepth 100000 in
set_option maxHeartbeats 2000000 in
theorem joinJ_core1 (most : Nat) (ns : List Nd) (kind f g : Int) (w : World) (a : AL) (h : Ar w a most ns) 
    (HK : Hid (∀ W b, Ar W a most ns → W.cell? ⟨b, 0, none⟩ = some (.int .i64 f) → W.cell? ⟨b, 1, none⟩ = some (.int .i64 g) → Calls Try.prog 42 #[.pointer (some ⟨a.p, 0, none⟩), .slice (some ⟨b, 0, none⟩) 2 2] W fun e w' => e = .returned (.int .i64 (1)) ∧ W = w'))
    : Calls Try.prog 23 #[.pointer (some ⟨a.p, 0, none⟩), .int .i64 kind, .int .i64 f, .int .i64 g] w fun e w' => e = .returned (.tuple #[.int .i64 0, .int .i64 1]) ∧ Below w.heap.size w w' := by
  have A0 := Lib.hid h
  clear h
  have hmf : ∀ (fn : Fn) (first cap : Array Value) (w : World), (Instr.makeFunc fn first cap).run Try.prog w = .ok (.func fn first cap) w := fun _ _ _ _ => rfl
  go_enter Try.func23, Try.ntmps23
  go_wp2_with fail
  refine at_calls (S := fun W => W.cell? ⟨w.heap.size, 0, none⟩ = some (.pointer (some ⟨a.p, 0, none⟩)) ∧ W.cell? ⟨w.heap.size + 1, 0, none⟩ = some (.int .i64 kind) ∧ W.cell? ⟨w.heap.size + 2, 0, none⟩ = some (.int .i64 f) ∧ W.cell? ⟨w.heap.size + 3, 0, none⟩ = some (.int .i64 g) ∧ W.cell? ⟨w.heap.size + 4, 0, none⟩ = some (.int .i64 f) ∧ W.cell? ⟨w.heap.size + 4, 1, none⟩ = some (.int .i64 g) ∧ Below w.heap.size w W) ⟨by simp [go_sem], by simp [go_sem], by simp [go_sem], by simp [go_sem], by simp [go_sem], by simp [go_sem], bel_al (bel_al (bel_al (bel_al (bel_al (Below.refl _ _) _) _) _) _) _⟩ (fun W1 hW => ?_)
  obtain ⟨w_0, w_1, w_2, w_3, k_0, k_1, hb⟩ := hW
  have A1 := Lib.hid (A0.out.on hb)
  have B1 := Lib.hid hb
  clear hb
  refine (HK.out W1 _ A1.out k_0 k_1).mono ?_
  rintro e w' ⟨rfl, rfl⟩
  clear k_0 k_1 HK
  go_wp2
  go_ret2
  exact ⟨rfl, B1.out⟩
set_option maxRecDepth 100000 in
set_option maxHeartbeats 2000000 in
theorem joinJ_core2 (most : Nat) (ns : List Nd) (kind f g : Int) (w : World) (a : AL) (h : Ar w a most ns) (hk : kind < 0 ∨ 3 < kind)
    (HK : Hid (∀ W b, Ar W a most ns → W.cell? ⟨b, 0, none⟩ = some (.int .i64 f) → W.cell? ⟨b, 1, none⟩ = some (.int .i64 g) → Calls Try.prog 42 #[.pointer (some ⟨a.p, 0, none⟩), .slice (some ⟨b, 0, none⟩) 2 2] W fun e w' => e = .returned (.int .i64 (0)) ∧ W = w'))
    : Calls Try.prog 23 #[.pointer (some ⟨a.p, 0, none⟩), .int .i64 kind, .int .i64 f, .int .i64 g] w fun e w' => e = .returned (.tuple #[.int .i64 0, .int .i64 1]) ∧ Below w.heap.size w w' := by
  have A0 := Lib.hid h
  clear h
  have hmf : ∀ (fn : Fn) (first cap : Array Value) (w : World), (Instr.makeFunc fn first cap).run Try.prog w = .ok (.func fn first cap) w := fun _ _ _ _ => rfl
  go_enter Try.func23, Try.ntmps23
  go_wp2_with fail
  refine at_calls (S := fun W => W.cell? ⟨w.heap.size, 0, none⟩ = some (.pointer (some ⟨a.p, 0, none⟩)) ∧ W.cell? ⟨w.heap.size + 1, 0, none⟩ = some (.int .i64 kind) ∧ W.cell? ⟨w.heap.size + 2, 0, none⟩ = some (.int .i64 f) ∧ W.cell? ⟨w.heap.size + 3, 0, none⟩ = some (.int .i64 g) ∧ W.cell? ⟨w.heap.size + 4, 0, none⟩ = some (.int .i64 f) ∧ W.cell? ⟨w.heap.size + 4, 1, none⟩ = some (.int .i64 g) ∧ Below w.heap.size w W) ⟨by simp [go_sem], by simp [go_sem], by simp [go_sem], by simp [go_sem], by simp [go_sem], by simp [go_sem], bel_al (bel_al (bel_al (bel_al (bel_al (Below.refl _ _) _) _) _) _) _⟩ (fun W1 hW => ?_)
  obtain ⟨w_0, w_1, w_2, w_3, k_0, k_1, hb⟩ := hW
  have A1 := Lib.hid (A0.out.on hb)
  have B1 := Lib.hid hb
  clear hb
  refine (HK.out W1 _ A1.out k_0 k_1).mono ?_
  rintro e w' ⟨rfl, rfl⟩
  clear k_0 k_1 HK
  rcases hk with hk | hk
  · go_wp2
    go_ret2
    exact ⟨rfl, B1.out⟩
  · have hk' : ¬ kind < 0 := by omega
    go_wp2
    go_ret2
    exact ⟨rfl, B1.out⟩
set_option maxRecDepth 100000 in
set_option maxHeartbeats 2000000 in
theorem joinJ_core3 (most : Nat) (ns : List Nd) (kind f g : Int) (w : World) (a : AL) (h : Ar w a most ns) (hk0 : ¬ kind < 0) (hk3 : ¬ 3 < kind) (R : Option Nat × List Nd) (HW : Hid (∀ W (b0 b1 b2 b3 : Nat), Ar W a most ns → W.cell? ⟨b0, 0, none⟩ = some (.pointer (some ⟨a.p, 0, none⟩)) → W.cell? ⟨b1, 0, none⟩ = some (.int .i64 kind) → W.cell? ⟨b2, 0, none⟩ = some (.int .i64 f) → W.cell? ⟨b3, 0, none⟩ = some (.int .i64 g) → Calls Try.prog 43 #[.pointer (some ⟨a.p, 0, none⟩), .func (.func 44) #[] #[.pointer (some ⟨b0, 0, none⟩), .pointer (some ⟨b1, 0, none⟩), .pointer (some ⟨b2, 0, none⟩), .pointer (some ⟨b3, 0, none⟩)]] W (Ans most R W a)))
    (HK : Hid (∀ W b, Ar W a most ns → W.cell? ⟨b, 0, none⟩ = some (.int .i64 f) → W.cell? ⟨b, 1, none⟩ = some (.int .i64 g) → Calls Try.prog 42 #[.pointer (some ⟨a.p, 0, none⟩), .slice (some ⟨b, 0, none⟩) 2 2] W fun e w' => e = .returned (.int .i64 (0)) ∧ W = w'))
    : Calls Try.prog 23 #[.pointer (some ⟨a.p, 0, none⟩), .int .i64 kind, .int .i64 f, .int .i64 g] w (Ans most R w a) := by
  obtain ⟨r, hr⟩ : ∃ r : Int, ((rv R.1 : Nat) : Int) = r := ⟨_, rfl⟩
  obtain ⟨x, hx⟩ : ∃ x : Int, er R.1 = x := ⟨_, rfl⟩
  unfold Ans at HW ⊢
  rw [hr, hx] at HW ⊢
  clear hr hx
  have A0 := Lib.hid h
  clear h
  have hmf : ∀ (fn : Fn) (first cap : Array Value) (w : World), (Instr.makeFunc fn first cap).run Try.prog w = .ok (.func fn first cap) w := fun _ _ _ _ => rfl
  go_enter Try.func23, Try.ntmps23
  go_wp2_with fail
  refine at_calls (S := fun W => W.cell? ⟨w.heap.size, 0, none⟩ = some (.pointer (some ⟨a.p, 0, none⟩)) ∧ W.cell? ⟨w.heap.size + 1, 0, none⟩ = some (.int .i64 kind) ∧ W.cell? ⟨w.heap.size + 2, 0, none⟩ = some (.int .i64 f) ∧ W.cell? ⟨w.heap.size + 3, 0, none⟩ = some (.int .i64 g) ∧ W.cell? ⟨w.heap.size + 4, 0, none⟩ = some (.int .i64 f) ∧ W.cell? ⟨w.heap.size + 4, 1, none⟩ = some (.int .i64 g) ∧ Below w.heap.size w W) ⟨by simp [go_sem], by simp [go_sem], by simp [go_sem], by simp [go_sem], by simp [go_sem], by simp [go_sem], bel_al (bel_al (bel_al (bel_al (bel_al (Below.refl _ _) _) _) _) _) _⟩ (fun W1 hW => ?_)
  obtain ⟨w_0, w_1, w_2, w_3, k_0, k_1, hb⟩ := hW
  have A1 := Lib.hid (A0.out.on hb)
  have B1 := Lib.hid hb
  clear hb
  refine (HK.out W1 _ A1.out k_0 k_1).mono ?_
  rintro e w' ⟨rfl, rfl⟩
  clear k_0 k_1 HK
  have CW := Lib.hid (HW.out W1 _ _ _ _ A1.out w_0 w_1 w_2 w_3)
  clear HW
  go_wp2_with fail
  refine CW.out.mono ?_
  rintro e w2 ⟨rfl, a2, hA, hT⟩
  have F := Lib.hid (And.intro hA hT)
  clear hA hT
  go_wp2
  go_ret2
  exact ⟨rfl, a2, F.out.1, Tr.ahead B1.out F.out.2⟩
set_option maxRecDepth 100000 in
set_option maxHeartbeats 2000000 in
theorem join_nil (kind f g : Int) (w : World) : Calls Try.prog 23 #[.pointer none, .int .i64 kind, .int .i64 f, .int .i64 g] w fun e w' => e = .returned (.tuple #[.int .i64 0, .int .i64 2]) ∧ Below w.heap.size w w' := by
  have HK := Lib.hid (fun v W => check_nil v W)
  go_enter Try.func23, Try.ntmps23
  go_wp2_with fail
  refine at_calls (S := fun W => Below w.heap.size w W) (bel_al (bel_al (bel_al (bel_al (bel_al (Below.refl _ _) _) _) _) _) _) (fun W1 hb => ?_)
  have B1 := Lib.hid hb
  clear hb
  refine (HK.out _ W1).mono ?_
  rintro e w' ⟨rfl, rfl⟩
  go_wp2
  go_ret2
  exact ⟨rfl, B1.out⟩
theorem chkF_two (n : Nat) (f g : Int) : chkF n [f, g] = if hasB n f && hasB n g then 0 else 1 := by unfold chkF; simp [List.all_cons]
theorem joinJ_chk (most : Nat) (ns : List Nd) (f g : Int) (a : AL) {c : Int} (hc : chkF ns.length [f, g] = c) : ∀ W b, Ar W a most ns → W.cell? ⟨b, 0, none⟩ = some (.int .i64 f) → W.cell? ⟨b, 1, none⟩ = some (.int .i64 g) → Calls Try.prog 42 #[.pointer (some ⟨a.p, 0, none⟩), .slice (some ⟨b, 0, none⟩) 2 2] W fun e w' => e = .returned (.int .i64 c) ∧ W = w' := fun W b hA h0 h1 => by
  subst hc
  exact check_any a most ns W hA b 2 [f, g] (by simp) (fun i v hv => by
    match i, hv with
    | 0, hv => cases hv; exact h0
    | 1, hv => cases hv; exact h1)
/-- Join of sets and a kind that there are. -/
theorem joinJ_any (kind most : Nat) (ns : List Nd) (f g : Nat) (w : World) (a : AL) (h : Ar w a most ns) (hw : WF ns) (hk : kind ≤ 3) (hf : f < ns.length) (hg : g < ns.length) :
    Calls Try.prog 23 #[.pointer (some ⟨a.p, 0, none⟩), .int .i64 (kind : Nat), .int .i64 (f : Nat), .int .i64 (g : Nat)] w (Ans most (jF kind most ns f g) w a) := by
  have M := joinF_made kind most hw hf hg
  refine joinJ_core3 most ns kind f g w a h (by omega) (by omega) (jF kind most ns f g) (fun W b0 b1 b2 b3 hA c0 c1 c2 c3 => ?_) (joinJ_chk most ns f g a ?_)
  · have k := whole_core most ns (joinF kind most ns f g).2 (joinF kind most ns f g).1 44 _ W a hA hw M.wf M.ext Try.call44 (joinL_any most (joinF kind most ns f g) kind f g W a b0 b1 b2 b3 c0 c1 c2 c3 (join_any kind most ns f g W a hA hw hf hg))
    exact k
  · rw [chkF_two, if_pos]; unfold hasB; simp; omega
/-- .. of others. -/
theorem joinJ_bad (most : Nat) (ns : List Nd) (kind f g : Int) (w : World) (a : AL) (h : Ar w a most ns) (hb : kind < 0 ∨ 3 < kind ∨ hasB ns.length f = false ∨ hasB ns.length g = false) :
    Calls Try.prog 23 #[.pointer (some ⟨a.p, 0, none⟩), .int .i64 kind, .int .i64 f, .int .i64 g] w fun e w' => e = .returned (.tuple #[.int .i64 0, .int .i64 1]) ∧ Below w.heap.size w w' := by
  by_cases hc : hasB ns.length f = true ∧ hasB ns.length g = true
  · refine joinJ_core2 most ns kind f g w a h ?_ (joinJ_chk most ns f g a ?_)
    · rcases hb with q | q | q | q
      · exact Or.inl q
      · exact Or.inr q
      · rw [q] at hc; exact absurd hc.1 (by simp)
      · rw [q] at hc; exact absurd hc.2 (by simp)
    · rw [chkF_two, if_pos]; simp [hc.1, hc.2]
  · refine joinJ_core1 most ns kind f g w a h (joinJ_chk most ns f g a ?_)
    rw [chkF_two, if_neg]
    intro q
    rw [Bool.and_eq_true] at q
    exact hc q
end Go.Proofs.Ytioanjpeddipmac
