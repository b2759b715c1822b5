/- Texts joined, in their order: AJ, AI, AU, AU2, H1, AV, AW0, AW, AW2. -/
import Derived.Test.YtggcbklififcgabGa5f2a7ca84
import Derived.Test.YtggcbklififcgabGAQ
import Derived.LoopN
import Derived.Test.YtggcbklififcgabRows
import Derived.WalkKit
import Derived.WalkSpells
import Derived.WalkLawsBesides
import Derived.Laws.Externs
import Derived.Laws.Bits64b
import Derived.Lib.EndianBits
import Derived.Test.YtggcbklififcgabGa789b297eb
/- Join and Not. -/
namespace Go.Proofs.Ytggcbklififcgab
open Go.RowKit
set_option linter.unusedVariables false

theorem at_calls {P : Program} {f : Nat} {args : Array Value} {R : Ending → World → Prop} {W : World} {S : World → Prop} (h : S W) (k : ∀ W, S W → Calls P f args W R) : Calls P f args W R := k W h
theorem join_any (kind most : Nat) (ns : List Nd) (f g : Nat) (w : World) (a : AL) (h : Ar w a most ns) (hw : WF ns) (hf : f < ns.length) (hg : g < ns.length) :
    Calls Try.prog 44 #[.pointer (some ⟨a.p, 0, none⟩), .int .i64 (kind : Nat), .int .i64 (f : Nat), .int .i64 (g : Nat)] w (Ans most (joinF kind most ns f g) w a) :=
  join_core kind most ns f g w a h (pairF kind most 105 ns [] f g) (fun W jb db hA hJ => pair_any kind most jb db 105 ns [] f g W a hA hw ⟨fun p hp => (by cases hp), List.nodup_nil⟩ hJ hf hg (by omega))
set_option maxRecDepth 100000 in
set_option maxHeartbeats 1000000 in
theorem joinL_any (most : Nat) (R : Option Nat × List Nd) (kind f g : Int) (W : World) (a : AL) (b0 b1 b2 b3 : Nat) (c0 : W.cell? ⟨b0, 0, none⟩ = some (.pointer (some ⟨a.p, 0, none⟩))) (c1 : W.cell? ⟨b1, 0, none⟩ = some (.int .i64 kind)) (c2 : W.cell? ⟨b2, 0, none⟩ = some (.int .i64 f)) (c3 : W.cell? ⟨b3, 0, none⟩ = some (.int .i64 g))
    (HJ : Hid (Calls Try.prog 44 #[.pointer (some ⟨a.p, 0, none⟩), .int .i64 kind, .int .i64 f, .int .i64 g] W (Ans most R W a))) :
    Calls Try.prog 43 #[.pointer (some ⟨b0, 0, none⟩), .pointer (some ⟨b1, 0, none⟩), .pointer (some ⟨b2, 0, none⟩), .pointer (some ⟨b3, 0, none⟩)] W (Ans most R W a) := by
  unfold Ans at HJ ⊢
  obtain ⟨r, hr⟩ : ∃ r : Int, ((rv R.1 : Nat) : Int) = r := ⟨_, rfl⟩
  obtain ⟨x, hx⟩ : ∃ x : Int, er R.1 = x := ⟨_, rfl⟩
  rw [hr, hx] at HJ ⊢
  clear hr hx
  go_enter Try.func43, Try.ntmps43
  go_wp2_with fail
  refine HJ.out.mono ?_
  rintro e w1 ⟨rfl, a1, hA, hT⟩
  have F := Lib.hid (And.intro hA hT)
  clear hA hT
  go_wp2
  go_ret2
  exact ⟨rfl, a1, F.out.1, F.out.2⟩
set_option maxRecDepth 100000 in
set_option maxHeartbeats 2000000 in
theorem joinJ_core1 (most : Nat) (ns : List Nd) (kind f g : Int) (w : World) (a : AL) (h : Ar w a most ns) 
    (HK : Hid (∀ W b, Ar W a most ns → W.cell? ⟨b, 0, none⟩ = some (.int .i64 f) → W.cell? ⟨b, 1, none⟩ = some (.int .i64 g) → Calls Try.prog 41 #[.pointer (some ⟨a.p, 0, none⟩), .slice (some ⟨b, 0, none⟩) 2 2] W fun e w' => e = .returned (.int .i64 (1)) ∧ W = w'))
    : Calls Try.prog 22 #[.pointer (some ⟨a.p, 0, none⟩), .int .i64 kind, .int .i64 f, .int .i64 g] w fun e w' => e = .returned (.tuple #[.int .i64 0, .int .i64 1]) ∧ Below w.heap.size w w' := by
  have A0 := Lib.hid h
  clear h
  have hmf : ∀ (fn : Fn) (first cap : Array Value) (w : World), (Instr.makeFunc fn first cap).run Try.prog w = .ok (.func fn first cap) w := fun _ _ _ _ => rfl
  go_enter Try.func22, Try.ntmps22
  go_wp2_with fail
  refine at_calls (S := fun W => W.cell? ⟨w.heap.size, 0, none⟩ = some (.pointer (some ⟨a.p, 0, none⟩)) ∧ W.cell? ⟨w.heap.size + 1, 0, none⟩ = some (.int .i64 kind) ∧ W.cell? ⟨w.heap.size + 2, 0, none⟩ = some (.int .i64 f) ∧ W.cell? ⟨w.heap.size + 3, 0, none⟩ = some (.int .i64 g) ∧ W.cell? ⟨w.heap.size + 4, 0, none⟩ = some (.int .i64 f) ∧ W.cell? ⟨w.heap.size + 4, 1, none⟩ = some (.int .i64 g) ∧ Below w.heap.size w W) ⟨by simp [go_sem], by simp [go_sem], by simp [go_sem], by simp [go_sem], by simp [go_sem], by simp [go_sem], bel_al (bel_al (bel_al (bel_al (bel_al (Below.refl _ _) _) _) _) _) _⟩ (fun W1 hW => ?_)
  obtain ⟨w_0, w_1, w_2, w_3, k_0, k_1, hb⟩ := hW
  have A1 := Lib.hid (A0.out.on hb)
  have B1 := Lib.hid hb
  clear hb
  refine (HK.out W1 _ A1.out k_0 k_1).mono ?_
  rintro e w' ⟨rfl, rfl⟩
  clear k_0 k_1 HK
  go_wp2
  go_ret2
  exact ⟨rfl, B1.out⟩
set_option maxRecDepth 100000 in
set_option maxHeartbeats 2000000 in
theorem joinJ_core2 (most : Nat) (ns : List Nd) (kind f g : Int) (w : World) (a : AL) (h : Ar w a most ns) (hk : kind < 0 ∨ 3 < kind)
    (HK : Hid (∀ W b, Ar W a most ns → W.cell? ⟨b, 0, none⟩ = some (.int .i64 f) → W.cell? ⟨b, 1, none⟩ = some (.int .i64 g) → Calls Try.prog 41 #[.pointer (some ⟨a.p, 0, none⟩), .slice (some ⟨b, 0, none⟩) 2 2] W fun e w' => e = .returned (.int .i64 (0)) ∧ W = w'))
    : Calls Try.prog 22 #[.pointer (some ⟨a.p, 0, none⟩), .int .i64 kind, .int .i64 f, .int .i64 g] w fun e w' => e = .returned (.tuple #[.int .i64 0, .int .i64 1]) ∧ Below w.heap.size w w' := by
  have A0 := Lib.hid h
  clear h
  have hmf : ∀ (fn : Fn) (first cap : Array Value) (w : World), (Instr.makeFunc fn first cap).run Try.prog w = .ok (.func fn first cap) w := fun _ _ _ _ => rfl
  go_enter Try.func22, Try.ntmps22
  go_wp2_with fail
  refine at_calls (S := fun W => W.cell? ⟨w.heap.size, 0, none⟩ = some (.pointer (some ⟨a.p, 0, none⟩)) ∧ W.cell? ⟨w.heap.size + 1, 0, none⟩ = some (.int .i64 kind) ∧ W.cell? ⟨w.heap.size + 2, 0, none⟩ = some (.int .i64 f) ∧ W.cell? ⟨w.heap.size + 3, 0, none⟩ = some (.int .i64 g) ∧ W.cell? ⟨w.heap.size + 4, 0, none⟩ = some (.int .i64 f) ∧ W.cell? ⟨w.heap.size + 4, 1, none⟩ = some (.int .i64 g) ∧ Below w.heap.size w W) ⟨by simp [go_sem], by simp [go_sem], by simp [go_sem], by simp [go_sem], by simp [go_sem], by simp [go_sem], bel_al (bel_al (bel_al (bel_al (bel_al (Below.refl _ _) _) _) _) _) _⟩ (fun W1 hW => ?_)
  obtain ⟨w_0, w_1, w_2, w_3, k_0, k_1, hb⟩ := hW
  have A1 := Lib.hid (A0.out.on hb)
  have B1 := Lib.hid hb
  clear hb
  refine (HK.out W1 _ A1.out k_0 k_1).mono ?_
  rintro e w' ⟨rfl, rfl⟩
  clear k_0 k_1 HK
  rcases hk with hk | hk
  · go_wp2
    go_ret2
    exact ⟨rfl, B1.out⟩
  · have hk' : ¬ kind < 0 := by omega
    go_wp2
    go_ret2
    exact ⟨rfl, B1.out⟩
set_option maxRecDepth 100000 in
set_option maxHeartbeats 2000000 in
theorem joinJ_core3 (most : Nat) (ns : List Nd) (kind f g : Int) (w : World) (a : AL) (h : Ar w a most ns) (hk0 : ¬ kind < 0) (hk3 : ¬ 3 < kind) (R : Option Nat × List Nd) (HW : Hid (∀ W (b0 b1 b2 b3 : Nat), Ar W a most ns → W.cell? ⟨b0, 0, none⟩ = some (.pointer (some ⟨a.p, 0, none⟩)) → W.cell? ⟨b1, 0, none⟩ = some (.int .i64 kind) → W.cell? ⟨b2, 0, none⟩ = some (.int .i64 f) → W.cell? ⟨b3, 0, none⟩ = some (.int .i64 g) → Calls Try.prog 42 #[.pointer (some ⟨a.p, 0, none⟩), .func (.func 43) #[] #[.pointer (some ⟨b0, 0, none⟩), .pointer (some ⟨b1, 0, none⟩), .pointer (some ⟨b2, 0, none⟩), .pointer (some ⟨b3, 0, none⟩)]] W (Ans most R W a)))
    (HK : Hid (∀ W b, Ar W a most ns → W.cell? ⟨b, 0, none⟩ = some (.int .i64 f) → W.cell? ⟨b, 1, none⟩ = some (.int .i64 g) → Calls Try.prog 41 #[.pointer (some ⟨a.p, 0, none⟩), .slice (some ⟨b, 0, none⟩) 2 2] W fun e w' => e = .returned (.int .i64 (0)) ∧ W = w'))
    : Calls Try.prog 22 #[.pointer (some ⟨a.p, 0, none⟩), .int .i64 kind, .int .i64 f, .int .i64 g] w (Ans most R w a) := by
  obtain ⟨r, hr⟩ : ∃ r : Int, ((rv R.1 : Nat) : Int) = r := ⟨_, rfl⟩
  obtain ⟨x, hx⟩ : ∃ x : Int, er R.1 = x := ⟨_, rfl⟩
  unfold Ans at HW ⊢
  rw [hr, hx] at HW ⊢
  clear hr hx
  have A0 := Lib.hid h
  clear h
  have hmf : ∀ (fn : Fn) (first cap : Array Value) (w : World), (Instr.makeFunc fn first cap).run Try.prog w = .ok (.func fn first cap) w := fun _ _ _ _ => rfl
  go_enter Try.func22, Try.ntmps22
  go_wp2_with fail
  refine at_calls (S := fun W => W.cell? ⟨w.heap.size, 0, none⟩ = some (.pointer (some ⟨a.p, 0, none⟩)) ∧ W.cell? ⟨w.heap.size + 1, 0, none⟩ = some (.int .i64 kind) ∧ W.cell? ⟨w.heap.size + 2, 0, none⟩ = some (.int .i64 f) ∧ W.cell? ⟨w.heap.size + 3, 0, none⟩ = some (.int .i64 g) ∧ W.cell? ⟨w.heap.size + 4, 0, none⟩ = some (.int .i64 f) ∧ W.cell? ⟨w.heap.size + 4, 1, none⟩ = some (.int .i64 g) ∧ Below w.heap.size w W) ⟨by simp [go_sem], by simp [go_sem], by simp [go_sem], by simp [go_sem], by simp [go_sem], by simp [go_sem], bel_al (bel_al (bel_al (bel_al (bel_al (Below.refl _ _) _) _) _) _) _⟩ (fun W1 hW => ?_)
  obtain ⟨w_0, w_1, w_2, w_3, k_0, k_1, hb⟩ := hW
  have A1 := Lib.hid (A0.out.on hb)
  have B1 := Lib.hid hb
  clear hb
  refine (HK.out W1 _ A1.out k_0 k_1).mono ?_
  rintro e w' ⟨rfl, rfl⟩
  clear k_0 k_1 HK
  have CW := Lib.hid (HW.out W1 _ _ _ _ A1.out w_0 w_1 w_2 w_3)
  clear HW
  go_wp2_with fail
  refine CW.out.mono ?_
  rintro e w2 ⟨rfl, a2, hA, hT⟩
  have F := Lib.hid (And.intro hA hT)
  clear hA hT
  go_wp2
  go_ret2
  exact ⟨rfl, a2, F.out.1, Tr.ahead B1.out F.out.2⟩
set_option maxRecDepth 100000 in
set_option maxHeartbeats 2000000 in
theorem join_nil (kind f g : Int) (w : World) : Calls Try.prog 22 #[.pointer none, .int .i64 kind, .int .i64 f, .int .i64 g] w fun e w' => e = .returned (.tuple #[.int .i64 0, .int .i64 2]) ∧ Below w.heap.size w w' := by
  have HK := Lib.hid (fun v W => check_nil v W)
  go_enter Try.func22, Try.ntmps22
  go_wp2_with fail
  refine at_calls (S := fun W => Below w.heap.size w W) (bel_al (bel_al (bel_al (bel_al (bel_al (Below.refl _ _) _) _) _) _) _) (fun W1 hb => ?_)
  have B1 := Lib.hid hb
  clear hb
  refine (HK.out _ W1).mono ?_
  rintro e w' ⟨rfl, rfl⟩
  go_wp2
  go_ret2
  exact ⟨rfl, B1.out⟩
theorem chkF_two (n : Nat) (f g : Int) : chkF n [f, g] = if hasB n f && hasB n g then 0 else 1 := by unfold chkF; simp [List.all_cons]
theorem joinJ_chk (most : Nat) (ns : List Nd) (f g : Int) (a : AL) {c : Int} (hc : chkF ns.length [f, g] = c) : ∀ W b, Ar W a most ns → W.cell? ⟨b, 0, none⟩ = some (.int .i64 f) → W.cell? ⟨b, 1, none⟩ = some (.int .i64 g) → Calls Try.prog 41 #[.pointer (some ⟨a.p, 0, none⟩), .slice (some ⟨b, 0, none⟩) 2 2] W fun e w' => e = .returned (.int .i64 c) ∧ W = w' := fun W b hA h0 h1 => by
  subst hc
  exact check_any a most ns W hA b 2 [f, g] (by simp) (fun i v hv => by
    match i, hv with
    | 0, hv => cases hv; exact h0
    | 1, hv => cases hv; exact h1)
/-- Join of sets and a kind that there are. -/
theorem joinJ_any (kind most : Nat) (ns : List Nd) (f g : Nat) (w : World) (a : AL) (h : Ar w a most ns) (hw : WF ns) (hk : kind ≤ 3) (hf : f < ns.length) (hg : g < ns.length) :
    Calls Try.prog 22 #[.pointer (some ⟨a.p, 0, none⟩), .int .i64 (kind : Nat), .int .i64 (f : Nat), .int .i64 (g : Nat)] w (Ans most (jF kind most ns f g) w a) := by
  have M := joinF_made kind most hw hf hg
  refine joinJ_core3 most ns kind f g w a h (by omega) (by omega) (jF kind most ns f g) (fun W b0 b1 b2 b3 hA c0 c1 c2 c3 => ?_) (joinJ_chk most ns f g a ?_)
  · have k := whole_core most ns (joinF kind most ns f g).2 (joinF kind most ns f g).1 43 _ W a hA hw M.wf M.ext Try.call43 (joinL_any most (joinF kind most ns f g) kind f g W a b0 b1 b2 b3 c0 c1 c2 c3 (join_any kind most ns f g W a hA hw hf hg))
    exact k
  · rw [chkF_two, if_pos]; unfold hasB; simp; omega
/-- .. of others. -/
theorem joinJ_bad (most : Nat) (ns : List Nd) (kind f g : Int) (w : World) (a : AL) (h : Ar w a most ns) (hb : kind < 0 ∨ 3 < kind ∨ hasB ns.length f = false ∨ hasB ns.length g = false) :
    Calls Try.prog 22 #[.pointer (some ⟨a.p, 0, none⟩), .int .i64 kind, .int .i64 f, .int .i64 g] w fun e w' => e = .returned (.tuple #[.int .i64 0, .int .i64 1]) ∧ Below w.heap.size w w' := by
  by_cases hc : hasB ns.length f = true ∧ hasB ns.length g = true
  · refine joinJ_core2 most ns kind f g w a h ?_ (joinJ_chk most ns f g a ?_)
    · rcases hb with q | q | q | q
      · exact Or.inl q
      · exact Or.inr q
      · rw [q] at hc; exact absurd hc.1 (by simp)
      · rw [q] at hc; exact absurd hc.2 (by simp)
    · rw [chkF_two, if_pos]; simp [hc.1, hc.2]
  · refine joinJ_core1 most ns kind f g w a h (joinJ_chk most ns f g a ?_)
    rw [chkF_two, if_neg]
    intro q
    rw [Bool.and_eq_true] at q
    exact hc q
end Go.Proofs.Ytggcbklififcgab
/- Ite. -/
namespace Go.Proofs.Ytggcbklififcgab
open Go.RowKit
set_option linter.unusedVariables false

theorem chkF_three (n : Nat) (f g h : Int) : chkF n [f, g, h] = if hasB n f && (hasB n g && hasB n h) then 0 else 1 := by unfold chkF; simp [List.all_cons]
theorem iteJ_chk (most : Nat) (ns : List Nd) (f g h : Int) (a : AL) {c : Int} (hc : chkF ns.length [f, g, h] = c) : ∀ W b, Ar W a most ns → W.cell? ⟨b, 0, none⟩ = some (.int .i64 f) → W.cell? ⟨b, 1, none⟩ = some (.int .i64 g) → W.cell? ⟨b, 2, none⟩ = some (.int .i64 h) → Calls Try.prog 41 #[.pointer (some ⟨a.p, 0, none⟩), .slice (some ⟨b, 0, none⟩) 3 3] W fun e w' => e = .returned (.int .i64 c) ∧ W = w' := fun W b hA h0 h1 h2 => by
  subst hc
  exact check_any a most ns W hA b 3 [f, g, h] (by simp) (fun i v hv => by
    match i, hv with
    | 0, hv => cases hv; exact h0
    | 1, hv => cases hv; exact h1
    | 2, hv => cases hv; exact h2)
end Go.Proofs.Ytggcbklififcgab
/- The headers that have some bits so. -/
namespace Go.Proofs.Ytggcbklififcgab
open Go.RowKit
set_option linter.unusedVariables false

/-- Bits, as they lie. -/
def LitC (w : World) (b : Nat) (l : List (Int × Bool)) : Prop := ∀ i x, l[i]? = some x → w.cell? ⟨b, i * 2, none⟩ = some (.int .i64 x.1) ∧ w.cell? ⟨b, i * 2 + 1, none⟩ = some (.bool x.2)
theorem LitC.on {w w' : World} {b : Nat} {l : List (Int × Bool)} (h : LitC w b l) (hb : Below w.heap.size w w') : LitC w' b l := fun i x hx => by
  obtain ⟨h1, h2⟩ := h i x hx
  exact ⟨(hb.cell (p := ⟨b, i * 2, none⟩) (cell_lt (o := i * 2) (by rw [h1]; rfl))).trans h1, (hb.cell (p := ⟨b, i * 2 + 1, none⟩) (cell_lt (o := i * 2 + 1) (by rw [h2]; rfl))).trans h2⟩
theorem LitC.blk {w w' : World} {b : Nat} {l : List (Int × Bool)} (h : LitC w b l) (hb : w'.heap[b]? = w.heap[b]?) : LitC w' b l := fun i x hx => by
  obtain ⟨h1, h2⟩ := h i x hx
  exact ⟨(World.cell?_of_block (w := w) (a := ⟨b, i * 2, none⟩) hb).trans h1, (World.cell?_of_block (w := w) (a := ⟨b, i * 2 + 1, none⟩) hb).trans h2⟩
theorem LitC.lt {w : World} {b : Nat} {x : Int × Bool} {l : List (Int × Bool)} (h : LitC w b (x :: l)) : b < w.heap.size := cell_lt (o := 0 * 2) (by rw [(h 0 x rfl).1]; rfl)
def natL (l : List (Nat × Bool)) : List (Int × Bool) := l.map fun p => ((p.1 : Int), p.2)
theorem natL_len (l : List (Nat × Bool)) : (natL l).length = l.length := by simp [natL]
theorem natL_get {l : List (Nat × Bool)} {i : Nat} {p : Nat × Bool} (h : l[i]? = some p) : (natL l)[i]? = some ((p.1 : Int), p.2) := by simp [natL, h]
theorem drop_one {α : Type} {l : List α} {j : Nat} {p : α} (h : l[j]? = some p) : l.drop j = p :: l.drop (j + 1) := by
  have hj := lt_of_get h
  rw [List.getElem?_eq_getElem hj] at h
  cases h
  exact List.drop_eq_getElem_cons hj
/-- Bits that rise. -/
def Rise (l : List (Nat × Bool)) : Prop := l.Pairwise (fun a b => a.1 < b.1) ∧ ∀ p ∈ l, p.1 < 104
theorem Rise.drop {l : List (Nat × Bool)} (h : Rise l) (k : Nat) : Rise (l.drop k) := ⟨h.1.sublist (List.drop_sublist _ _), fun p hp => h.2 p (List.mem_of_mem_drop hp)⟩
theorem Rise.len {l : List (Nat × Bool)} (h : Rise l) : l.length ≤ 104 := by
  have h1 : (l.map (·.1)).Nodup := by
    unfold List.Nodup
    rw [List.pairwise_map]
    exact h.1.imp (fun {a b} q e => by omega)
  have := nodup_sub _ (List.range 104) h1 (fun v hv => by
    obtain ⟨p, hp, rfl⟩ := List.mem_map.1 hv
    rw [List.mem_range]; exact h.2 p hp)
  rw [List.length_map, List.length_range] at this
  exact this
/-- Where there was no room for bits behind there is none. -/
theorem cubeF_stuck (most : Nat) (ns : List Nd) : ∀ (j : Nat) (l : List (Nat × Bool)) {ns1 : List Nd}, cubeF most ns (l.drop j) = (none, ns1) → cubeF most ns l = (none, ns1)
  | 0, l, ns1, h => h
  | j + 1, [], ns1, h => h
  | j + 1, p :: r, ns1, h => by
    have := cubeF_stuck most ns j r (by simpa using h)
    rw [cubeF.eq_2, this]
set_option maxRecDepth 100000 in
set_option maxHeartbeats 4000000 in
theorem cube_any (a : AL) (most : Nat) (ns : List Nd) (l : List (Nat × Bool)) (w : World) (h : Ar w a most ns) (hw : WF ns) (hr : Rise l) (b cap : Nat) (hl : LitC w b (natL l)) (hb : b < w.heap.size) (ho : Off (fun _ => False) a b) :
    Calls Try.prog 53 #[.pointer (some ⟨a.p, 0, none⟩), .slice (some ⟨b, 0, none⟩) l.length cap] w (Ans most (cubeF most ns l) w a) := by
  have hln := hr.len
  obtain ⟨n, hn⟩ : ∃ n, l.length = n := ⟨_, rfl⟩
  rw [hn]
  obtain ⟨R, hR⟩ : ∃ R, cubeF most ns l = R := ⟨_, rfl⟩
  rw [hR]
  have HR := Lib.hid hR
  have HN := Lib.hid hn
  have HA := Lib.hid h
  have HW := Lib.hid hw
  have HRi := Lib.hid hr
  have HL := Lib.hid hl
  have HO := Lib.hid (And.intro hb ho)
  rw [hn] at hln
  clear hR hn h hw hr hl hb ho
  have hw0 : IntKind.i64.wrap ((n : Int) - 1) = (n : Int) - 1 := by rw [IntKind.wrap_i64]; omega
  unfold Ans
  go_enter Try.func53, Try.ntmps53
  go_wp2_with fail
  go_loopw [6, 7] (fun fv iv wr => ∃ k f : Nat, fv = .int .i64 (f : Nat) ∧ iv = .int .i64 ((k : Int) - 1) ∧ k ≤ n ∧ ∃ nsk a', Hid (cubeF most ns (l.drop k) = (some f, nsk)) ∧ Hid (Ar wr a' most nsk) ∧ Hid (Tr (fun _ => False) w a wr a')) (fun _ iv _ => (intOf iv + 1).toNat)
  case atStart =>
    refine ⟨n, 1, rfl, rfl, Nat.le_refl _, ns, a, Lib.hid ?_, HA, Lib.hid (Tr.refl _ _ _)⟩
    rw [← HN.out, List.drop_length]; rfl
  case round =>
    obtain ⟨k, f, rfl, rfl, hk, nsk, a', hC, hA, hT⟩ := hrel
    have hp := hT.out.m.1
    match k, hk, hC with
    | 0, hk, hC =>
      have hz : R = (some f, nsk) := by rw [← HR.out]; exact hC.out
      subst hz
      go_wp2
      go_ret2
      exact ⟨rfl, a', hA.out, hT.out⟩
    | j + 1, hk, hC =>
      have e1 : (((j + 1 : Nat) : Int) - 1) = ((j : Nat) : Int) := by omega
      rw [e1]
      clear e1
      obtain ⟨p, hpj⟩ : ∃ p, l[j]? = some p := ⟨_, List.getElem?_eq_getElem (by have := HN.out; omega)⟩
      obtain ⟨v, on⟩ := p
      have hL2 := HL.out.blk (hT.out.k.block b HO.out.1 HO.out.2.not)
      obtain ⟨l_0, l_1⟩ := hL2 j _ (natL_get hpj)
      simp only at l_0 l_1
      have hd := drop_one hpj
      have hv104 : v < 104 := HRi.out.2 (v, on) (List.mem_of_getElem? hpj)
      obtain ⟨wk, -, -, -, sk, -⟩ := cubeF_made most HW.out (l.drop (j + 1)) (HRi.out.drop _).1 (HRi.out.drop _).2
      rw [hC.out] at wk sk
      have hfl := (sk f rfl).1
      simp only at wk hfl
      have WK := Lib.hid wk
      have hfN : f ≤ 262144 := by have := hA.out.len; omega
      have hwj : IntKind.i64.wrap ((j : Int) - 1) = (j : Int) - 1 := by rw [IntKind.wrap_i64]; omega
      have hstep : cubeF most ns (l.drop j) = numF most nsk (if on then ⟨v, 0, f⟩ else ⟨v, f, 0⟩) := by
        rw [hd, cubeF.eq_2, hC.out]
      have HS := Lib.hid hstep
      clear hL2 hd hpj wk sk hfl hstep hC
      go_upto_region 6 with fail
      refine at_code (S := fun W => Blk W wr.heap.size [.int .i64 (v : Nat), .int .i64 (f : Nat), .int .i64 0] ∧ Below wr.heap.size wr W) ⟨Blk.new _ _ _, bel_al (Below.refl _ _) _⟩ (fun W1 hW => ?_)
      obtain ⟨hX, hb1⟩ := hW
      have X1 := Lib.hid hX
      have B1 := Lib.hid hb1
      have l0' : W1.cell? ⟨b, j * 2, none⟩ = some (.int .i64 (v : Nat)) := (hb1.cell (p := ⟨b, j * 2, none⟩) (cell_lt (o := j * 2) (by rw [l_0]; rfl))).trans l_0
      have l1' : W1.cell? ⟨b, j * 2 + 1, none⟩ = some (.bool on) := (hb1.cell (p := ⟨b, j * 2 + 1, none⟩) (cell_lt (o := j * 2 + 1) (by rw [l_1]; rfl))).trans l_1
      clear hX hb1 l_0 l_1
      obtain ⟨x_0, x_1, x_2⟩ : _ ∧ _ ∧ _ := ⟨X1.out.1 0 _ rfl, X1.out.1 1 _ rfl, X1.out.1 2 _ rfl⟩
      obtain ⟨z_0, z_1, z_2⟩ : _ ∧ _ ∧ _ := ⟨X1.out.2 0 _ rfl, X1.out.2 1 _ rfl, X1.out.2 2 _ rfl⟩
      cases on with
      | true =>
        go_upto_region 8 with fail
        refine at_code (S := fun W => Blk W wr.heap.size [.int .i64 (v : Nat), .int .i64 0, .int .i64 (f : Nat)] ∧ Below wr.heap.size wr W) ⟨X1.out.put3 _ _ _, bel_put3 B1.out (Nat.le_refl _) _ _ _⟩ (fun W2 hW => ?_)
        obtain ⟨hX, hb1⟩ := hW
        have B2 := Lib.hid hb1
        have A2 := Lib.hid (hA.out.on hb1)
        clear x_0 x_1 x_2 z_0 z_1 z_2 l0' l1' B1 X1
        obtain ⟨x_0, x_1, x_2⟩ : _ ∧ _ ∧ _ := ⟨hX.1 0 _ rfl, hX.1 1 _ rfl, hX.1 2 _ rfl⟩
        have hstep := HS.out
        simp only [if_true] at hstep
        have CN := Lib.hid (number_any a' most nsk v 0 f W2 A2.out WK.out ⟨by show v ≤ _; omega, by show 0 ≤ _; omega, by show f ≤ _; omega⟩)
        rw [← hstep, hp] at CN
        have hdj : ∀ R', cubeF most ns (l.drop j) = R' → j = 0 → R = R' := fun R' e q => by rw [← HR.out, ← e, q]; rfl
        obtain ⟨r1, ns1, e1⟩ : ∃ r ns', cubeF most ns (l.drop j) = (r, ns') := ⟨_, _, rfl⟩
        rw [e1] at CN
        have E1 := Lib.hid e1
        clear hX hb1 hstep HS e1 hdj
        cases r1 with
        | none =>
          replace CN : Hid (Calls Try.prog _ _ W2 fun e w' => e = .returned (.tuple #[.int .i64 0, .int .i64 20]) ∧ ∃ a'', Ar w' a'' most ns1 ∧ Tr (fun _ => False) W2 a' w' a'') := CN
          have hz : R = (none, ns1) := by
            rw [← HR.out]
            exact cubeF_stuck most ns j l E1.out
          subst hz
          go_wp2_with fail
          refine CN.out.mono ?_
          rintro e w3 ⟨rfl, a2, hA3, hT3⟩
          have F := Lib.hid (And.intro hA3 hT3)
          clear hA3 hT3
          go_wp2
          go_ret2
          exact ⟨rfl, a2, F.out.1, hT.out.trans (Tr.ahead B2.out F.out.2)⟩
        | some f' =>
          replace CN : Hid (Calls Try.prog _ _ W2 fun e w' => e = .returned (.tuple #[.int .i64 (f' : Nat), .int .i64 0]) ∧ ∃ a'', Ar w' a'' most ns1 ∧ Tr (fun _ => False) W2 a' w' a'') := CN
          go_wp2_with fail
          refine CN.out.mono ?_
          rintro e w3 ⟨rfl, a2, hA3, hT3⟩
          have F := Lib.hid (And.intro hA3 hT3)
          clear hA3 hT3
          go_wp2_with fail
          refine ⟨⟨j, f', rfl, ?_, by omega, ns1, a2, E1, Lib.hid F.out.1, Lib.hid (hT.out.trans (Tr.ahead B2.out F.out.2))⟩, by simp [intOf] <;> omega⟩
          first | rfl | rw [hwj]
      | false =>
        go_upto_region 8 with fail
        obtain ⟨W2, hW2⟩ : ∃ W2, W2 = W1 := ⟨_, rfl⟩
        rw [← hW2] at X1 B1 x_0 x_1 x_2 ⊢
        clear hW2 l0' l1' z_0 z_1 z_2
        have B2 := Lib.hid B1.out
        have A2 := Lib.hid (hA.out.on B1.out)
        clear X1 B1
        have hstep := HS.out
        simp only [Bool.false_eq_true, if_false] at hstep
        have CN := Lib.hid (number_any a' most nsk v f 0 W2 A2.out WK.out ⟨by show v ≤ _; omega, by show f ≤ _; omega, by show 0 ≤ _; omega⟩)
        rw [← hstep, hp] at CN
        have hdj : ∀ R', cubeF most ns (l.drop j) = R' → j = 0 → R = R' := fun R' e q => by rw [← HR.out, ← e, q]; rfl
        obtain ⟨r1, ns1, e1⟩ : ∃ r ns', cubeF most ns (l.drop j) = (r, ns') := ⟨_, _, rfl⟩
        rw [e1] at CN
        have E1 := Lib.hid e1
        clear hstep HS e1 hdj
        cases r1 with
        | none =>
          replace CN : Hid (Calls Try.prog _ _ W2 fun e w' => e = .returned (.tuple #[.int .i64 0, .int .i64 20]) ∧ ∃ a'', Ar w' a'' most ns1 ∧ Tr (fun _ => False) W2 a' w' a'') := CN
          have hz : R = (none, ns1) := by
            rw [← HR.out]
            exact cubeF_stuck most ns j l E1.out
          subst hz
          go_wp2_with fail
          refine CN.out.mono ?_
          rintro e w3 ⟨rfl, a2, hA3, hT3⟩
          have F := Lib.hid (And.intro hA3 hT3)
          clear hA3 hT3
          go_wp2
          go_ret2
          exact ⟨rfl, a2, F.out.1, hT.out.trans (Tr.ahead B2.out F.out.2)⟩
        | some f' =>
          replace CN : Hid (Calls Try.prog _ _ W2 fun e w' => e = .returned (.tuple #[.int .i64 (f' : Nat), .int .i64 0]) ∧ ∃ a'', Ar w' a'' most ns1 ∧ Tr (fun _ => False) W2 a' w' a'') := CN
          go_wp2_with fail
          refine CN.out.mono ?_
          rintro e w3 ⟨rfl, a2, hA3, hT3⟩
          have F := Lib.hid (And.intro hA3 hT3)
          clear hA3 hT3
          go_wp2_with fail
          refine ⟨⟨j, f', rfl, ?_, by omega, ns1, a2, E1, Lib.hid F.out.1, Lib.hid (hT.out.trans (Tr.ahead B2.out F.out.2))⟩, by simp [intOf] <;> omega⟩
          first | rfl | rw [hwj]
end Go.Proofs.Ytggcbklififcgab
/- Cube, Var. -/
namespace Go.Proofs.Ytggcbklififcgab
open Go.RowKit
set_option linter.unusedVariables false

theorem at_calls3 {P : Program} {f : Nat} {args : Array Value} {R : Ending → World → Prop} {W : World} {S : World → Prop} (h : S W) (k : ∀ W, S W → Calls P f args W R) : Calls P f args W R := k W h
/-- Two numbers are answered. -/
def Two (Q : Int → Int → World → Prop) (e : Ending) (w' : World) : Prop := ∃ r x : Int, e = .returned (.tuple #[.int .i64 r, .int .i64 x]) ∧ Q r x w'
/-- May the i-th bit stand there. -/
def litOk (l : List (Int × Bool)) (i : Nat) : Bool := bitB (l.getD i (0, false)).1 && (decide (i = 0) || decide ((l.getD (i - 1) (0, false)).1 < (l.getD i (0, false)).1))
def litsOk (l : List (Int × Bool)) : Bool := (List.range l.length).all (litOk l)
set_option maxRecDepth 100000 in
set_option maxHeartbeats 4000000 in
theorem cubeJ_core (a : AL) (most : Nat) (ns : List Nd) (l : List (Int × Bool)) (w : World) (h : Ar w a most ns) (b cap : Nat) (hl : LitC w b l) (hln : l.length ≤ 1000) (Q : Int → Int → World → Prop)
    (HBad : litsOk l = false → ∀ W, Below w.heap.size w W → Q 0 1 W)
    (HW : litsOk l = true → ∀ W, Ar W a most ns → Below w.heap.size w W → W.cell? ⟨w.heap.size, 0, none⟩ = some (.pointer (some ⟨a.p, 0, none⟩)) → W.cell? ⟨w.heap.size + 1, 0, none⟩ = some (.slice (some ⟨b, 0, none⟩) l.length cap) → Calls Try.prog 42 #[.pointer (some ⟨a.p, 0, none⟩), .func (.func 52) #[] #[.pointer (some ⟨w.heap.size, 0, none⟩), .pointer (some ⟨w.heap.size + 1, 0, none⟩)]] W (Two Q)) :
    Calls Try.prog 30 #[.pointer (some ⟨a.p, 0, none⟩), .slice (some ⟨b, 0, none⟩) l.length cap] w (Two Q) := by
  unfold Two at *
  obtain ⟨n, hn⟩ : ∃ n, l.length = n := ⟨_, rfl⟩
  rw [hn] at hln HW ⊢
  have HN := Lib.hid hn
  have HA := Lib.hid h
  have HL := Lib.hid hl
  have HB := Lib.hid HBad
  have HH := Lib.hid HW
  have CB := Lib.hid (fun (i : Int) (W : World) => isbit_any i W)
  clear hn h hl HBad HW
  have hmf : ∀ (fn : Fn) (first cap : Array Value) (w : World), (Instr.makeFunc fn first cap).run Try.prog w = .ok (.func fn first cap) w := fun _ _ _ _ => rfl
  go_enter Try.func30, Try.ntmps30
  go_upto_region 1 with fail
  refine at_code (S := fun W => Blk W w.heap.size [.pointer (some ⟨a.p, 0, none⟩)] ∧ Blk W (w.heap.size + 1) [.slice (some ⟨b, 0, none⟩) n cap] ∧ Below w.heap.size w W) ⟨?_, ?_, bel_al (bel_al (Below.refl _ _) _) _⟩ (fun W0 hW => ?_)
  · exact (Blk.new w _ [.pointer (some ⟨a.p, 0, none⟩)]).on (bel_al (Below.refl _ _) _)
  · have k := Blk.new (w.alloc (.cells #[.pointer (some ⟨a.p, 0, none⟩)] 30)) 78 [.slice (some ⟨b, 0, none⟩) n cap]
    rw [World.size_alloc] at k
    exact k
  obtain ⟨hp, hs, hb⟩ := hW
  have P0 := Lib.hid hp
  have S0 := Lib.hid hs
  have B0 := Lib.hid hb
  have L0 := Lib.hid (HL.out.on hb)
  have p_0 := hp.1 0 _ rfl
  have s_0 := hs.1 0 _ rfl
  clear hp hs hb HL
  go_wp2_with fail
  go_loopw [12] (fun iv wr => ∃ k : Nat, iv = .int .i64 (k : Nat) ∧ k ≤ n ∧ Hid (∀ i, i < k → litOk l i = true) ∧ Hid (Below W0.heap.size W0 wr)) (fun iv _ => n - (intOf iv).toNat)
  case atStart => exact ⟨0, rfl, Nat.zero_le _, Lib.hid (fun i hi => by omega), Lib.hid (Below.refl _ _)⟩
  case round =>
    obtain ⟨k, rfl, hk, hOk, hB⟩ := hrel
    have s_1 : wr.cell? ⟨w.heap.size + 1, 0, none⟩ = some (.slice (some ⟨b, 0, none⟩) n cap) := (S0.out.on hB.out).1 0 _ rfl
    have p_1 : wr.cell? ⟨w.heap.size, 0, none⟩ = some (.pointer (some ⟨a.p, 0, none⟩)) := (P0.out.on hB.out).1 0 _ rfl
    clear s_0 p_0
    by_cases hkn : k < n
    · obtain ⟨x, hx⟩ : ∃ x, l[k]? = some x := ⟨_, List.getElem?_eq_getElem (by have := HN.out; omega)⟩
      have hgd : l.getD k (0, false) = x := by rw [List.getD_eq_getElem?_getD, hx]; rfl
      obtain ⟨v, on⟩ := x
      have L1 := Lib.hid (L0.out.on hB.out)
      obtain ⟨l_0, l_1⟩ := L1.out k _ hx
      simp only at l_0 l_1
      have hwk : IntKind.i64.wrap ((k : Int) + 1) = ((k + 1 : Nat) : Int) := by rw [IntKind.wrap_i64]; omega
      have CI := Lib.hid (fun W => CB.out v W)
      clear CB
      have HX := Lib.hid hx
      have HG := Lib.hid hgd
      clear hx hgd
      go_upto_region 6 with fail
      refine at_code (S := fun W => Blk W wr.heap.size [.int .i64 v, .bool on] ∧ Below wr.heap.size wr W) ⟨Blk.new _ _ _, bel_al (Below.refl _ _) _⟩ (fun W1 hW => ?_)
      obtain ⟨hX, hb1⟩ := hW
      have B1 := Lib.hid (bel_on' hB.out hb1)
      have x_0 := hX.1 0 _ rfl
      have s_2 : W1.cell? ⟨w.heap.size + 1, 0, none⟩ = some (.slice (some ⟨b, 0, none⟩) n cap) := (hb1.cell (p := ⟨w.heap.size + 1, 0, none⟩) (cell_lt (o := 0) (by rw [s_1]; rfl))).trans s_1
      have L2 := Lib.hid (L1.out.on hb1)
      clear hX hb1 l_0 l_1 s_1 p_1 L1
      have s_1 := s_2
      clear s_2
      cases hbit : bitB v with
      | false =>
        rw [hbit] at CI
        refine wp_region_noPanic ?_
        refine wp_region_along (S := fun w' => w'.cell? ⟨wr.heap.size, 0, none⟩ = some (.int .i64 v) ∧ w'.cell? ⟨w.heap.size + 1, 0, none⟩ = some (.slice (some ⟨b, 0, none⟩) n cap)) ([(0, true), (1, true), (2, false), (3, true), (4, true), (5, true), (6, true), (7, true), (8, true), (9, true), (10, true), (11, true), (12, true), (13, true), (14, true), (15, true), (16, true), (17, true), (18, true)]) (by kernel_rfl) (by as_aux_lemma => kernel_rfl) (by kernel_rfl) (by kernel_rfl) (by as_aux_lemma => kernel_rfl) (by as_aux_lemma => kernel_rfl) (fun _ _ _ _ _ h => h) ⟨x_0, s_1⟩ (fun hH => ?_)
        simp only [stepsOf, pickOp]
        iterate 2 (first | (refine along_skip (by rfl) ?_; try simp only [Act.put, List.setIfInBounds_toArray, List.set_cons_zero, List.set_cons_succ]) | (refine along_pure ?_ (by rfl) (fun w hSw => ?_) ?_; rotate_left; (obtain ⟨s_a, s_b⟩ := hSw; go_simp; try with_reducible rfl); try simp only [Act.put, List.setIfInBounds_toArray, List.set_cons_zero, List.set_cons_succ]))
        clear hH
        refine along_bar (fun K hK => ?_)
        go_simp
        refine (CI.out W1.drew).mono ?_
        rintro e w' ⟨rfl, rfl⟩
        try go_wp2_with fail
        refine hK.out _ _ ⟨x_0, s_1⟩ (fun hH => ?_)
        clear hK K
        try simp only [Act.put, List.setIfInBounds_toArray, List.set_cons_zero, List.set_cons_succ]
        iterate 16 (first | (refine along_skip (by rfl) ?_; try simp only [Act.put, List.setIfInBounds_toArray, List.set_cons_zero, List.set_cons_succ]) | (refine along_pure ?_ (by rfl) (fun w hSw => ?_) ?_; rotate_left; (obtain ⟨s_a, s_b⟩ := hSw; go_simp; try with_reducible rfl); try simp only [Act.put, List.setIfInBounds_toArray, List.set_cons_zero, List.set_cons_succ]))
        refine along_end (NoPanic.normal ?_)
        clear hH
        go_wp2
        go_ret2
        refine ⟨0, 1, rfl, HB.out ?_ _ (bel_on' B0.out B1.out.drew)⟩
        unfold litsOk
        rw [Bool.eq_false_iff]
        intro q
        rw [List.all_eq_true] at q
        have := q k (List.mem_range.2 (by rw [HN.out]; exact hkn))
        unfold litOk at this
        rw [HG.out, hbit] at this
        cases this
      | true =>
        rw [hbit] at CI
        rcases Nat.eq_zero_or_pos k with hk0 | hk0
        · subst hk0
          refine wp_region_noPanic ?_
          refine wp_region_along (S := fun w' => w'.cell? ⟨wr.heap.size, 0, none⟩ = some (.int .i64 v) ∧ w'.cell? ⟨w.heap.size + 1, 0, none⟩ = some (.slice (some ⟨b, 0, none⟩) n cap)) ([(0, true), (1, true), (2, false), (3, true), (4, true), (5, true), (6, true), (7, true), (8, true), (9, true), (10, true), (11, true), (12, true), (13, true), (14, true), (15, true), (16, true), (17, true), (18, true)]) (by kernel_rfl) (by as_aux_lemma => kernel_rfl) (by kernel_rfl) (by kernel_rfl) (by as_aux_lemma => kernel_rfl) (by as_aux_lemma => kernel_rfl) (fun _ _ _ _ _ h => h) ⟨x_0, s_1⟩ (fun hH => ?_)
          simp only [stepsOf, pickOp]
          iterate 2 (first | (refine along_skip (by rfl) ?_; try simp only [Act.put, List.setIfInBounds_toArray, List.set_cons_zero, List.set_cons_succ]) | (refine along_pure ?_ (by rfl) (fun w hSw => ?_) ?_; rotate_left; (obtain ⟨s_a, s_b⟩ := hSw; go_simp; try with_reducible rfl); try simp only [Act.put, List.setIfInBounds_toArray, List.set_cons_zero, List.set_cons_succ]))
          clear hH
          refine along_bar (fun K hK => ?_)
          go_simp
          refine (CI.out W1.drew).mono ?_
          rintro e w' ⟨rfl, rfl⟩
          try go_wp2_with fail
          refine hK.out _ _ ⟨x_0, s_1⟩ (fun hH => ?_)
          clear hK K
          try simp only [Act.put, List.setIfInBounds_toArray, List.set_cons_zero, List.set_cons_succ]
          iterate 16 (first | (refine along_skip (by rfl) ?_; try simp only [Act.put, List.setIfInBounds_toArray, List.set_cons_zero, List.set_cons_succ]) | (refine along_pure ?_ (by rfl) (fun w hSw => ?_) ?_; rotate_left; (obtain ⟨s_a, s_b⟩ := hSw; go_simp; try with_reducible rfl); try simp only [Act.put, List.setIfInBounds_toArray, List.set_cons_zero, List.set_cons_succ]))
          refine along_end (NoPanic.normal ?_)
          clear hH
          go_wp2_with fail
          refine ⟨⟨1, rfl, by omega, Lib.hid (fun i hi => ?_), Lib.hid B1.out.drew⟩, by simp [intOf] <;> omega⟩
          have : i = 0 := by omega
          subst this
          unfold litOk
          rw [HG.out, hbit]
          rfl
        · obtain ⟨j, hj⟩ : ∃ j, k = j + 1 := ⟨k - 1, by omega⟩
          obtain ⟨y, hy⟩ : ∃ y, l[j]? = some y := ⟨_, List.getElem?_eq_getElem (by have := HN.out; omega)⟩
          obtain ⟨u, ou⟩ := y
          have hgu : l.getD j (0, false) = (u, ou) := by rw [List.getD_eq_getElem?_getD, hy]; rfl
          have u_0 := (L2.out j _ hy).1
          simp only at u_0
          have hju : IntKind.i64.wrap ((k : Int) - 1) = ((j : Nat) : Int) := by rw [IntKind.wrap_i64]; omega
          have hpos : (0 : Int) < (k : Int) := by omega
          have hjn : j < n := by omega
          have HU := Lib.hid hgu
          have HJ := Lib.hid hj
          clear hgu hy hj
          by_cases hle : v ≤ u
          · refine wp_region_noPanic ?_
            refine wp_region_along (S := fun w' => w'.cell? ⟨wr.heap.size, 0, none⟩ = some (.int .i64 v) ∧ w'.cell? ⟨w.heap.size + 1, 0, none⟩ = some (.slice (some ⟨b, 0, none⟩) n cap) ∧ w'.cell? ⟨b, j * 2, none⟩ = some (.int .i64 u)) ([(0, true), (1, true), (2, false), (3, true), (4, true), (5, true), (6, true), (7, true), (8, true), (9, true), (10, true), (11, true), (12, true), (13, true), (14, true), (15, true), (16, true), (17, true), (18, true)]) (by kernel_rfl) (by as_aux_lemma => kernel_rfl) (by kernel_rfl) (by kernel_rfl) (by as_aux_lemma => kernel_rfl) (by as_aux_lemma => kernel_rfl) (fun _ _ _ _ _ h => h) ⟨x_0, s_1, u_0⟩ (fun hH => ?_)
            simp only [stepsOf, pickOp]
            iterate 2 (first | (refine along_skip (by rfl) ?_; try simp only [Act.put, List.setIfInBounds_toArray, List.set_cons_zero, List.set_cons_succ]) | (refine along_pure ?_ (by rfl) (fun w hSw => ?_) ?_; rotate_left; (obtain ⟨s_a, s_b, s_c⟩ := hSw; go_simp; try with_reducible rfl); try simp only [Act.put, List.setIfInBounds_toArray, List.set_cons_zero, List.set_cons_succ]))
            clear hH
            refine along_bar (fun K hK => ?_)
            go_simp
            refine (CI.out W1.drew).mono ?_
            rintro e w' ⟨rfl, rfl⟩
            try go_wp2_with fail
            refine hK.out _ _ ⟨x_0, s_1, u_0⟩ (fun hH => ?_)
            clear hK K
            try simp only [Act.put, List.setIfInBounds_toArray, List.set_cons_zero, List.set_cons_succ]
            iterate 16 (first | (refine along_skip (by rfl) ?_; try simp only [Act.put, List.setIfInBounds_toArray, List.set_cons_zero, List.set_cons_succ]) | (refine along_pure ?_ (by rfl) (fun w hSw => ?_) ?_; rotate_left; (obtain ⟨s_a, s_b, s_c⟩ := hSw; go_simp; try with_reducible rfl); try simp only [Act.put, List.setIfInBounds_toArray, List.set_cons_zero, List.set_cons_succ]))
            refine along_end (NoPanic.normal ?_)
            clear hH
            go_wp2
            go_ret2
            refine ⟨0, 1, rfl, HB.out ?_ _ (bel_on' B0.out B1.out.drew)⟩
            unfold litsOk
            rw [Bool.eq_false_iff]
            intro q
            rw [List.all_eq_true] at q
            have := q k (List.mem_range.2 (by rw [HN.out]; exact hkn))
            unfold litOk at this
            rw [HG.out, show k - 1 = j by have := HJ.out; omega, HU.out] at this
            simp at this
            omega
          · refine wp_region_noPanic ?_
            refine wp_region_along (S := fun w' => w'.cell? ⟨wr.heap.size, 0, none⟩ = some (.int .i64 v) ∧ w'.cell? ⟨w.heap.size + 1, 0, none⟩ = some (.slice (some ⟨b, 0, none⟩) n cap) ∧ w'.cell? ⟨b, j * 2, none⟩ = some (.int .i64 u)) ([(0, true), (1, true), (2, false), (3, true), (4, true), (5, true), (6, true), (7, true), (8, true), (9, true), (10, true), (11, true), (12, true), (13, true), (14, true), (15, true), (16, true), (17, true), (18, true)]) (by kernel_rfl) (by as_aux_lemma => kernel_rfl) (by kernel_rfl) (by kernel_rfl) (by as_aux_lemma => kernel_rfl) (by as_aux_lemma => kernel_rfl) (fun _ _ _ _ _ h => h) ⟨x_0, s_1, u_0⟩ (fun hH => ?_)
            simp only [stepsOf, pickOp]
            iterate 2 (first | (refine along_skip (by rfl) ?_; try simp only [Act.put, List.setIfInBounds_toArray, List.set_cons_zero, List.set_cons_succ]) | (refine along_pure ?_ (by rfl) (fun w hSw => ?_) ?_; rotate_left; (obtain ⟨s_a, s_b, s_c⟩ := hSw; go_simp; try with_reducible rfl); try simp only [Act.put, List.setIfInBounds_toArray, List.set_cons_zero, List.set_cons_succ]))
            clear hH
            refine along_bar (fun K hK => ?_)
            go_simp
            refine (CI.out W1.drew).mono ?_
            rintro e w' ⟨rfl, rfl⟩
            try go_wp2_with fail
            refine hK.out _ _ ⟨x_0, s_1, u_0⟩ (fun hH => ?_)
            clear hK K
            try simp only [Act.put, List.setIfInBounds_toArray, List.set_cons_zero, List.set_cons_succ]
            iterate 16 (first | (refine along_skip (by rfl) ?_; try simp only [Act.put, List.setIfInBounds_toArray, List.set_cons_zero, List.set_cons_succ]) | (refine along_pure ?_ (by rfl) (fun w hSw => ?_) ?_; rotate_left; (obtain ⟨s_a, s_b, s_c⟩ := hSw; go_simp; try with_reducible rfl); try simp only [Act.put, List.setIfInBounds_toArray, List.set_cons_zero, List.set_cons_succ]))
            refine along_end (NoPanic.normal ?_)
            clear hH
            go_wp2_with fail
            refine ⟨⟨k + 1, ?_, by omega, Lib.hid (fun i hi => ?_), Lib.hid B1.out.drew⟩, by simp [intOf] <;> omega⟩
            · first | rfl | rw [hwk]
            · rcases Nat.lt_or_ge i k with q | q
              · exact hOk.out i q
              · have : i = k := by omega
                subst this
                unfold litOk
                rw [HG.out, show i - 1 = j by have := HJ.out; omega, HU.out, hbit]
                simp
                omega
    · have hkn' : k = n := by omega
      subst hkn'
      have hgood : litsOk l = true := by
        unfold litsOk
        rw [List.all_eq_true]
        intro i hi
        rw [List.mem_range, HN.out] at hi
        exact hOk.out i hi
      have hb := bel_on' B0.out hB.out
      have CC := Lib.hid (HH.out hgood wr (HA.out.on hb) hb p_1 s_1)
      clear hb
      go_wp2_with fail
      refine CC.out.mono ?_
      rintro e w3 ⟨r, x, rfl, hP⟩
      have HP := Lib.hid hP
      clear hP
      go_wp2
      go_ret2
      exact ⟨r, x, rfl, HP.out⟩
set_option maxRecDepth 100000 in
set_option maxHeartbeats 1000000 in
theorem cubeL_any (most : Nat) (R : Option Nat × List Nd) (W : World) (a : AL) (v : Value) (b0 b1 : Nat) (c0 : W.cell? ⟨b0, 0, none⟩ = some (.pointer (some ⟨a.p, 0, none⟩))) (c1 : W.cell? ⟨b1, 0, none⟩ = some v) (HJ : Hid (Calls Try.prog 53 #[.pointer (some ⟨a.p, 0, none⟩), v] W (Ans most R W a))) :
    Calls Try.prog 52 #[.pointer (some ⟨b0, 0, none⟩), .pointer (some ⟨b1, 0, none⟩)] W (Ans most R W a) := by
  unfold Ans at HJ ⊢
  obtain ⟨r, hr⟩ : ∃ r : Int, ((rv R.1 : Nat) : Int) = r := ⟨_, rfl⟩
  obtain ⟨x, hx⟩ : ∃ x : Int, er R.1 = x := ⟨_, rfl⟩
  rw [hr, hx] at HJ ⊢
  clear hr hx
  go_enter Try.func52, Try.ntmps52
  go_wp2_with fail
  refine HJ.out.mono ?_
  rintro e w1 ⟨rfl, a1, hA, hT⟩
  have F := Lib.hid (And.intro hA hT)
  clear hA hT
  go_wp2
  go_ret2
  exact ⟨rfl, a1, F.out.1, F.out.2⟩
def AnsQ (most : Nat) (R : Option Nat × List Nd) (w : World) (a : AL) (r x : Int) (w' : World) : Prop := r = (rv R.1 : Nat) ∧ x = er R.1 ∧ ∃ a', Ar w' a' most R.2 ∧ Tr (fun _ => False) w a w' a'
theorem ans_of {most : Nat} {R : Option Nat × List Nd} {w : World} {a : AL} {e : Ending} {w' : World} (h : Two (AnsQ most R w a) e w') : Ans most R w a e w' := by
  obtain ⟨r, x, rfl, rfl, rfl, h⟩ := h
  exact ⟨rfl, h⟩
theorem of_ans {most : Nat} {R : Option Nat × List Nd} {w W : World} {a : AL} {e : Ending} {w' : World} (hb : Below w.heap.size w W) (h : Ans most R W a e w') : Two (AnsQ most R w a) e w' := by
  obtain ⟨rfl, a', h1, h2⟩ := h
  exact ⟨_, _, rfl, rfl, rfl, a', h1, Tr.ahead hb h2⟩
theorem litsOk_nat {l : List (Nat × Bool)} (h : Rise l) : litsOk (natL l) = true := by
  unfold litsOk
  rw [List.all_eq_true]
  intro i hi
  rw [List.mem_range, natL_len] at hi
  have hg : ∀ j, j < l.length → ∃ p, l[j]? = some p ∧ (natL l).getD j (0, false) = ((p.1 : Int), p.2) := fun j hj => by
    obtain ⟨p, hp⟩ : ∃ p, l[j]? = some p := ⟨_, List.getElem?_eq_getElem hj⟩
    exact ⟨p, hp, by rw [List.getD_eq_getElem?_getD, natL_get hp]; rfl⟩
  obtain ⟨p, hp, ep⟩ := hg i hi
  have h1 := h.2 p (List.mem_of_getElem? hp)
  unfold litOk
  rw [ep]
  have hb : bitB (p.1 : Int) = true := by unfold bitB; simp; omega
  rw [hb, Bool.true_and, Bool.or_eq_true, decide_eq_true_eq, decide_eq_true_eq]
  rcases Nat.eq_zero_or_pos i with q | q
  · exact Or.inl q
  · right
    obtain ⟨p', hp', ep'⟩ := hg (i - 1) (by omega)
    rw [ep']
    have := List.pairwise_iff_getElem.1 h.1 (i - 1) i (by omega) hi (by omega)
    rw [List.getElem?_eq_getElem hi] at hp
    rw [List.getElem?_eq_getElem (by omega)] at hp'
    cases hp
    cases hp'
    show ((_ : Nat) : Int) < ((_ : Nat) : Int)
    omega
/-- Cube of bits that rise. -/
theorem cubeJ_any (a : AL) (most : Nat) (ns : List Nd) (l : List (Nat × Bool)) (w : World) (h : Ar w a most ns) (hw : WF ns) (hr : Rise l) (b cap : Nat) (hl : LitC w b (natL l)) (hb : b < w.heap.size) (ho : Off (fun _ => False) a b) :
    Calls Try.prog 30 #[.pointer (some ⟨a.p, 0, none⟩), .slice (some ⟨b, 0, none⟩) l.length cap] w (Ans most (cF most ns l) w a) := by
  have k := cubeJ_core a most ns (natL l) w h b cap hl (by rw [natL_len]; have := hr.len; omega) (AnsQ most (cF most ns l) w a) (fun q => by rw [litsOk_nat hr] at q; cases q) (fun _ W hA hB c0 c1 => ?_)
  · rw [natL_len] at k; exact k.mono fun _ _ => ans_of
  · obtain ⟨M, X, -⟩ := cubeF_made most hw l hr.1 hr.2
    rw [natL_len] at c1
    have C := whole_core most ns (cubeF most ns l).2 (cubeF most ns l).1 52 _ W a hA hw M X Try.call52 (cubeL_any most (cubeF most ns l) W a _ _ _ c0 c1 (cube_any a most ns l W hA hw hr b cap (hl.on hB) (by have := hB.size; omega) ho))
    exact C.mono fun _ _ q => of_ans hB q
/-- .. of others. -/
theorem cubeJ_bad (a : AL) (most : Nat) (ns : List Nd) (l : List (Int × Bool)) (w : World) (h : Ar w a most ns) (b cap : Nat) (hl : LitC w b l) (hln : l.length ≤ 1000) (hb : litsOk l = false) :
    Calls Try.prog 30 #[.pointer (some ⟨a.p, 0, none⟩), .slice (some ⟨b, 0, none⟩) l.length cap] w fun e w' => e = .returned (.tuple #[.int .i64 0, .int .i64 1]) ∧ Below w.heap.size w w' :=
  (cubeJ_core a most ns l w h b cap hl hln (fun r x W => r = 0 ∧ x = 1 ∧ Below w.heap.size w W) (fun _ W hW => ⟨rfl, rfl, hW⟩) (fun q => by rw [hb] at q; cases q)).mono fun e w' q => by
    obtain ⟨r, x, rfl, rfl, rfl, hb⟩ := q
    exact ⟨rfl, hb⟩
set_option maxHeartbeats 1000000 in
theorem cubeJ_nil (v : Option Addr) (n c : Nat) (w : World) : Calls Try.prog 30 #[.pointer none, .slice v n c] w fun e w' => e = .returned (.tuple #[.int .i64 0, .int .i64 2]) ∧ Below w.heap.size w w' := by
  go_enter Try.func30, Try.ntmps30
  go_wp2
  go_ret2
  exact ⟨rfl, bel_al (bel_al (Below.refl _ _) _) _⟩
theorem rise_one {i : Nat} (h : i < 104) (on : Bool) : Rise [(i, on)] := ⟨by simp, fun p hp => by rw [List.mem_singleton.1 hp]; exact h⟩
theorem Ar.off {w : World} {a : AL} {most : Nat} {ns : List Nd} (h : Ar w a most ns) {b : Nat} (hb : w.heap.size ≤ b) : Off (fun _ => False) a b :=
  ⟨by have := h.pl; omega, by have := h.ql; omega, by have := h.ml; omega, fun q => q⟩
end Go.Proofs.Ytggcbklififcgab
/- The small functions of layer 2: a header's words, a bit's words, a bit. -/
namespace Go.Proofs.Ytggcbklififcgab
open Go.RowKit
set_option linter.unusedVariables false

/-- A header's fields: within their kinds. -/
structure HB (d s p x y : Nat) : Prop where
  d : d < 4294967296
  s : s < 4294967296
  p : p < 256
  x : x < 65536
  y : y < 65536
/-- A header, and its words, as values. -/
abbrev hv (d s p x y : Int) : Value := .agg #[.int .u32 d, .int .u32 s, .int .u8 p, .int .u16 x, .int .u16 y]
abbrev wv (a b : Int) : Value := .agg #[.int .u64 a, .int .u64 b]
/-- A header's words. -/
def pa (d s : Nat) : Nat := d * 4294967296 + s
def pb (p x y : Nat) : Nat := p * 4294967296 + x * 65536 + y
theorem pa_lt {d s : Nat} (hd : d < 4294967296) (hs : s < 4294967296) : pa d s < 18446744073709551616 := by unfold pa; omega
theorem pb_lt {p x y : Nat} (hp : p < 256) (hx : x < 65536) (hy : y < 65536) : pb p x y < 1099511627776 := by unfold pb; omega
theorem pa_eq {d s : Nat} (hd : d < 4294967296) (hs : s < 4294967296) :
    bits .or .u64 (IntKind.u64.wrap (IntKind.u64.wrap (d : Int) * 4294967296)) (IntKind.u64.wrap (s : Int)) = (pa d s : Int) := by
  rw [u64_wrap_id d (by omega) (by omega), u64_wrap_id s (by omega) (by omega), u64_wrap_id _ (by omega) (by omega)]
  rw [bits_join .u64 64 (by decide) wraps_u64 32 _ _ (by omega) (by omega) (by omega) (by omega) (by omega) (by omega)]
  unfold pa; omega
theorem pb_eq {p x y : Nat} (hp : p < 256) (hx : x < 65536) (hy : y < 65536) :
    bits .or .u64 (bits .or .u64 (IntKind.u64.wrap (IntKind.u64.wrap (p : Int) * 4294967296)) (IntKind.u64.wrap (IntKind.u64.wrap (x : Int) * 65536))) (IntKind.u64.wrap (y : Int)) = (pb p x y : Int) := by
  rw [u64_wrap_id p (by omega) (by omega), u64_wrap_id x (by omega) (by omega), u64_wrap_id y (by omega) (by omega), u64_wrap_id _ (by omega) (by omega), u64_wrap_id _ (by omega) (by omega)]
  rw [bits_join .u64 64 (by decide) wraps_u64 32 ((p : Int) * 4294967296) ((x : Int) * 65536) (by omega) (by omega) (by omega) (by omega) (by omega) (by omega)]
  rw [bits_join .u64 64 (by decide) wraps_u64 16 ((p : Int) * 4294967296 + (x : Int) * 65536) y (by omega) (by omega) (by omega) (by omega) (by omega) (by omega)]
  unfold pb; omega
set_option maxHeartbeats 400000 in
theorem pack_exact (d s p x y : Nat) (h : HB d s p x y) (w : World) :
    Calls Try.prog 54 #[hv d s p x y] w fun e w' => e = .returned (wv (pa d s) (pb p x y)) ∧ (w.alloc (.cells #[.int .u32 d, .int .u32 s, .int .u8 p, .int .u16 x, .int .u16 y] 29)).alloc (.cells #[.int .u64 (pa d s), .int .u64 (pb p x y)] 107) = w' := by
  have e1 := pa_eq h.d h.s
  have e2 := pb_eq h.p h.x h.y
  go_enter Try.func54, Try.ntmps54
  go_wp2
  exact bodyPost_ret (v := wv (pa d s) (pb p x y)) (by simp [results, Try.results54, go_sem]) rfl ⟨rfl, rfl⟩
/-- A bit's words. -/
def ma (i : Int) : Nat := if 0 ≤ i ∧ i < 64 then 2 ^ (63 - i.toNat) else 0
def mb (i : Int) : Nat := if 64 ≤ i ∧ i < 104 then 2 ^ (103 - i.toNat) else 0
theorem pow_lt (j : Nat) (h : j < 64) : 2 ^ j < 18446744073709551616 := by
  have := Nat.pow_lt_pow_right (a := 2) (by omega) h
  rwa [show (2 : Nat) ^ 64 = 18446744073709551616 from by decide] at this
theorem ma_lt (i : Int) : ma i < 18446744073709551616 := by unfold ma; split; exact pow_lt _ (by omega); omega
theorem mb_lt (i : Int) : mb i < 18446744073709551616 := by unfold mb; split; exact pow_lt _ (by omega); omega
theorem wrap_pow (j : Nat) (h : j < 64) : IntKind.u64.wrap (2 ^ j : Int) = ((2 ^ j : Nat) : Int) := by
  have := pow_lt j h
  have e : (2 ^ j : Int) = ((2 ^ j : Nat) : Int) := (Int.natCast_pow 2 j).symm
  rw [e]
  generalize (2 : Nat) ^ j = n at *
  exact u64_wrap_id _ (by omega) (by omega)
theorem ret_wv {a b : Int} {c d : Nat} (e1 : a = c) (e2 : b = d) : Ending.returned (wv a b) = .returned (wv c d) := by rw [e1, e2]
set_option maxHeartbeats 400000 in
theorem mask_exact (i : Int) (w : World) :
    Calls Try.prog 55 #[.int .i64 i] w fun e w' => e = .returned (wv (ma i) (mb i)) ∧ w.alloc (.cells #[.int .u64 (ma i), .int .u64 (mb i)] 107) = w' := by
  by_cases c : i < 0 ∨ 104 ≤ i
  · have e1 : ma i = 0 := by unfold ma; rw [if_neg (by omega)]
    have e2 : mb i = 0 := by unfold mb; rw [if_neg (by omega)]
    rw [e1, e2]
    clear e1 e2
    by_cases c1 : i < 0
    · clear c
      go_enter Try.func55, Try.ntmps55
      go_wp2
      exact bodyPost_ret (v := wv 0 0) (by simp [results, Try.results55, go_sem]) rfl ⟨rfl, rfl⟩
    · have c2 : 104 ≤ i := by omega
      clear c
      go_enter Try.func55, Try.ntmps55
      go_wp2
      exact bodyPost_ret (v := wv 0 0) (by simp [results, Try.results55, go_sem]) rfl ⟨rfl, rfl⟩
  · obtain ⟨k, rfl⟩ := Int.eq_ofNat_of_zero_le (show 0 ≤ i by omega)
    by_cases c1 : k < 64
    · have e1 : ma k = 2 ^ (63 - k) := by unfold ma; rw [if_pos (by omega)]; rfl
      have e2 : mb k = 0 := by unfold mb; rw [if_neg (by omega)]
      have e3 : IntKind.u64.wrap (2 ^ (63 - k) : Int) = (ma k : Int) := by rw [e1]; exact wrap_pow _ (by omega)
      rw [e2]
      clear e1 e2 c
      go_enter Try.func55, Try.ntmps55
      go_wp2
      exact bodyPost_ret (v := wv (ma k) 0) (by simp [results, Try.results55, go_sem]) rfl ⟨rfl, rfl⟩
    · have e1 : ma k = 0 := by unfold ma; rw [if_neg (by omega)]
      have e2 : mb k = 2 ^ (103 - k) := by unfold mb; rw [if_pos (by omega)]; rfl
      have e3 : IntKind.u64.wrap (2 ^ (103 - k) : Int) = (mb k : Int) := by rw [e2]; exact wrap_pow _ (by omega)
      have c2 : k < 104 := by omega
      rw [e1]
      clear e1 e2 c
      go_enter Try.func55, Try.ntmps55
      go_wp2
      exact bodyPost_ret (v := wv 0 (mb k)) (by simp [results, Try.results55, go_sem]) rfl ⟨rfl, rfl⟩
theorem ne_dec (n : Nat) : ((n : Int) != 0) = !decide (n = 0) := by
  by_cases h : n = 0
  · subst h; rfl
  · have : ((n : Int) != 0) = true := by simp; omega
    rw [this, decide_eq_false h]; rfl
/-- A bit of a header; none outside. -/
def bt (d s p x y : Nat) (i : Int) : Bool := decide ((pa d s &&& ma i) ≠ 0) || decide ((pb p x y &&& mb i) ≠ 0)
theorem below_al {W w : World} (h : Below W.heap.size W w) (o : Obj) : Below W.heap.size W (w.alloc o) := h.alloc h.size o
theorem below_on {W w w' : World} (h : Below W.heap.size W w) (k : Below w.heap.size w w') : Below W.heap.size W w' := h.trans (k.mono h.size)
theorem ret_bool {a b : Bool} (h : a = b) : Ending.returned (.bool a) = .returned (.bool b) := by rw [h]
set_option maxHeartbeats 400000 in
theorem bit_core (d s p x y i a b m n u v : Int)
    (hp : ∀ w, Calls Try.prog 54 #[hv d s p x y] w fun e w' => e = .returned (wv a b) ∧ (w.alloc (.cells #[.int .u32 d, .int .u32 s, .int .u8 p, .int .u16 x, .int .u16 y] 29)).alloc (.cells #[.int .u64 a, .int .u64 b] 107) = w')
    (hm : ∀ w, Calls Try.prog 55 #[.int .i64 i] w fun e w' => e = .returned (wv m n) ∧ w.alloc (.cells #[.int .u64 m, .int .u64 n] 107) = w')
    (q1 : bits .and .u64 a m = u) (q2 : bits .and .u64 b n = v) (w : World) :
    Calls Try.prog 34 #[hv d s p x y, .int .i64 i] w fun e w' => e = .returned (.bool (u != 0 || v != 0)) ∧ Below w.heap.size w w' := by
  go_enter Try.func34, Try.ntmps34
  go_wp2_with fail
  refine (hp _).mono ?_
  rintro e w' ⟨rfl, rfl⟩
  go_wp2_with fail
  refine (hm _).mono ?_
  rintro e w' ⟨rfl, rfl⟩
  clear hp hm
  by_cases c : u = 0
  · go_wp2
    go_ret
    exact ⟨ret_bool (by simp [c]), below_al (below_al (below_al (below_al (below_al (below_al (Below.refl _ _) _) _) _) _) _) _⟩
  · go_wp2
    go_ret
    exact ⟨ret_bool (by simp [c]), below_al (below_al (below_al (below_al (below_al (below_al (Below.refl _ _) _) _) _) _) _) _⟩
theorem bit_any (d s p x y : Nat) (i : Int) (h : HB d s p x y) (w : World) :
    Calls Try.prog 34 #[hv d s p x y, .int .i64 i] w fun e w' => e = .returned (.bool (bt d s p x y i)) ∧ Below w.heap.size w w' := by
  have q := bit_core d s p x y i _ _ _ _ _ _ (pack_exact d s p x y h) (mask_exact i) (bits_and_u64_nat _ _ (pa_lt h.d h.s) (ma_lt i)) (bits_and_u64_nat _ _ (Nat.lt_trans (pb_lt h.p h.x h.y) (by omega)) (mb_lt i)) w
  refine q.mono ?_
  rintro e w' ⟨rfl, hb⟩
  exact ⟨ret_bool (by unfold bt; simp only [ne_dec, ne_eq, decide_not]), hb⟩
end Go.Proofs.Ytggcbklififcgab
/- A new arena; a node; whether a set has a header. -/
namespace Go.Proofs.Ytggcbklififcgab
open Go.RowKit
set_option linter.unusedVariables false

theorem at_calls2 {P : Program} {f : Nat} {args : Array Value} {R : Ending → World → Prop} {W : World} {S : World → Prop} (h : S W) (k : ∀ W, S W → Calls P f args W R) : Calls P f args W R := k W h
/-- A new arena, in new memory. -/
def New (most : Nat) (w : World) (e : Ending) (w' : World) : Prop := ∃ a : AL, e = .returned (.tuple #[.pointer (some ⟨a.p, 0, none⟩), .int .i64 0]) ∧ Ar w' a most [bot, top] ∧ Below w.heap.size w w' ∧ w.heap.size ≤ a.p ∧ w.heap.size ≤ a.q ∧ w.heap.size ≤ a.m
theorem heap_now (w : World) (o : Obj) : (w.alloc o).heap[w.heap.size]? = some o := (MapKept.heap_alloc w o).1
set_option maxRecDepth 100000 in
set_option maxHeartbeats 1000000 in
theorem new_any (most : Nat) (h2 : 2 ≤ most) (hm : most ≤ 262144) (w : World) : Calls Try.prog 8 #[.int .i64 (most : Nat)] w (New most w) := by
  have hmm := @run_makeMap Try.prog
  have q1 : ¬ ((most : Nat) : Int) < 2 := by omega
  have q2 : ¬ 262144 < ((most : Nat) : Int) := by omega
  go_enter Try.func8, Try.ntmps8
  go_wp2
  go_ret2
  refine ⟨⟨w.heap.size + 2, w.heap.size, w.heap.size + 1, 2⟩, rfl, ⟨?_, ?_, ?_, by simp, hm, by show w.heap.size + 2 ≠ w.heap.size; omega⟩, bel_al (bel_al (bel_al (Below.refl _ _) _) _) _, by show _ ≤ w.heap.size + 2; omega, Nat.le_refl _, by show _ ≤ w.heap.size + 1; omega⟩
  · have k := Blk.new ((w.alloc (.cells #[.int .i64 104, .int .i64 0, .int .i64 0, .int .i64 104, .int .i64 1, .int .i64 1] 72)).alloc (.map #[] 0)) 76 [.int .i64 (most : Nat), .slice (some ⟨w.heap.size, 0, none⟩) 2 2, .map (some (w.heap.size + 1))]
    rw [World.size_alloc, World.size_alloc] at k
    exact k
  · refine ⟨by rw [flat_len], Or.inr ⟨w.heap.size, 2, #[.int .i64 104, .int .i64 0, .int .i64 0, .int .i64 104, .int .i64 1, .int .i64 1], rfl, Nat.zero_le _, ?_, by simp, by unfold maxLen; omega, rfl, rfl⟩⟩
    rw [Below.heap_alloc _ _ _ (by simp; omega), Below.heap_alloc _ _ _ (by simp)]
    exact heap_now _ _
  · have k : numL [bot, top] = [] := rfl
    rw [k]
    have k2 := (MapG.made (P := Try.prog) (tk := 72) (te := 3) (kv := nv) (w.alloc (.cells #[.int .i64 104, .int .i64 0, .int .i64 0, .int .i64 104, .int .i64 1, .int .i64 1] 72)))
    rw [World.size_alloc] at k2
    exact k2.same (Below.heap_alloc _ _ _ (by simp))
set_option maxHeartbeats 1000000 in
theorem new_bad (most : Int) (h : most < 2 ∨ 262144 < most) (w : World) : Calls Try.prog 8 #[.int .i64 most] w fun e w' => e = .returned (.tuple #[.pointer none, .int .i64 1]) ∧ w = w' := by
  by_cases q1 : most < 2
  · go_enter Try.func8, Try.ntmps8
    go_wp2
    go_ret2
    exact ⟨rfl, rfl⟩
  · have q2 : 262144 < most := by omega
    go_enter Try.func8, Try.ntmps8
    go_wp2
    go_ret2
    exact ⟨rfl, rfl⟩
/-- A header's bits. -/
def hE (d s p x y : Nat) : Env := fun i => bt d s p x y (i : Int)
set_option maxRecDepth 100000 in
set_option maxHeartbeats 2000000 in
theorem in_any (a : AL) (most : Nat) (ns : List Nd) (f d s p x y : Nat) (hh : HB d s p x y) (w : World) (h : Ar w a most ns) (hw : WF ns) (hf : f < ns.length) :
    Calls Try.prog 12 #[.pointer (some ⟨a.p, 0, none⟩), .int .i64 (f : Nat), hv d s p x y] w fun e w' => e = .returned (.bool (ev ns (hE d s p x y) f)) ∧ Below w.heap.size w w' := by
  obtain ⟨R, hR⟩ : ∃ R, ev ns (hE d s p x y) f = R := ⟨_, rfl⟩
  rw [hR]
  have HR := Lib.hid hR
  have A0 := Lib.hid h
  have HW := Lib.hid hw
  have C := Lib.hid (fun (W : World) (hA : Ar W a most ns) => has_any a most ns f W hA)
  have CB := Lib.hid (fun (i : Int) (W : World) => bit_any d s p x y i hh W)
  have hb : hasB ns.length (f : Nat) = true := by unfold hasB; simp; omega
  rw [hb] at C
  have hlen := h.len
  clear h hw hR hb hh
  go_enter Try.func12, Try.ntmps12
  go_wp2_with fail
  refine at_calls2 (S := fun W => Blk W w.heap.size [.int .u32 (d : Nat), .int .u32 (s : Nat), .int .u8 (p : Nat), .int .u16 (x : Nat), .int .u16 (y : Nat)] ∧ Below w.heap.size w W) ⟨Blk.new _ _ _, bel_al (Below.refl _ _) _⟩ (fun W1 hW => ?_)
  obtain ⟨hX, hb⟩ := hW
  refine (C.out W1 (A0.out.on hb)).mono ?_
  rintro e w' ⟨rfl, rfl⟩
  have X1 := Lib.hid hX
  have B1 := Lib.hid hb
  clear hX hb C
  go_wp2_with fail
  go_loopw [1] (fun iv wr => ∃ k : Nat, iv = .int .i64 (k : Nat) ∧ k < ns.length ∧ Hid (ev ns (hE d s p x y) k = R) ∧ Hid (Below W1.heap.size W1 wr)) (fun iv _ => (intOf iv).toNat)
  case atStart => exact ⟨f, rfl, hf, HR, Lib.hid (Below.refl _ _)⟩
  case round =>
    obtain ⟨k, rfl, hk, hE, hB⟩ := hrel
    have X2 := Lib.hid (X1.out.on hB.out)
    have A2 := Lib.hid (A0.out.on (bel_on' B1.out hB.out))
    by_cases h1 : 1 < k
    · obtain ⟨n, hn⟩ : ∃ n, ns.getD k bot = n := ⟨_, rfl⟩
      obtain ⟨v, l, hi⟩ := n
      obtain ⟨p1, p2, -⟩ := HW.out.parts (f := k) (by omega) hk
      have hev := ev_node HW.out (Go.Proofs.Ytggcbklififcgab.hE d s p x y) (f := k) (by omega) hk
      unfold lv at hev
      rw [hn] at p1 p2 hev
      replace hev : ev ns (Go.Proofs.Ytggcbklififcgab.hE d s p x y) k = if bt d s p x y (v : Nat) then ev ns (Go.Proofs.Ytggcbklififcgab.hE d s p x y) hi else ev ns (Go.Proofs.Ytggcbklififcgab.hE d s p x y) l := hev
      rw [hE.out] at hev
      have n_0 : wr.cell? ⟨a.q, k * 3, none⟩ = some (.int .i64 (v : Nat)) := A2.out.node (j := 0) hk (by rw [hn]; rfl)
      have n_1 : wr.cell? ⟨a.q, k * 3 + 1, none⟩ = some (.int .i64 (l : Nat)) := A2.out.node (j := 1) hk (by rw [hn]; rfl)
      have n_2 : wr.cell? ⟨a.q, k * 3 + 2, none⟩ = some (.int .i64 (hi : Nat)) := A2.out.node (j := 2) hk (by rw [hn]; rfl)
      obtain ⟨a_0, a_1, a_2⟩ : _ ∧ _ ∧ _ := ⟨A2.out.s.1 0 _ rfl, A2.out.s.1 1 _ rfl, A2.out.s.1 2 _ rfl⟩
      have h1' : (1 : Int) < (k : Nat) := by omega
      simp only at p1 p2
      have HV := Lib.hid hev
      clear hn hev hE
      go_upto_region 6 with fail
      refine at_code (S := fun W => Blk W wr.heap.size [.int .i64 (v : Nat), .int .i64 (l : Nat), .int .i64 (hi : Nat)] ∧ Below wr.heap.size wr W) ⟨Blk.new _ _ _, bel_al (Below.refl _ _) _⟩ (fun W3 hW => ?_)
      obtain ⟨hY, hb⟩ := hW
      have Y3 := Lib.hid hY
      have X3 := Lib.hid (X2.out.on hb)
      have B3 := Lib.hid (bel_on' hB.out hb)
      clear hY hb n_0 n_1 n_2 a_0 a_1 a_2 A2 X2 hB
      obtain ⟨y_0, y_1, y_2⟩ : _ ∧ _ ∧ _ := ⟨Y3.out.1 0 _ rfl, Y3.out.1 1 _ rfl, Y3.out.1 2 _ rfl⟩
      obtain ⟨x_0, x_1, x_2, x_3, x_4⟩ : _ ∧ _ ∧ _ ∧ _ ∧ _ := ⟨X3.out.1 0 _ rfl, X3.out.1 1 _ rfl, X3.out.1 2 _ rfl, X3.out.1 3 _ rfl, X3.out.1 4 _ rfl⟩
      have CC := Lib.hid (CB.out (v : Nat) W3)
      clear CB
      cases hbt : bt d s p x y (v : Nat) with
      | true =>
        rw [hbt] at CC HV
        go_wp2_with fail
        refine CC.out.mono ?_
        rintro e w4 ⟨rfl, hb4⟩
        have Y4 := Lib.hid (Y3.out.on hb4)
        have B4 := Lib.hid (bel_on' B3.out hb4)
        clear hb4 y_0 y_1 y_2 x_0 x_1 x_2 x_3 x_4 Y3 X3 B3 CC
        obtain ⟨y_0, y_1, y_2⟩ : _ ∧ _ ∧ _ := ⟨Y4.out.1 0 _ rfl, Y4.out.1 1 _ rfl, Y4.out.1 2 _ rfl⟩
        go_wp2_with fail
        refine ⟨⟨hi, rfl, by omega, Lib.hid ?_, B4⟩, by simp [intOf]; omega⟩
        have := HV.out
        simp only [if_true] at this
        exact this.symm
      | false =>
        rw [hbt] at CC HV
        go_wp2_with fail
        refine CC.out.mono ?_
        rintro e w4 ⟨rfl, hb4⟩
        have B4 := Lib.hid (bel_on' B3.out hb4)
        clear hb4 y_0 y_1 y_2 x_0 x_1 x_2 x_3 x_4 Y3 X3 B3 CC
        go_wp2_with fail
        refine ⟨⟨l, rfl, by omega, Lib.hid ?_, B4⟩, by simp [intOf]; omega⟩
        have := HV.out
        simp only [Bool.false_eq_true, if_false] at this
        exact this.symm
    · have h1' : ¬ (1 : Int) < (k : Nat) := by omega
      have hz : (((k : Nat) : Int) == 1) = R := by
        rw [← hE.out]
        have : k = 0 ∨ k = 1 := by omega
        rcases this with rfl | rfl <;> rfl
      go_wp2
      go_ret
      refine ⟨?_, bel_on' B1.out hB.out⟩
      first | rfl | rw [hz]
theorem in_none (p hd : Value) (f : Int) (w : World) (hk : ∃ d s q x y, hd = hv d s q x y) (C : Hid (∀ W, Below w.heap.size w W → Calls Try.prog 33 #[p, .int .i64 f] W fun e w' => e = .returned (.bool false) ∧ W = w')) :
    Calls Try.prog 12 #[p, .int .i64 f, hd] w fun e w' => e = .returned (.bool false) ∧ Below w.heap.size w w' := by
  obtain ⟨d, s, q, x, y, rfl⟩ := hk
  go_enter Try.func12, Try.ntmps12
  go_wp2_with fail
  refine at_calls2 (S := fun W => Below w.heap.size w W) (bel_al (Below.refl _ _) _) (fun W1 hb => ?_)
  refine (C.out W1 hb).mono ?_
  rintro e w' ⟨rfl, rfl⟩
  go_wp2
  go_ret
  exact ⟨rfl, hb⟩
end Go.Proofs.Ytggcbklififcgab
/- A bit held: how the work lies; what a step comes to. -/
namespace Go.Proofs.Ytggcbklififcgab
open Go.RowKit Go.Maps Go.MapKept Go.ChangeMaps Go.WideElems Go.Joins
open Go.WideMaps (KeyLaw)
set_option linter.unusedVariables false

def ikv (k : Nat) : Value := .int .i64 (k : Nat)
theorem ikv_inj (a b : Nat) (h : ikv a = ikv b) : a = b := by simp [ikv] at h; omega
theorem keyedInt : Keyed Try.prog 3 := int_keyed Try.underlying3
theorem key_int (k : Nat) (h : k ≤ 9223372036854775807) : keyOf Try.prog 3 (ikv k) = some (.int .i64 (k : Nat)) := keyOf_int_mk Try.underlying3 (wf64 k h)
/-- The work of one Restrict lies there. -/
structure Nw (w : World) (a : AL) (jb db bit : Nat) (on : Bool) (m : Memo1) : Prop where
  s : Blk w jb [.pointer (some ⟨a.p, 0, none⟩), .int .i64 (bit : Nat), .bool on, .map (some db)]
  d : MapG Try.prog 3 3 ikv w db m
  j : jb ≠ a.p ∧ jb ≠ a.q ∧ jb ≠ a.m
  e : db ≠ a.p ∧ db ≠ a.q ∧ db ≠ a.m
theorem Nw.ne {w : World} {a : AL} {jb db bit : Nat} {on : Bool} {m : Memo1} (h : Nw w a jb db bit on m) : jb ≠ db := by
  obtain ⟨es, clock, h2⟩ := h.d.isMap
  intro e
  have := h.s.1 0 _ rfl
  rw [e] at this
  simp [World.cell?, h2] at this
theorem Nw.on' {w w' : World} {a : AL} {jb db bit : Nat} {on : Bool} {m : Memo1} (h : Nw w a jb db bit on m) (hb : Below w.heap.size w w') : Nw w' a jb db bit on m :=
  ⟨h.s.on hb, h.d.same (hb.block _ h.d.lt), h.j, h.e⟩
theorem Nw.tr {w w' : World} {a a' : AL} {jb db bit : Nat} {on : Bool} {m : Memo1} (h : Nw w a jb db bit on m) (t : Tr (fun _ => False) w a w' a') : Nw w' a' jb db bit on m := by
  have o1 : Off (fun _ => False) a jb := ⟨h.j.1, h.j.2.1, h.j.2.2, fun q => q⟩
  have o2 : Off (fun _ => False) a db := ⟨h.e.1, h.e.2.1, h.e.2.2, fun q => q⟩
  have p1 := o1.on t h.s.lt
  have p2 := o2.on t h.d.lt
  refine ⟨?_, h.d.same (t.k.block _ h.d.lt o2.not), ⟨p1.1, p1.2.1, p1.2.2.1⟩, ⟨p2.1, p2.2.1, p2.2.2.1⟩⟩
  rw [t.m.1]; exact h.s.tr t o1
theorem MV1.few {bit : Nat} {on : Bool} {ns : List Nd} {m : Memo1} (h : MV1 bit on ns m) (hl : ns.length ≤ 262144) : m.length ≤ 262144 := by
  have := nodup_sub _ (List.range 262144) h.one (fun v hv => by
    obtain ⟨x, hx, rfl⟩ := List.mem_map.1 hv
    obtain ⟨x1, -⟩ := h.ok x hx
    rw [List.mem_range]; omega)
  rw [List.length_map, List.length_range] at this
  exact this
theorem setF_step {bit : Nat} {on : Bool} {most k : Nat} {ns : List Nd} {m : Memo1} {f : Nat} (hbit : bit < 104) (h : WF ns) (hm : MV1 bit on ns m) (hf : f < ns.length) {v l hi : Nat} (hn : ns.getD f bot = ⟨v, l, hi⟩) (hk : 105 ≤ k + 1 + v) (c1 : v < bit) (hl : look1 f m = none) :
    l < ns.length ∧ 105 ≤ k + lv ns l ∧
    ∀ r1 ns1 m1, setF bit on most k ns m l = (r1, ns1, m1) → WF ns1 ∧ MV1 bit on ns1 m1 ∧ (r1 = none → setF bit on most (k + 1) ns m f = (none, ns1, m1)) ∧
      ∀ lo, r1 = some lo → lo < ns1.length ∧ hi < ns1.length ∧ 105 ≤ k + lv ns1 hi ∧
        ∀ r2 ns2 m2, setF bit on most k ns1 m1 hi = (r2, ns2, m2) → WF ns2 ∧ MV1 bit on ns2 m2 ∧ (r2 = none → setF bit on most (k + 1) ns m f = (none, ns2, m2)) ∧
          ∀ h2, r2 = some h2 → h2 < ns2.length ∧ lo < ns2.length ∧ ∀ r3 ns3, numF most ns2 ⟨v, lo, h2⟩ = (r3, ns3) →
            (r3 = none → setF bit on most (k + 1) ns m f = (none, ns3, m2)) ∧ (∀ r, r3 = some r → setF bit on most (k + 1) ns m f = (some r, ns3, (f, r) :: m2) ∧ f ∉ m2.map (·.1) ∧ r < ns3.length) := by
  have hv : lv ns f = v := by unfold lv; rw [hn]
  have hgl : (ns.getD f bot).l = l := by rw [hn]
  have hgh : (ns.getD f bot).h = hi := by rw [hn]
  have n1 : ¬ bit < v := by omega
  have n2 : ¬ v = bit := by omega
  obtain ⟨xl, xh, -, xvl, xvh, -⟩ := h.parts (lv_two h hf (by omega)) hf
  rw [hgl] at xl xvl
  rw [hgh] at xh xvh
  rw [hv] at xvl xvh
  refine ⟨by omega, by omega, fun r1 ns1 m1 e1 => ?_⟩
  obtain ⟨M1, V1, -⟩ := setF_made bit on most hbit k ns m l h hm (by omega) (by omega)
  rw [e1] at M1 V1
  replace M1 : Made most ns ns1 _ r1 _ := M1
  replace V1 : MV1 bit on ns1 m1 := V1
  have l1 := M1.ext.len
  refine ⟨M1.wf, V1, fun q => ?_, fun lo q => ?_⟩
  · subst q; unfold setF; rw [hv, if_neg n1, if_neg n2, hl]; simp only; rw [hgl, e1]
  subst q
  have w1 : lv ns1 hi = lv ns hi := M1.ext.lv (by omega)
  refine ⟨(M1.set lo rfl).1, by omega, by omega, fun r2 ns2 m2 e2 => ?_⟩
  obtain ⟨M2, V2, -⟩ := setF_made bit on most hbit k ns1 m1 hi M1.wf V1 (by omega) (by omega)
  rw [e2] at M2 V2
  replace M2 : Made most ns1 ns2 _ r2 _ := M2
  replace V2 : MV1 bit on ns2 m2 := V2
  have l2 := M2.ext.len
  refine ⟨M2.wf, V2, fun q => ?_, fun h2 q => ?_⟩
  · subst q; unfold setF; rw [hv, if_neg n1, if_neg n2, hl]; simp only; rw [hgl, e1]; simp only; rw [hgh, e2]
  subst q
  refine ⟨(M2.set h2 rfl).1, by have := (M1.set lo rfl).1; omega, fun r3 ns3 e3 => ⟨fun q => ?_, fun r q => ?_⟩⟩
  · subst q; unfold setF; rw [hv, if_neg n1, if_neg n2, hl]; simp only; rw [hgl, e1]; simp only; rw [hgh, e2]; simp only; rw [e3]
  · subst q
    have e : setF bit on most (k + 1) ns m f = (some r, ns3, (f, r) :: m2) := by unfold setF; rw [hv, if_neg n1, if_neg n2, hl]; simp only; rw [hgl, e1]; simp only; rw [hgh, e2]; simp only; rw [e3]
    obtain ⟨M3, V3, -⟩ := setF_made bit on most hbit (k + 1) ns m f h hm hf (by omega)
    rw [e] at V3 M3
    have := V3.one
    simp only [List.map_cons] at this
    exact ⟨e, (List.nodup_cons.1 this).1, (M3.set r rfl).1⟩
end Go.Proofs.Ytggcbklififcgab
/- A set with a bit held: the walk. -/
namespace Go.Proofs.Ytggcbklififcgab
open Go.RowKit Go.Maps Go.MapKept Go.ChangeMaps Go.WideElems Go.Joins
set_option linter.unusedVariables false

theorem TrWeak {X : Nat → Prop} {w w' : World} {a a' : AL} (t : Tr (fun _ => False) w a w' a') : Tr X w a w' a' := ⟨t.k.mono (fun i _ q => q.imp id (fun r => r.elim)), t.m⟩
end Go.Proofs.Ytggcbklififcgab
/- Restrict. -/
namespace Go.Proofs.Ytggcbklififcgab
open Go.RowKit
set_option linter.unusedVariables false

theorem chkF_one (n : Nat) (f : Int) : chkF n [f] = if hasB n f then 0 else 1 := by unfold chkF; simp [List.all_cons]
theorem resJ_chk (most : Nat) (ns : List Nd) (f : Int) (a : AL) {c : Int} (hc : chkF ns.length [f] = c) : ∀ W b, Ar W a most ns → W.cell? ⟨b, 0, none⟩ = some (.int .i64 f) → Calls Try.prog 41 #[.pointer (some ⟨a.p, 0, none⟩), .slice (some ⟨b, 0, none⟩) 1 1] W fun e w' => e = .returned (.int .i64 c) ∧ W = w' := fun W b hA h0 => by
  subst hc
  exact check_any a most ns W hA b 1 [f] (by simp) (fun i v hv => by
    match i, hv with
    | 0, hv => cases hv; exact h0)
end Go.Proofs.Ytggcbklififcgab
