/- Restrict. -/
import Derived.Test.YtioanjpeddipmaaAW
import Derived.Test.YtioanjpeddipmaaAJ
namespace Go.Proofs.Ytioanjpeddipmaa
open Go.RowKit
set_option linter.unusedVariables false

set_option maxRecDepth 100000 in
set_option maxHeartbeats 1000000 in
theorem resL_any (X : Nat → Prop) (most : Nat) (R : Option Nat × List Nd) (W : World) (a : AL) (f : Int) (jb b1 : Nat) (c1 : W.cell? ⟨b1, 0, none⟩ = some (.int .i64 f)) (HJ : Hid (Calls Try.prog 36 #[.pointer (some ⟨jb, 0, none⟩), .int .i64 f] W (AnsX X most R W a))) :
    Calls Try.prog 35 #[.pointer (some ⟨jb, 0, none⟩), .pointer (some ⟨b1, 0, none⟩)] W (AnsX X most R W a) := by
  unfold AnsX at HJ ⊢
  obtain ⟨r, hr⟩ : ∃ r : Int, ((rv R.1 : Nat) : Int) = r := ⟨_, rfl⟩
  obtain ⟨x, hx⟩ : ∃ x : Int, er R.1 = x := ⟨_, rfl⟩
  rw [hr, hx] at HJ ⊢
  clear hr hx
  go_enter Try.func35, Try.ntmps35
  go_wp2_with fail
  refine HJ.out.mono ?_
  rintro e w1 ⟨rfl, a1, hA, hT⟩
  have F := Lib.hid (And.intro hA hT)
  clear hA hT
  go_wp2
  go_ret2
  exact ⟨rfl, a1, F.out.1, F.out.2⟩
set_option maxRecDepth 100000 in
set_option maxHeartbeats 2000000 in
theorem resJ_core1 (most : Nat) (ns : List Nd) (f i : Int) (on : Bool) (w : World) (a : AL) (h : Ar w a most ns) 
    (HK : Hid (∀ W b, Ar W a most ns → W.cell? ⟨b, 0, none⟩ = some (.int .i64 f) → Calls Try.prog 30 #[.pointer (some ⟨a.p, 0, none⟩), .slice (some ⟨b, 0, none⟩) 1 1] W fun e w' => e = .returned (.int .i64 1) ∧ W = w'))
    : Calls Try.prog 21 #[.pointer (some ⟨a.p, 0, none⟩), .int .i64 f, .int .i64 i, .bool on] w fun e w' => e = .returned (.tuple #[.int .i64 0, .int .i64 1]) ∧ Below w.heap.size w w' := by
  have A0 := Lib.hid h
  clear h
  go_enter Try.func21, Try.ntmps21
  go_wp2_with fail
  refine at_calls (S := fun W => Blk W w.heap.size [.int .i64 f] ∧ W.cell? ⟨w.heap.size + 1, 0, none⟩ = some (.int .i64 f) ∧ Below w.heap.size w W) ⟨(Blk.new w _ [.int .i64 f]).on (bel_al (Below.refl _ _) _), by simp [go_sem], bel_al (bel_al (Below.refl _ _) _) _⟩ (fun W1 hW => ?_)
  obtain ⟨hX, k_0, hb⟩ := hW
  have X1 := Lib.hid hX
  have x_0 := hX.1 0 _ rfl
  have A1 := Lib.hid (A0.out.on hb)
  have B1 := Lib.hid hb
  clear hb hX
  refine (HK.out W1 _ A1.out k_0).mono ?_
  rintro e w' ⟨rfl, rfl⟩
  clear k_0 HK
  go_wp2
  go_ret2
  exact ⟨rfl, B1.out⟩
set_option maxRecDepth 100000 in
set_option maxHeartbeats 2000000 in
theorem resJ_core2 (most : Nat) (ns : List Nd) (f i : Int) (on : Bool) (w : World) (a : AL) (h : Ar w a most ns) (hi : bitB i = false)
    (HK : Hid (∀ W b, Ar W a most ns → W.cell? ⟨b, 0, none⟩ = some (.int .i64 f) → Calls Try.prog 30 #[.pointer (some ⟨a.p, 0, none⟩), .slice (some ⟨b, 0, none⟩) 1 1] W fun e w' => e = .returned (.int .i64 0) ∧ W = w'))
    : Calls Try.prog 21 #[.pointer (some ⟨a.p, 0, none⟩), .int .i64 f, .int .i64 i, .bool on] w fun e w' => e = .returned (.tuple #[.int .i64 0, .int .i64 1]) ∧ Below w.heap.size w w' := by
  have A0 := Lib.hid h
  clear h
  go_enter Try.func21, Try.ntmps21
  go_wp2_with fail
  refine at_calls (S := fun W => Blk W w.heap.size [.int .i64 f] ∧ W.cell? ⟨w.heap.size + 1, 0, none⟩ = some (.int .i64 f) ∧ Below w.heap.size w W) ⟨(Blk.new w _ [.int .i64 f]).on (bel_al (Below.refl _ _) _), by simp [go_sem], bel_al (bel_al (Below.refl _ _) _) _⟩ (fun W1 hW => ?_)
  obtain ⟨hX, k_0, hb⟩ := hW
  have X1 := Lib.hid hX
  have x_0 := hX.1 0 _ rfl
  have A1 := Lib.hid (A0.out.on hb)
  have B1 := Lib.hid hb
  clear hb hX
  refine (HK.out W1 _ A1.out k_0).mono ?_
  rintro e w' ⟨rfl, rfl⟩
  clear k_0 HK
  have CI := Lib.hid (isbit_any i W1)
  rw [hi] at CI
  go_wp2_with fail
  refine CI.out.mono ?_
  rintro e w' ⟨rfl, rfl⟩
  go_wp2
  go_ret2
  exact ⟨rfl, B1.out⟩
set_option maxRecDepth 100000 in
set_option maxHeartbeats 2000000 in
theorem resJ_core3 (most : Nat) (ns : List Nd) (f i : Int) (on : Bool) (w : World) (a : AL) (h : Ar w a most ns) (hi : bitB i = true) (R : Option Nat × List Nd)
    (HW : Hid (∀ W (jb db b1 : Nat), Ar W a most ns → Blk W jb [.pointer (some ⟨a.p, 0, none⟩), .int .i64 i, .bool on, .map (some db)] → MapG Try.prog 3 3 ikv W db [] → w.heap.size ≤ jb → w.heap.size ≤ db → Blk W b1 [.int .i64 f] → Calls Try.prog 31 #[.pointer (some ⟨a.p, 0, none⟩), .func (.func 35) #[] #[.pointer (some ⟨jb, 0, none⟩), .pointer (some ⟨b1, 0, none⟩)]] W (AnsX (fun i => w.heap.size ≤ i) most R W a)))
    (HK : Hid (∀ W b, Ar W a most ns → W.cell? ⟨b, 0, none⟩ = some (.int .i64 f) → Calls Try.prog 30 #[.pointer (some ⟨a.p, 0, none⟩), .slice (some ⟨b, 0, none⟩) 1 1] W fun e w' => e = .returned (.int .i64 0) ∧ W = w'))
    : Calls Try.prog 21 #[.pointer (some ⟨a.p, 0, none⟩), .int .i64 f, .int .i64 i, .bool on] w (Ans most R w a) := by
  obtain ⟨r, hr⟩ : ∃ r : Int, ((rv R.1 : Nat) : Int) = r := ⟨_, rfl⟩
  obtain ⟨x, hx⟩ : ∃ x : Int, er R.1 = x := ⟨_, rfl⟩
  unfold AnsX at HW
  unfold Ans
  rw [hr, hx] at HW ⊢
  clear hr hx
  have hmm := @run_makeMap Try.prog
  have hmf : ∀ (fn : Fn) (first cap : Array Value) (w : World), (Instr.makeFunc fn first cap).run Try.prog w = .ok (.func fn first cap) w := fun _ _ _ _ => rfl
  have A0 := Lib.hid h
  clear h
  go_enter Try.func21, Try.ntmps21
  go_wp2_with fail
  refine at_calls (S := fun W => Blk W w.heap.size [.int .i64 f] ∧ W.cell? ⟨w.heap.size + 1, 0, none⟩ = some (.int .i64 f) ∧ Below w.heap.size w W) ⟨(Blk.new w _ [.int .i64 f]).on (bel_al (Below.refl _ _) _), by simp [go_sem], bel_al (bel_al (Below.refl _ _) _) _⟩ (fun W1 hW => ?_)
  obtain ⟨hX, k_0, hb⟩ := hW
  have X1 := Lib.hid hX
  have x_0 := hX.1 0 _ rfl
  have A1 := Lib.hid (A0.out.on hb)
  have B1 := Lib.hid hb
  clear hb hX
  refine (HK.out W1 _ A1.out k_0).mono ?_
  rintro e w' ⟨rfl, rfl⟩
  clear k_0 HK
  have CI := Lib.hid (isbit_any i W1)
  rw [hi] at CI
  go_wp2_with fail
  refine CI.out.mono ?_
  rintro e w' ⟨rfl, rfl⟩
  go_upto_region 7 with fail
  refine at_code (S := fun W => Blk W (W1.heap.size + 1) [.pointer (some ⟨a.p, 0, none⟩), .int .i64 i, .bool on, .map (some W1.heap.size)] ∧ MapG Try.prog 3 3 ikv W W1.heap.size [] ∧ Below W1.heap.size W1 W) ?_ (fun W2 hW => ?_)
  · refine ⟨?_, ?_, ?_⟩
    · have k := Blk.new (W1.alloc (.map #[] 0)) 76 [.pointer (some ⟨a.p, 0, none⟩), .int .i64 i, .bool on, .map (some W1.heap.size)]
      rw [World.size_alloc] at k
      exact k
    · exact (MapG.made W1).same (Below.heap_alloc _ _ _ (by simp))
    · exact bel_al (bel_al (Below.refl _ _) _) _
  obtain ⟨hJ, hD, hb⟩ := hW
  have CW := Lib.hid (HW.out W2 (W1.heap.size + 1) W1.heap.size w.heap.size (A1.out.on hb) hJ hD (by have := B1.out.size; omega) (by have := B1.out.size; omega) (X1.out.on hb))
  have B2 := Lib.hid (bel_on' B1.out hb)
  clear HW CI hJ hD hb hmm x_0
  go_wp2_with fail
  refine CW.out.mono ?_
  rintro e w3 ⟨rfl, a2, hA, hT⟩
  have F := Lib.hid (And.intro hA hT)
  clear hA hT
  go_wp2
  go_ret2
  exact ⟨rfl, a2, F.out.1, ⟨(Keep.of B2.out).trans F.out.2.k (fun i hi q => q.imp id (fun e => by omega)), (Tr.ahead B2.out F.out.2).m⟩⟩
set_option maxRecDepth 100000 in
set_option maxHeartbeats 2000000 in
theorem res_nil (f i : Int) (on : Bool) (w : World) : Calls Try.prog 21 #[.pointer none, .int .i64 f, .int .i64 i, .bool on] w fun e w' => e = .returned (.tuple #[.int .i64 0, .int .i64 2]) ∧ Below w.heap.size w w' := by
  have HK := Lib.hid (fun v W => check_nil v W)
  go_enter Try.func21, Try.ntmps21
  go_wp2_with fail
  refine at_calls (S := fun W => Below w.heap.size w W) (bel_al (bel_al (Below.refl _ _) _) _) (fun W1 hb => ?_)
  have B1 := Lib.hid hb
  clear hb
  refine (HK.out _ W1).mono ?_
  rintro e w' ⟨rfl, rfl⟩
  go_wp2
  go_ret2
  exact ⟨rfl, B1.out⟩
theorem chkF_one (n : Nat) (f : Int) : chkF n [f] = if hasB n f then 0 else 1 := by unfold chkF; simp [List.all_cons]
theorem resJ_chk (most : Nat) (ns : List Nd) (f : Int) (a : AL) {c : Int} (hc : chkF ns.length [f] = c) : ∀ W b, Ar W a most ns → W.cell? ⟨b, 0, none⟩ = some (.int .i64 f) → Calls Try.prog 30 #[.pointer (some ⟨a.p, 0, none⟩), .slice (some ⟨b, 0, none⟩) 1 1] W fun e w' => e = .returned (.int .i64 c) ∧ W = w' := fun W b hA h0 => by
  subst hc
  exact check_any a most ns W hA b 1 [f] (by simp) (fun i v hv => by
    match i, hv with
    | 0, hv => cases hv; exact h0)
theorem resJ_any (bit : Nat) (on : Bool) (hbit : bit < 104) (most : Nat) (ns : List Nd) (f : Nat) (w : World) (a : AL) (h : Ar w a most ns) (hw : WF ns) (hf : f < ns.length) :
    Calls Try.prog 21 #[.pointer (some ⟨a.p, 0, none⟩), .int .i64 (f : Nat), .int .i64 (bit : Nat), .bool on] w (Ans most (rF bit on most ns f) w a) := by
  obtain ⟨M, -⟩ := setF_made bit on most hbit 105 ns [] f hw ⟨fun p hp => (by cases hp), List.nodup_nil⟩ hf (by omega)
  refine resJ_core3 most ns f bit on w a h (by unfold bitB; simp; omega) (rF bit on most ns f) (fun W jb db b1 hA hJ hD q1 q2 hX => ?_) (resJ_chk most ns f a ?_)
  · have N : Nw W a jb db bit on [] := ⟨hJ, hD, ⟨by have := h.pl; omega, by have := h.ql; omega, by have := h.ml; omega⟩, ⟨by have := h.pl; omega, by have := h.ql; omega, by have := h.ml; omega⟩⟩
    have S := set_any bit on most jb db hbit 105 ns [] f W a hA hw ⟨fun p hp => (by cases hp), List.nodup_nil⟩ N hf (by omega)
    refine whole_coreX (fun i => w.heap.size ≤ i) most ns (heldF bit on most ns f).2 (heldF bit on most ns f).1 35 _ W a hA hw M.wf M.ext Try.call35 ?_
    exact resL_any (fun i => w.heap.size ≤ i) most (heldF bit on most ns f) W a f jb b1 (hX.1 0 _ rfl) (S.mono fun e w' q => by
      obtain ⟨rfl, a', h1, -, h3⟩ := q
      exact ⟨rfl, a', h1, ⟨h3.k.mono (fun i _ q => q.imp id (fun e => by rw [e]; exact q2)), h3.m⟩⟩)
  · rw [chkF_one, if_pos]; unfold hasB; simp; omega
theorem resJ_bad (most : Nat) (ns : List Nd) (f i : Int) (on : Bool) (w : World) (a : AL) (h : Ar w a most ns) (hb : hasB ns.length f = false ∨ bitB i = false) :
    Calls Try.prog 21 #[.pointer (some ⟨a.p, 0, none⟩), .int .i64 f, .int .i64 i, .bool on] w fun e w' => e = .returned (.tuple #[.int .i64 0, .int .i64 1]) ∧ Below w.heap.size w w' := by
  cases hc : hasB ns.length f with
  | true =>
    refine resJ_core2 most ns f i on w a h ?_ (resJ_chk most ns f a ?_)
    · rcases hb with q | q
      · rw [hc] at q; cases q
      · exact q
    · rw [chkF_one, if_pos hc]
  | false => exact resJ_core1 most ns f i on w a h (resJ_chk most ns f a (by rw [chkF_one, hc]; rfl))
end Go.Proofs.Ytioanjpeddipmaa
