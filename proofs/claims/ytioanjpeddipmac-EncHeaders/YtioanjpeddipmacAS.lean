/- Two sets joined; whole or not at all; numbers that ought to be sets'. -/
import Derived.Test.YtioanjpeddipmacAQ0
import Derived.Test.YtioanjpeddipmacAC
import Derived.Test.YtioanjpeddipmacBL
namespace Go.Proofs.Ytioanjpeddipmac
open Go.RowKit
set_option linter.unusedVariables false

/-- What a call that may turn the arena answers, and leaves. -/
def Ans (most : Nat) (R : Option Nat × List Nd) (w : World) (a : AL) (e : Ending) (w' : World) : Prop :=
  e = .returned (.tuple #[.int .i64 (rv R.1 : Nat), .int .i64 (er R.1)]) ∧ ∃ a', Ar w' a' most R.2 ∧ Tr (fun _ => False) w a w' a'
/-- .. and the blocks X. -/
def AnsX (X : Nat → Prop) (most : Nat) (R : Option Nat × List Nd) (w : World) (a : AL) (e : Ending) (w' : World) : Prop :=
  e = .returned (.tuple #[.int .i64 (rv R.1 : Nat), .int .i64 (er R.1)]) ∧ ∃ a', Ar w' a' most R.2 ∧ Tr X w a w' a'
set_option maxRecDepth 100000 in
set_option maxHeartbeats 2000000 in
theorem join_core (kind most : Nat) (ns : List Nd) (f g : Nat) (w : World) (a : AL) (h : Ar w a most ns) (R : Option Nat × List Nd × Memo)
    (HP : Hid (∀ W jb db, Ar W a most ns → Jn W a jb db kind [] → Calls Try.prog 64 #[.pointer (some ⟨jb, 0, none⟩), .int .i64 (f : Nat), .int .i64 (g : Nat)] W fun e w' => e = .returned (.tuple #[.int .i64 (rv R.1 : Nat), .int .i64 (er R.1)]) ∧ ∃ a', Ar w' a' most R.2.1 ∧ Jn w' a' jb db kind R.2.2 ∧ Tr (fun i => i = db) W a w' a')) :
    Calls Try.prog 45 #[.pointer (some ⟨a.p, 0, none⟩), .int .i64 (kind : Nat), .int .i64 (f : Nat), .int .i64 (g : Nat)] w (Ans most (R.1, R.2.1) w a) := by
  unfold Ans
  obtain ⟨r0, e0, hr⟩ : ∃ r0 e0 : Int, ((rv R.1 : Nat) : Int) = r0 ∧ er R.1 = e0 := ⟨_, _, rfl, rfl⟩
  simp only
  rw [hr.1, hr.2] at HP ⊢
  clear hr
  have A0 := Lib.hid h
  clear h
  have hmm := @run_makeMap Try.prog
  go_enter Try.func45, Try.ntmps45
  go_upto_region 2 with fail
  refine at_code (S := fun W => Blk W (w.heap.size + 1) [.pointer (some ⟨a.p, 0, none⟩), .int .i64 (kind : Nat), .map (some w.heap.size)] ∧ MapG Try.prog 97 3 pkv W w.heap.size [] ∧ Below w.heap.size w W) ?_ (fun W1 hW => ?_)
  · refine ⟨?_, ?_, ?_⟩
    · have k := Blk.new (w.alloc (.map #[] 0)) 119 [.pointer (some ⟨a.p, 0, none⟩), .int .i64 (kind : Nat), .map (some w.heap.size)]
      rw [World.size_alloc] at k
      exact k
    · exact (MapG.made w).same (Below.heap_alloc _ _ _ (by simp))
    · exact bel_al (bel_al (Below.refl _ _) _) _
  obtain ⟨hJ, hD, hb⟩ := hW
  have A1 := Lib.hid (A0.out.on hb)
  have J1 := Lib.hid (show Jn W1 a (w.heap.size + 1) w.heap.size kind [] from ⟨hJ, hD, ⟨by have := A0.out.pl; omega, by have := A0.out.ql; omega, by have := A0.out.ml; omega⟩, ⟨by have := A0.out.pl; omega, by have := A0.out.ql; omega, by have := A0.out.ml; omega⟩⟩)
  have B1 := Lib.hid hb
  clear hJ hD hb hmm
  go_wp2_with fail
  refine (HP.out _ _ _ A1.out J1.out).mono ?_
  rintro e w2 ⟨rfl, a2, hA, -, hT⟩
  have F := Lib.hid (And.intro hA hT)
  clear hA hT
  go_wp2
  go_ret2
  exact ⟨rfl, a2, F.out.1, ⟨(Keep.of B1.out).trans F.out.2.k (fun i hi q => q.imp id (fun e => by omega)), (Tr.ahead B1.out F.out.2).m⟩⟩
set_option maxRecDepth 100000 in
set_option maxHeartbeats 2000000 in
/-- What was made stays, or is cut. -/
theorem whole_coreX (X : Nat → Prop) (most : Nat) (ns ns1 : List Nd) (r : Option Nat) (fn : Nat) (cap : Array Value) (w : World) (a : AL) (h : Ar w a most ns) (hw : WF ns) (hw1 : WF ns1) (hx : Ext ns ns1) (eg : ∀ args w, (callFunc fn args).run Try.prog w = .ok (.enter fn args) w)
    (HC : Hid (Calls Try.prog fn cap w (AnsX X most (r, ns1) w a))) :
    Calls Try.prog 43 #[.pointer (some ⟨a.p, 0, none⟩), .func (.func fn) #[] cap] w (AnsX X most (wholeF ns (r, ns1)) w a) := by
  have C0 := Lib.hid (len_any a most ns w h)
  have hl2 := hw.len
  unfold AnsX at HC ⊢
  cases r with
  | none =>
    have CU := Lib.hid (fun (a' : AL) (W : World) (hA : Ar W a' most ns1) => cut_any a' most ns1 (ns.length : Nat) W hA hw1)
    have htk : ns1.take (max ((ns.length : Nat) : Int).toNat 2) = ns := by rw [show max ((ns.length : Nat) : Int).toNat 2 = ns.length by omega]; exact hx.take
    rw [htk] at CU
    replace HC : Hid (Calls Try.prog fn cap w fun e w' => e = .returned (.tuple #[.int .i64 0, .int .i64 20]) ∧ ∃ a', Ar w' a' most ns1 ∧ Tr X w a w' a') := HC
    show Calls Try.prog 43 _ w fun e w' => e = .returned (.tuple #[.int .i64 0, .int .i64 20]) ∧ ∃ a', Ar w' a' most ns ∧ Tr X w a w' a'
    clear h hw hw1 hx htk hl2
    go_enter Try.func43, Try.ntmps43
    go_wp2_with fail
    refine C0.out.mono ?_
    rintro e w' ⟨rfl, rfl⟩
    go_wp2_with fail
    refine HC.out.mono ?_
    rintro e w1 ⟨rfl, a1, hA, hT⟩
    have A1 := Lib.hid hA
    have T1 := Lib.hid hT
    have hp := hT.m.1
    have CC := Lib.hid (CU.out a1 w1 hA)
    rw [hp] at CC
    clear hA hT hp C0 HC CU
    go_wp2_with fail
    refine CC.out.mono ?_
    rintro e w2 ⟨rfl, hA, hT⟩
    have F := Lib.hid (And.intro hA hT)
    clear hA hT
    go_wp2
    go_ret2
    exact ⟨rfl, a1, F.out.1, T1.out.trans F.out.2.weak⟩
  | some q =>
    replace HC : Hid (Calls Try.prog fn cap w fun e w' => e = .returned (.tuple #[.int .i64 (q : Nat), .int .i64 0]) ∧ ∃ a', Ar w' a' most ns1 ∧ Tr X w a w' a') := HC
    show Calls Try.prog 43 _ w fun e w' => e = .returned (.tuple #[.int .i64 (q : Nat), .int .i64 0]) ∧ ∃ a', Ar w' a' most ns1 ∧ Tr X w a w' a'
    clear h hw hw1 hx hl2
    go_enter Try.func43, Try.ntmps43
    go_wp2_with fail
    refine C0.out.mono ?_
    rintro e w' ⟨rfl, rfl⟩
    go_wp2_with fail
    refine HC.out.mono ?_
    rintro e w1 ⟨rfl, a1, hA, hT⟩
    have F := Lib.hid (And.intro hA hT)
    clear hA hT
    go_wp2
    go_ret2
    exact ⟨rfl, a1, F.out.1, F.out.2⟩
theorem whole_core (most : Nat) (ns ns1 : List Nd) (r : Option Nat) (fn : Nat) (cap : Array Value) (w : World) (a : AL) (h : Ar w a most ns) (hw : WF ns) (hw1 : WF ns1) (hx : Ext ns ns1) (eg : ∀ args w, (callFunc fn args).run Try.prog w = .ok (.enter fn args) w)
    (HC : Hid (Calls Try.prog fn cap w (Ans most (r, ns1) w a))) :
    Calls Try.prog 43 #[.pointer (some ⟨a.p, 0, none⟩), .func (.func fn) #[] cap] w (Ans most (wholeF ns (r, ns1)) w a) :=
  whole_coreX (fun _ => False) most ns ns1 r fn cap w a h hw hw1 hx eg HC
/-- The first number that is no set's is told. -/
def chkF (n : Nat) (l : List Int) : Int := if l.all (hasB n) then 0 else 1
set_option maxRecDepth 100000 in
set_option maxHeartbeats 2000000 in
theorem check_any (a : AL) (most : Nat) (ns : List Nd) (w : World) (h : Ar w a most ns) (b cap : Nat) (l : List Int) (hl : l.length ≤ 1000) (hc : ∀ i v, l[i]? = some v → w.cell? ⟨b, i, none⟩ = some (.int .i64 v)) :
    Calls Try.prog 42 #[.pointer (some ⟨a.p, 0, none⟩), .slice (some ⟨b, 0, none⟩) l.length cap] w fun e w' => e = .returned (.int .i64 (chkF ns.length l)) ∧ w = w' := by
  have C0 := Lib.hid (fun f => has_any a most ns f w h)
  have HC := Lib.hid hc
  clear h hc
  obtain ⟨n, hn⟩ : ∃ n, l.length = n := ⟨_, rfl⟩
  rw [hn]
  have HL := Lib.hid hn
  rw [hn] at hl
  clear hn
  go_enter Try.func42, Try.ntmps42
  go_wp2_with fail
  go_loopw [11] (fun iv wr => ∃ k : Nat, iv = .int .i64 (k : Nat) ∧ k ≤ n ∧ wr = w ∧ Hid ((l.take k).all (hasB ns.length) = true)) (fun iv _ => n - (intOf iv).toNat)
  case atStart => exact ⟨0, rfl, Nat.zero_le _, by first | rfl | trivial, Lib.hid (by simp)⟩
  case round =>
    obtain ⟨k, rfl, hk, rfl, hA⟩ := hrel
    by_cases hkn : k < n
    · obtain ⟨v, hv⟩ : ∃ v, l[k]? = some v := ⟨_, List.getElem?_eq_getElem (by have := HL.out; omega)⟩
      have c0 := HC.out k v hv
      have HV := Lib.hid hv
      have C := Lib.hid (C0.out v)
      clear C0 hv
      have hwk : IntKind.i64.wrap ((k : Int) + 1) = ((k + 1 : Nat) : Int) := by rw [IntKind.wrap_i64]; omega
      cases hb : hasB ns.length v with
      | true =>
        rw [hb] at C
        have HB := Lib.hid hb
        clear hb
        go_wp2_with fail
        refine C.out.mono ?_
        rintro e w' ⟨rfl, rfl⟩
        go_wp2_with fail
        refine ⟨⟨k + 1, ?_, by omega, by first | rfl | trivial, Lib.hid ?_⟩, by simp [intOf]; omega⟩
        · first | rfl | simp
        · rw [List.take_add_one, HV.out, List.all_append, hA.out]
          simp [HB.out]
      | false =>
        rw [hb] at C
        have HB := Lib.hid hb
        clear hb
        go_wp2_with fail
        refine C.out.mono ?_
        rintro e w' ⟨rfl, rfl⟩
        go_wp2
        go_ret
        refine ⟨?_, rfl⟩
        have : chkF ns.length l = 1 := by
          unfold chkF
          rw [if_neg]
          intro q
          rw [List.all_eq_true] at q
          have := q v (List.mem_of_getElem? HV.out)
          rw [HB.out] at this
          cases this
        rw [this]; rfl
    · have hkn' : k = n := by omega
      subst hkn'
      go_wp2
      go_ret
      refine ⟨?_, rfl⟩
      have : chkF ns.length l = 0 := by
        unfold chkF
        rw [if_pos]
        have := hA.out
        rw [← HL.out, List.take_length] at this
        exact this
      rw [this]; rfl
set_option maxHeartbeats 1000000 in
theorem check_nil (v : Value) (w : World) : Calls Try.prog 42 #[.pointer none, v] w fun e w' => e = .returned (.int .i64 2) ∧ w = w' := by
  go_enter Try.func42, Try.ntmps42
  go_wp2
  go_ret
  exact ⟨rfl, rfl⟩
end Go.Proofs.Ytioanjpeddipmac
