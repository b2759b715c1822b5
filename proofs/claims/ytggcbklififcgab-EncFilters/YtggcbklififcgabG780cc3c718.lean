/- Texts joined, in their order: E8, E6, E9, E10, E4, E11. -/
import Derived.Test.YtggcbklififcgabG43ccba0e29
import Derived.Test.YtggcbklififcgabGb914f46262
import Derived.Test.YtggcbklififcgabShelf
import Derived.Test.YtggcbklififcgabGa3cf92b948
/- A bound's maker. -/
namespace Go.Proofs.Ytggcbklififcgab
open Go.RowKit
set_option linter.unusedVariables false

/-- Its five variables, from block s on: arena, field, port, how many bits, which bound. -/
def BdV (w : World) (s p a port n : Nat) (on : Bool) : Prop :=
  w.cell? ⟨s, 0, none⟩ = some (.pointer (some ⟨p, 0, none⟩)) ∧ w.cell? ⟨s + 1, 0, none⟩ = some (.int .i64 (a : Nat)) ∧ w.cell? ⟨s + 2, 0, none⟩ = some (.int .u16 (port : Nat)) ∧ w.cell? ⟨s + 3, 0, none⟩ = some (.int .i64 (n : Nat)) ∧ w.cell? ⟨s + 4, 0, none⟩ = some (.bool on)
theorem BdV.hold {Z : Nat → Prop} {W w' : World} {s p a port n : Nat} {on : Bool} (h : BdV W s p a port n on) (hH : Hold Z W w') (hz : ∀ k, k < 5 → Z (s + k)) : BdV w' s p a port n on := by
  obtain ⟨a0, a1, a2, a3, a4⟩ := h
  exact ⟨hH.cell (hz 0 (by omega)) a0, hH.cell (hz 1 (by omega)) a1, hH.cell (hz 2 (by omega)) a2, hH.cell (hz 3 (by omega)) a3, hH.cell (hz 4 (by omega)) a4⟩
def bdCap (s : Nat) : Array Value := #[.pointer (some ⟨s + 3, 0, none⟩), .pointer (some ⟨s + 2, 0, none⟩), .pointer (some ⟨s + 4, 0, none⟩), .pointer (some ⟨s, 0, none⟩), .pointer (some ⟨s + 1, 0, none⟩)]
theorem blk_next {w W : World} {b : Nat} {c : Value} (t : TypeId) (hz : W.heap.size = b) : Blk (W.alloc (.cells #[c] t)) b [c] := by
  subst hz; exact Blk.new W t [c]
set_option maxRecDepth 100000 in
set_option maxHeartbeats 2000000 in
theorem bound_any (p a port n : Nat) (on : Bool) (w : World) :
    Calls Try.prog 59 #[.pointer (some ⟨p, 0, none⟩), .int .i64 (a : Nat), .int .u16 (port : Nat), .int .i64 (n : Nat), .bool on] w fun e w' => e = .returned (.func (.func 70) #[] (bdCap w.heap.size)) ∧ BdV w' w.heap.size p a port n on ∧ w'.heap.size = w.heap.size + 5 ∧ Below w.heap.size w w' := by
  have hmf : ∀ (fn : Fn) (first cap : Array Value) (w : World), (Instr.makeFunc fn first cap).run Try.prog w = .ok (.func fn first cap) w := fun _ _ _ _ => rfl
  go_enter Try.func59, Try.ntmps59
  go_upto_region 1 with fail
  refine at_code (S := fun W => BdV W w.heap.size p a port n on ∧ W.heap.size = w.heap.size + 5 ∧ Below w.heap.size w W) ⟨?_, by simp, bel_al (bel_al (bel_al (bel_al (bel_al (Below.refl _ _) _) _) _) _) _⟩ (fun W0 hW => ?_)
  · have f1 : ∀ (V : World) (b : Nat) (c : Value) (o : Obj), V.cell? ⟨b, 0, none⟩ = some c → (V.alloc o).cell? ⟨b, 0, none⟩ = some c := fun V b c o h => by
      have hb : Below V.heap.size V (V.alloc o) := bel_al (Below.refl _ _) _
      exact (hb.cell (p := ⟨b, 0, none⟩) (cell_lt (o := 0) (by rw [h]; rfl))).trans h
    have f2 : ∀ (V : World) (c : Value) (t : TypeId) (b : Nat), V.heap.size = b → (V.alloc (.cells #[c] t)).cell? ⟨b, 0, none⟩ = some c := fun V c t b h => (blk_next (w := V) t h).1 0 _ rfl
    exact ⟨f1 _ _ _ _ (f1 _ _ _ _ (f1 _ _ _ _ (f1 _ _ _ _ (f2 _ _ _ _ rfl)))), f1 _ _ _ _ (f1 _ _ _ _ (f1 _ _ _ _ (f2 _ _ _ _ (by simp)))), f1 _ _ _ _ (f1 _ _ _ _ (f2 _ _ _ _ (by simp))), f1 _ _ _ _ (f2 _ _ _ _ (by simp)), f2 _ _ _ _ (by simp)⟩
  have H := Lib.hid hW
  clear hW
  go_wp2
  go_ret
  exact ⟨rfl, H.out.1, H.out.2.1, H.out.2.2⟩
theorem bit_u16 (port k : Nat) (h : port < 65536) : (bits .and .u16 ((port : Int) / 2 ^ k) 1 == 1) = port.testBit k := by
  have e0 : ((port : Int) / 2 ^ k) = ((port / 2 ^ k : Nat) : Int) := by simp
  have hx : port / 2 ^ k < 65536 := Nat.lt_of_le_of_lt (Nat.div_le_self _ _) h
  rw [e0]
  unfold bits
  have e : (BitVec.ofInt 16 ((port / 2 ^ k : Nat) : Int) &&& BitVec.ofInt 16 1).toNat = port / 2 ^ k % 2 := by
    rw [show (1 : Int) = ((1 : Nat) : Int) from rfl, BitVec.ofInt_natCast, BitVec.ofInt_natCast, BitVec.toNat_and, BitVec.toNat_ofNat, BitVec.toNat_ofNat, Nat.mod_eq_of_lt (by omega), Nat.mod_eq_of_lt (by omega), Nat.and_one_is_mod]
  show (IntKind.u16.wrap (((BitVec.ofInt 16 ((port / 2 ^ k : Nat) : Int) &&& BitVec.ofInt 16 1).toNat : Nat) : Int) == 1) = _
  have := Nat.mod_lt (port / 2 ^ k) (show 0 < 2 by omega)
  rw [e, IntKind.wrap_u16, Nat.testBit_eq_decide_div_mod_eq, Bool.eq_iff_iff, beq_iff_eq, decide_eq_true_eq]
  omega
theorem litC_one {W : World} {b i : Nat} {on : Bool} (h : Blk W b [.int .i64 (i : Nat), .bool on]) : LitC W b (natL [(i, on)]) := fun j x hx => by
  have : j = 0 := by
    have := lt_of_get hx
    simp [natL] at this; exact this
  subst this
  simp [natL] at hx
  subst hx
  exact ⟨h.1 0 _ rfl, h.1 1 _ rfl⟩
/-- One bit, its cube asked for in a new block. -/
theorem cube_one {Z : Nat → Prop} {p most : Nat} {W : World} {ns : List Nd} {b i : Nat} {on : Bool} (hi : i < 104) (hS : Sta (fun k => Z k ∨ k = b) p W most ns) (hB : Blk W b [.int .i64 (i : Nat), .bool on]) (cap : Nat) :
    Calls Try.prog 30 #[.pointer (some ⟨p, 0, none⟩), .slice (some ⟨b, 0, none⟩) 1 cap] W (Got2 Z p most (cF most ns [(i, on)]) W) :=
  (sCube hS [(i, on)] (rise_one hi on) b cap (litC_one hB) (Or.inr rfl)).mono fun e w' ⟨h1, h2, h3⟩ => ⟨h1, h2.less (fun k hk => Or.inl hk), h3.less (fun k hk => Or.inl hk)⟩
def BdRet (Z : Nat → Prop) (p most : Nat) (ns : List Nd) (a port n : Nat) (on : Bool) (W : World) (e : Ending) (w' : World) : Prop :=
  ∃ R, Got2 Z p most R W e w' ∧ Lv most ns R (bdP a port on n) (2 * n) n (a + 16) (fun B => ∀ i, i < 16 → B (a + i) = true)
theorem Gd.step {ns0 ns ns' : List Nd} {f q : Nat} {φ ψ : Env → Bool} {c c' l l' hi : Nat} {D : (Nat → Bool) → Prop} (h : Gd ns0 ns f φ c l hi D) (k : Gd ns ns' q ψ c' l' hi D) : Gd ns0 ns' q ψ (c + c') l' hi D :=
  ⟨k.wf, h.ext.trans k.ext, by have := h.len; have := k.len; omega, k.st, k.clo, fun B hB hD => k.bits B (h.bits B hB hD) hD⟩
theorem Gd.bit {most a port k : Nat} {on : Bool} {ns0 ns : List Nd} {f : Nat} (h : Gd ns0 ns f (bdP a port on k) (2 * k) k (a + 16) (fun B => ∀ i, i < 16 → B (a + i) = true)) (hk : k < 16) (ha : a + 16 ≤ 104) :
    Lv most ns (cF most ns [(a + 15 - k, on)]) (fun e => e (a + 15 - k) == on) 1 1 (a + 16) (fun B => ∀ i, i < 16 → B (a + i) = true) ∧ ((cF most ns [(a + 15 - k, on)]).1 = none → (cF most ns [(a + 15 - k, on)]).2 = ns) := by
  have hr := rise_one (i := a + 15 - k) (by omega) on
  obtain ⟨A, B⟩ := cF_lv most (a + 16) h.wf hr.1 hr.2 (fun p hp => by rw [List.mem_singleton.1 hp]; show a + 15 - k < a + 16; omega)
  refine ⟨⟨fun q hq => ((A.some q hq).mono (Nat.le_refl _) (Nat.le_refl _) (Nat.le_refl _) (fun B hB p hp => ?_)).cast (fun e => ?_), A.none⟩, B⟩
  · rw [List.mem_singleton.1 hp]
    have := hB (15 - k) (by omega)
    rw [show a + (15 - k) = a + 15 - k by omega] at this
    exact this
  · simp [allB]
theorem Gd.bound {most a port k : Nat} {on : Bool} {ns0 ns ns1 : List Nd} {f g : Nat} (h : Gd ns0 ns f (bdP a port on k) (2 * k) k (a + 16) (fun B => ∀ i, i < 16 → B (a + i) = true)) (hg : Gd ns ns1 g (fun e => e (a + 15 - k) == on) 1 1 (a + 16) (fun B => ∀ i, i < 16 → B (a + i) = true)) (hk : k < 16) (ha : a + 16 ≤ 104) :
    (∀ q, (jF (bdK port on k) most ns1 g f).1 = some q → Gd ns0 (jF (bdK port on k) most ns1 g f).2 q (bdP a port on (k + 1)) (2 * (k + 1)) (k + 1) (a + 16) (fun B => ∀ i, i < 16 → B (a + i) = true)) ∧
    ((jF (bdK port on k) most ns1 g f).1 = none → most ≤ ns0.length + 2 * (k + 1) ∧ Ext ns0 (jF (bdK port on k) most ns1 g f).2 ∧ WF (jF (bdK port on k) most ns1 g f).2) := by
  obtain ⟨L, l1, l2, l3⟩ := h.clo
  have hf := h.st.ext hg.ext h.wf hg.wf
  obtain ⟨A, B⟩ := bit_lv (kind := bdK port on k) (most := most) (v := a + 15 - k) (hi := a + 16) hg.wf (bdK_le port on k) (by omega) (by omega) hg.st hf (fun e i b hi => bdP_hld a port on k e i b (by omega) (by omega)) l1 (l2.ext hg.ext) l3
  refine ⟨fun q hq => (((h.step hg).step ((A.some q hq).mono (Nat.le_refl _) (Nat.le_refl _) (Nat.le_refl _) (fun _ _ => trivial))).mono (by omega) (Nat.le_refl _) (Nat.le_refl _) (fun _ h => h)).cast (fun e => (bdP_succ a port on k e).symm), fun hn => ?_⟩
  obtain ⟨x, y, z⟩ := A.none hn
  have := h.len
  have := hg.len
  exact ⟨by omega, (h.ext.trans hg.ext).trans y, z⟩
set_option maxRecDepth 100000 in
set_option maxHeartbeats 4000000 in
theorem boundL_any {Z : Nat → Prop} {p most : Nat} {W : World} {ns : List Nd} (S0 : Sta Z p W most ns) (a port n s : Nat) (on : Bool) (ha : a + 16 ≤ 104) (hport : port < 65536) (hn : n ≤ 16) (hz : ∀ k, k < 5 → Z (s + k)) (hv : BdV W s p a port n on) :
    Calls Try.prog 70 (bdCap s) W (BdRet Z p most ns a port n on W) := by
  have HS0 := Lib.hid S0
  have HV := Lib.hid hv
  have HZ := Lib.hid hz
  have G0 : Hid (Gd ns ns 1 (bdP a port on 0) (2 * 0) 0 (a + 16) (fun B => ∀ i, i < 16 → B (a + i) = true)) := Lib.hid ((Gd.id S0.wf (Nat.le_refl _) ((St.top S0.wf)) _).mono (Nat.le_refl _) (Nat.le_refl _) (Nat.zero_le _) (fun _ h => h) |>.cast (fun e => (bdP_zero a port on e).symm))
  obtain ⟨-, -, -, c3, -⟩ := hv
  unfold BdRet bdCap
  clear S0 hz
  go_enter Try.func70, Try.ntmps70
  go_wp2_with fail
  clear c3
  go_loopw [7, 13] (fun fv iv wr => ∃ (k : Nat) (ns1 : List Nd) (f : Nat), fv = .int .i64 (f : Nat) ∧ iv = .int .i64 (k : Nat) ∧ k ≤ n ∧ Hid (Gd ns ns1 f (bdP a port on k) (2 * k) k (a + 16) (fun B => ∀ i, i < 16 → B (a + i) = true)) ∧ Hid (Sta Z p wr most ns1) ∧ Hid (Hold Z W wr)) (fun _ iv _ => n - (intOf iv).toNat)
  case atStart => exact ⟨0, ns, 1, rfl, rfl, Nat.zero_le _, G0, HS0, Lib.hid (Keep.refl _ _)⟩
  case round =>
    obtain ⟨k, ns1, f, rfl, rfl, hk, hG, hS, hHo⟩ := hrel
    by_cases hkn : k < n
    · obtain ⟨c0, c1, c2, c3, c4⟩ := HV.out.hold hHo.out HZ.out
      have hki : (k : Int) < (n : Int) := by omega
      have hbit := bit_u16 port k hport
      obtain ⟨bb, hbb⟩ : ∃ bb, (port.testBit k == on) = bb := ⟨_, rfl⟩
      have HKd := Lib.hid (show bdK port on k = if bb then 0 else 1 by unfold bdK; rw [hbb])
      have HBB := Lib.hid (And.intro hbit hbb)
      clear hbit hbb
      go_wp2_with fail
      refine wp_region_noPanic ?_
      refine wp_region_along (S := fun w' => Below wr.heap.size wr w' ∧ ∀ b o, (wr.cell? ⟨b, o, none⟩).isSome = true → w'.cell? ⟨b, o, none⟩ = wr.cell? ⟨b, o, none⟩) ([(0, true), (1, true), (2, true), (3, true), (4, true), (5, true), (6, true)]) (by kernel_rfl) (by as_aux_lemma => kernel_rfl) (by kernel_rfl) (by kernel_rfl) (by as_aux_lemma => kernel_rfl) (by as_aux_lemma => kernel_rfl) (fun _ _ _ _ _ h => h) (below_kb (Below.refl _ _).drew) (fun hH => ?_)
      simp only [stepsOf, pickOp]
      iterate 7 (first | (refine along_skip (by rfl) ?_; try simp only [Act.put, List.setIfInBounds_toArray, List.set_cons_zero, List.set_cons_succ]) | (refine along_pure ?_ (by rfl) (fun w hSw => ?_) ?_; rotate_left; ((try dsimp only at hSw); go_simp; try with_reducible rfl); try simp only [Act.put, List.setIfInBounds_toArray, List.set_cons_zero, List.set_cons_succ]))
      refine along_end (NoPanic.normal ?_)
      rw [HBB.out.1, HBB.out.2]
      clear hH HBB
      have hwk : IntKind.i64.wrap ((k : Int) + 1) = ((k + 1 : Nat) : Int) := by rw [IntKind.wrap_i64]; omega
      cases bb with
      | true =>
        have hki0 : ((a : Int) + 16 - 1 - (k : Int)) = ((a + 15 - k : Nat) : Int) := by omega
        go_wp2_with fail
        refine at_calls3 (S := fun V => Sta (fun j => Z j ∨ j = wr.heap.size) p V most ns1 ∧ Blk V wr.heap.size [.int .i64 ((a + 15 - k : Nat) : Int), .bool on] ∧ Below wr.heap.size wr V) ⟨hS.out.grow (bel_al (Below.refl _ _) _).drew (fun j hj => by subst hj; simp), (Blk.new _ _ _).drew, (bel_al (Below.refl _ _) _).drew⟩ (fun V hV => ?_)
        obtain ⟨hV1, hV2, hV3⟩ := hV
        have HoV := Lib.hid (hHo.out.trans (Hold.of hV3))
        obtain ⟨LC, NC⟩ := hG.out.bit (most := most) (show k < 16 by omega) ha
        have CC := Lib.hid (cube_one (show a + 15 - k < 104 by omega) hV1 hV2 1)
        obtain ⟨RC, hRC⟩ : ∃ RC, cF most ns1 [(a + 15 - k, on)] = RC := ⟨_, rfl⟩
        rw [hRC] at LC NC CC
        have HLC := Lib.hid LC
        clear hV1 hV2 hV3 LC NC hRC c0 c1 c2 c3 c4 hki0
        refine CC.out.mono ?_
        rintro e w2 hGt
        rcases got2_cases hGt with ⟨hr, rfl, hS2, hH2⟩ | ⟨g, hr, rfl, hS2, hH2⟩
        · have FN := Lib.hid (HLC.out.none hr)
          have F2 := Lib.hid (And.intro hS2 (HoV.out.trans hH2))
          clear CC hGt hr hS2 hH2 HLC
          go_wp2
          go_ret2
          exact ⟨(none, RC.2), ⟨rfl, F2.out.1, F2.out.2⟩, (fun q hq => by cases hq), (fun _ => ⟨by have := FN.out.1; have := hG.out.len; omega, hG.out.ext.trans FN.out.2.1, FN.out.2.2⟩)⟩
        · have GB := Lib.hid (hG.out.bound (most := most) (HLC.out.some g hr) (show k < 16 by omega) ha)
          have hf2 : f < RC.2.length := by have := (HLC.out.some g hr).ext.len; have := hG.out.st.1; omega
          have CJ := Lib.hid (sJoin hS2 0 g f (by omega) (HLC.out.some g hr).st.1 hf2)
          have H2 := Lib.hid (HoV.out.trans hH2)
          have hKd := HKd.out
          simp only [if_true] at hKd
          rw [hKd] at GB
          obtain ⟨RJ, hRJ⟩ : ∃ RJ, jF 0 most RC.2 g f = RJ := ⟨_, rfl⟩
          rw [hRJ] at CJ GB
          obtain ⟨c0, c1, c2, c3, c4⟩ := HV.out.hold H2.out HZ.out
          clear CC hGt hr hS2 hH2 HLC HoV hf2 hKd hRJ HKd
          go_wp2_with fail
          refine CJ.out.mono ?_
          rintro e w3 hGt
          rcases got2_cases hGt with ⟨hr, rfl, hS3, hH3⟩ | ⟨q, hr, rfl, hS3, hH3⟩
          · have FN := Lib.hid (GB.out.2 hr)
            have F3 := Lib.hid (And.intro hS3 (H2.out.trans hH3))
            clear CJ hGt hr hS3 hH3 GB
            go_wp2
            go_ret2
            exact ⟨(none, RJ.2), ⟨rfl, F3.out.1, F3.out.2⟩, (fun q hq => by cases hq), (fun _ => ⟨by have := FN.out.1; omega, FN.out.2.1, FN.out.2.2⟩)⟩
          · have G3 := Lib.hid (GB.out.1 q hr)
            have S3 := Lib.hid hS3
            have H3 := Lib.hid (H2.out.trans hH3)
            clear CJ hGt hr hS3 hH3 GB
            go_wp2_with fail
            refine ⟨⟨k + 1, RJ.2, q, rfl, ?_, by omega, G3, S3, H3⟩, by simp [intOf] <;> omega⟩
            first | rfl | rw [hwk]
      | false =>
        by_cases hf1 : f = 1
        · subst hf1
          have G3 : Hid (Gd ns ns1 1 (bdP a port on (k + 1)) (2 * (k + 1)) (k + 1) (a + 16) (fun B => ∀ i, i < 16 → B (a + i) = true)) := Lib.hid ((hG.out.mono (by omega) (by omega) (Nat.le_refl _) (fun _ h => h)).cast (fun e => by
            have h1 := hG.out.st.2 e
            rw [ev_one] at h1
            have hKd := HKd.out
            simp only [Bool.false_eq_true, if_false] at hKd
            rw [bdP_succ, ← h1, hKd]
            simp [opB]))
          clear HKd
          go_wp2_with fail
          refine ⟨⟨k + 1, ns1, 1, rfl, ?_, by omega, G3, Lib.hid (hS.out.on (Below.refl _ _).drew), Lib.hid (hHo.out.trans (Hold.of (Below.refl _ _).drew))⟩, by simp [intOf] <;> omega⟩
          first | rfl | rw [hwk]
        · have hf1' : ¬ (f : Int) = 1 := by omega
          have hki0 : ((a : Int) + 16 - 1 - (k : Int)) = ((a + 15 - k : Nat) : Int) := by omega
          go_wp2_with fail
          refine at_calls3 (S := fun V => Sta (fun j => Z j ∨ j = wr.heap.size) p V most ns1 ∧ Blk V wr.heap.size [.int .i64 ((a + 15 - k : Nat) : Int), .bool on] ∧ Below wr.heap.size wr V) ⟨hS.out.grow (bel_al (Below.refl _ _) _).drew (fun j hj => by subst hj; simp), (Blk.new _ _ _).drew, (bel_al (Below.refl _ _) _).drew⟩ (fun V hV => ?_)
          obtain ⟨hV1, hV2, hV3⟩ := hV
          have HoV := Lib.hid (hHo.out.trans (Hold.of hV3))
          obtain ⟨LC, NC⟩ := hG.out.bit (most := most) (show k < 16 by omega) ha
          have CC := Lib.hid (cube_one (show a + 15 - k < 104 by omega) hV1 hV2 1)
          obtain ⟨RC, hRC⟩ : ∃ RC, cF most ns1 [(a + 15 - k, on)] = RC := ⟨_, rfl⟩
          rw [hRC] at LC NC CC
          have HLC := Lib.hid LC
          clear hV1 hV2 hV3 LC NC hRC c0 c1 c2 c3 c4 hki0
          refine CC.out.mono ?_
          rintro e w2 hGt
          rcases got2_cases hGt with ⟨hr, rfl, hS2, hH2⟩ | ⟨g, hr, rfl, hS2, hH2⟩
          · have FN := Lib.hid (HLC.out.none hr)
            have F2 := Lib.hid (And.intro hS2 (HoV.out.trans hH2))
            clear CC hGt hr hS2 hH2 HLC
            go_wp2
            go_ret2
            exact ⟨(none, RC.2), ⟨rfl, F2.out.1, F2.out.2⟩, (fun q hq => by cases hq), (fun _ => ⟨by have := FN.out.1; have := hG.out.len; omega, hG.out.ext.trans FN.out.2.1, FN.out.2.2⟩)⟩
          · have GB := Lib.hid (hG.out.bound (most := most) (HLC.out.some g hr) (show k < 16 by omega) ha)
            have hf2 : f < RC.2.length := by have := (HLC.out.some g hr).ext.len; have := hG.out.st.1; omega
            have CJ := Lib.hid (sJoin hS2 1 g f (by omega) (HLC.out.some g hr).st.1 hf2)
            have H2 := Lib.hid (HoV.out.trans hH2)
            have hKd := HKd.out
            simp only [Bool.false_eq_true, if_false] at hKd
            rw [hKd] at GB
            obtain ⟨RJ, hRJ⟩ : ∃ RJ, jF 1 most RC.2 g f = RJ := ⟨_, rfl⟩
            rw [hRJ] at CJ GB
            obtain ⟨c0, c1, c2, c3, c4⟩ := HV.out.hold H2.out HZ.out
            clear CC hGt hr hS2 hH2 HLC HoV hf2 hKd hRJ HKd
            go_wp2_with fail
            refine CJ.out.mono ?_
            rintro e w3 hGt
            rcases got2_cases hGt with ⟨hr, rfl, hS3, hH3⟩ | ⟨q, hr, rfl, hS3, hH3⟩
            · have FN := Lib.hid (GB.out.2 hr)
              have F3 := Lib.hid (And.intro hS3 (H2.out.trans hH3))
              clear CJ hGt hr hS3 hH3 GB
              go_wp2
              go_ret2
              exact ⟨(none, RJ.2), ⟨rfl, F3.out.1, F3.out.2⟩, (fun q hq => by cases hq), (fun _ => ⟨by have := FN.out.1; omega, FN.out.2.1, FN.out.2.2⟩)⟩
            · have G3 := Lib.hid (GB.out.1 q hr)
              have S3 := Lib.hid hS3
              have H3 := Lib.hid (H2.out.trans hH3)
              clear CJ hGt hr hS3 hH3 GB
              go_wp2_with fail
              refine ⟨⟨k + 1, RJ.2, q, rfl, ?_, by omega, G3, S3, H3⟩, by simp [intOf] <;> omega⟩
              first | rfl | rw [hwk]
    · have hkn' : k = n := by omega
      subst hkn'
      go_wp2
      go_ret2
      exact ⟨(some f, ns1), ⟨rfl, hS.out, hHo.out⟩, (fun q hq => by cases hq; exact hG.out), (fun q => by cases q)⟩
end Go.Proofs.Ytggcbklififcgab
/- How many bits a range's ports have in common; a cube's maker. -/
namespace Go.Proofs.Ytggcbklififcgab
open Go.RowKit
set_option linter.unusedVariables false

theorem xor_u16 (a b : Nat) (ha : a < 65536) (hb : b < 65536) : bits .xor .u16 (a : Int) (b : Int) = ((a ^^^ b : Nat) : Int) := by
  have h : a ^^^ b < 2 ^ 16 := Nat.xor_lt_two_pow (n := 16) ha hb
  unfold bits
  have e : (BitVec.ofInt 16 (a : Int) ^^^ BitVec.ofInt 16 (b : Int)).toNat = a ^^^ b := by
    rw [BitVec.ofInt_natCast, BitVec.ofInt_natCast, BitVec.toNat_xor, BitVec.toNat_ofNat, BitVec.toNat_ofNat, Nat.mod_eq_of_lt (by omega), Nat.mod_eq_of_lt (by omega)]
  show IntKind.u16.wrap (((BitVec.ofInt 16 (a : Int) ^^^ BitVec.ofInt 16 (b : Int)).toNat : Nat) : Int) = _
  rw [e, IntKind.wrap_u16]
  omega
set_option maxRecDepth 100000 in
set_option maxHeartbeats 2000000 in
theorem common_any (lo hi : Nat) (hl : lo < 65536) (hh : hi < 65536) (w : World) :
    Calls Try.prog 35 #[.agg #[.int .u16 (lo : Nat), .int .u16 (hi : Nat)]] w fun e w' => e = .returned (.int .i64 ((16 - rn lo hi : Nat) : Int)) ∧ Below w.heap.size w w' := by
  have hx : lo ^^^ hi < 65536 := Nat.xor_lt_two_pow (n := 16) hl hh
  have CL : Hid (∀ W, Calls Try.prog 56 #[.int .u16 ((lo ^^^ hi : Nat) : Int)] W fun e w' => e = .returned (.int .i64 ((16 - rn lo hi : Nat) : Int)) ∧ w' = W) := fun W => by
    have q := Try.bits_LeadingZeros16 ((lo ^^^ hi : Nat) : Int) W (by omega) (by omega)
    refine q.mono ?_
    rintro e w' ⟨rfl, rfl⟩
    refine ⟨?_, rfl⟩
    have := rn_le hl hh
    rw [Int.toNat_natCast]
    show Ending.returned (.int .i64 (16 - ((rn lo hi : Nat) : Int))) = _
    congr 2
    omega
  have HX := Lib.hid (xor_u16 lo hi hl hh)
  go_enter Try.func35, Try.ntmps35
  go_upto_region 1 with fail
  refine at_code (S := fun W => Blk W w.heap.size [.int .u16 (lo : Nat), .int .u16 (hi : Nat)] ∧ Below w.heap.size w W) ⟨Blk.new _ _ _, bel_al (Below.refl _ _) _⟩ (fun W1 hW => ?_)
  obtain ⟨hX, hb⟩ := hW
  obtain ⟨x_0, x_1⟩ : _ ∧ _ := ⟨hX.1 0 _ rfl, hX.1 1 _ rfl⟩
  have B1 := Lib.hid hb
  have hxo := HX.out
  clear hX hb
  go_wp2_with fail
  refine (CL.out _).mono ?_
  rintro e w2 ⟨rfl, rfl⟩
  go_wp2
  go_ret
  exact ⟨rfl, B1.out⟩
/-- A cube's maker: its two variables. -/
theorem ecube_any (p : Nat) (sl : Value) (w : World) (hs : ∃ a n c, sl = .slice a n c) :
    Calls Try.prog 38 #[.pointer (some ⟨p, 0, none⟩), sl] w fun e w' => e = .returned (.func (.func 60) #[] #[.pointer (some ⟨w.heap.size, 0, none⟩), .pointer (some ⟨w.heap.size + 1, 0, none⟩)]) ∧ w'.cell? ⟨w.heap.size, 0, none⟩ = some (.pointer (some ⟨p, 0, none⟩)) ∧ w'.cell? ⟨w.heap.size + 1, 0, none⟩ = some sl ∧ w'.heap.size = w.heap.size + 2 ∧ Below w.heap.size w w' := by
  obtain ⟨a, n, c, rfl⟩ := hs
  have hmf : ∀ (fn : Fn) (first cap : Array Value) (w : World), (Instr.makeFunc fn first cap).run Try.prog w = .ok (.func fn first cap) w := fun _ _ _ _ => rfl
  go_enter Try.func38, Try.ntmps38
  go_upto_region 1 with fail
  refine at_code (S := fun W => Blk W w.heap.size [.pointer (some ⟨p, 0, none⟩)] ∧ Blk W (w.heap.size + 1) [.slice a n c] ∧ W.heap.size = w.heap.size + 2 ∧ Below w.heap.size w W) ⟨?_, ?_, by simp, bel_al (bel_al (Below.refl _ _) _) _⟩ (fun W0 hW => ?_)
  · exact (Blk.new w _ [.pointer (some ⟨p, 0, none⟩)]).on (bel_al (Below.refl _ _) _)
  · have k := Blk.new (w.alloc (.cells #[.pointer (some ⟨p, 0, none⟩)] 30)) 78 [.slice a n c]
    rw [World.size_alloc] at k
    exact k
  obtain ⟨hp, hs, hz, hb⟩ := hW
  have H := Lib.hid (And.intro (hp.1 0 _ rfl) (And.intro (hs.1 0 _ rfl) (And.intro hz hb)))
  clear hp hs hz hb
  go_wp2
  go_ret
  exact ⟨rfl, H.out.1, H.out.2.1, H.out.2.2.1, H.out.2.2.2⟩
set_option maxRecDepth 100000 in
set_option maxHeartbeats 2000000 in
theorem ecubeL_any (p : Nat) (a b : Nat) (sl : Value) (W : World) (c0 : W.cell? ⟨a, 0, none⟩ = some (.pointer (some ⟨p, 0, none⟩))) (c1 : W.cell? ⟨b, 0, none⟩ = some sl) (Z : Nat → Prop) (most : Nat) (R : Option Nat × List Nd)
    (HC : Calls Try.prog 30 #[.pointer (some ⟨p, 0, none⟩), sl] W (Got2 Z p most R W)) :
    Calls Try.prog 60 #[.pointer (some ⟨a, 0, none⟩), .pointer (some ⟨b, 0, none⟩)] W (Got2 Z p most R W) := by
  unfold Got2 at *
  have C0 := Lib.hid HC
  clear HC
  obtain ⟨r, hr⟩ : ∃ r : Int, ((rv R.1 : Nat) : Int) = r := ⟨_, rfl⟩
  obtain ⟨er', her⟩ : ∃ x : Int, er R.1 = x := ⟨_, rfl⟩
  rw [hr, her] at C0 ⊢
  clear hr her
  go_enter Try.func60, Try.ntmps60
  go_wp2_with fail
  refine C0.out.mono ?_
  rintro e w' ⟨rfl, hS, hH⟩
  have H := Lib.hid (And.intro hS hH)
  clear hS hH
  go_wp2
  go_ret2
  exact ⟨rfl, H.out.1, H.out.2⟩
end Go.Proofs.Ytggcbklififcgab
/- The maker of what a range asks of the last bits. -/
namespace Go.Proofs.Ytggcbklififcgab
open Go.RowKit
set_option linter.unusedVariables false

theorem at_along {P : Program} {ops : Array Oper} {Q : Exit → Act → World → Prop} {S : World → Prop} {r : List (Nat × Bool × Oper)} {a : Act} {W : World} {R : World → Prop} (h : R W) (k : ∀ W, R W → along P ops Q S r a W) : along P ops Q S r a W := k W h
theorem BdV.below {w w' : World} {s p a port n : Nat} {on : Bool} (h : BdV w s p a port n on) (hb : Below w.heap.size w w') : BdV w' s p a port n on := by
  obtain ⟨a0, a1, a2, a3, a4⟩ := h
  have f : ∀ (b o : Nat) (c : Value), w.cell? ⟨b, o, none⟩ = some c → w'.cell? ⟨b, o, none⟩ = some c := fun b o c h => (hb.cell (p := ⟨b, o, none⟩) (cell_lt (by rw [h]; rfl))).trans h
  exact ⟨f _ _ _ a0, f _ _ _ a1, f _ _ _ a2, f _ _ _ a3, f _ _ _ a4⟩
/-- Its variables, from block s on: arena, field, range; how many bits, in block nb. -/
abbrev RsV (w : World) (s nb p a lo hi n : Nat) : Prop :=
  w.cell? ⟨s, 0, none⟩ = some (.pointer (some ⟨p, 0, none⟩)) ∧ w.cell? ⟨s + 1, 0, none⟩ = some (.int .i64 (a : Nat)) ∧ w.cell? ⟨s + 2, 0, none⟩ = some (.int .u16 (lo : Nat)) ∧ w.cell? ⟨s + 2, 1, none⟩ = some (.int .u16 (hi : Nat)) ∧ w.cell? ⟨nb, 0, none⟩ = some (.int .i64 (n : Nat))
theorem RsV.on {w w' : World} {s nb p a lo hi n : Nat} (h : RsV w s nb p a lo hi n) (hb : Below w.heap.size w w') : RsV w' s nb p a lo hi n := by
  obtain ⟨a0, a1, a2, a3, a4⟩ := h
  have f : ∀ (b o : Nat) (c : Value), w.cell? ⟨b, o, none⟩ = some c → w'.cell? ⟨b, o, none⟩ = some c := fun b o c h => (hb.cell (p := ⟨b, o, none⟩) (cell_lt (by rw [h]; rfl))).trans h
  exact ⟨f _ _ _ a0, f _ _ _ a1, f _ _ _ a2, f _ _ _ a3, f _ _ _ a4⟩
theorem RsV.hold {Z : Nat → Prop} {W w' : World} {s nb p a lo hi n : Nat} (h : RsV W s nb p a lo hi n) (hH : Hold Z W w') (hz : (∀ k, k < 3 → Z (s + k)) ∧ Z nb) : RsV w' s nb p a lo hi n := by
  obtain ⟨a0, a1, a2, a3, a4⟩ := h
  exact ⟨hH.cell (hz.1 0 (by omega)) a0, hH.cell (hz.1 1 (by omega)) a1, hH.cell (hz.1 2 (by omega)) a2, hH.cell (hz.1 2 (by omega)) a3, hH.cell hz.2 a4⟩
def rsCap (s nb : Nat) : Array Value := #[.pointer (some ⟨s, 0, none⟩), .pointer (some ⟨s + 1, 0, none⟩), .pointer (some ⟨s + 2, 0, none⟩), .pointer (some ⟨nb, 0, none⟩)]
def RsRet (Z : Nat → Prop) (p most : Nat) (ns : List Nd) (a lo hi n : Nat) (W : World) (e : Ending) (w' : World) : Prop :=
  ∃ R, Got2 Z p most R W e w' ∧ Lv most ns R (rsP a lo hi n) (4 * n + n * n) (2 * n + n * n) (a + 16) (fun B => ∀ i, i < 16 → B (a + i) = true) ∧ (R.1 = none → R.2 = ns)
/-- What there is behind so many makers. -/
def rsA (ns : List Nd) (a lo hi n : Nat) : Nat → List Nd → Nat → Prop
  | 0 => fun ns' f => ns' = ns ∧ f = 1
  | 1 => fun ns' f => Gd ns ns' f (bdP a lo true n) (2 * n) n (a + 16) (fun B => ∀ i, i < 16 → B (a + i) = true)
  | _ => fun ns' f => Gd ns ns' f (rsP a lo hi n) (4 * n + n * n) (2 * n + n * n) (a + 16) (fun B => ∀ i, i < 16 → B (a + i) = true)
theorem jF_one {most : Nat} {ns : List Nd} {g : Nat} : jF 0 most ns 1 g = (some g, ns) := jF_plain (by
  unfold plainF
  by_cases h : g = 0
  · subst h; rfl
  · simp [h])
theorem rs_step0 {most a lo hi n : Nat} {ns ns' : List Nd} {f : Nat} {R : Option Nat × List Nd} (hA : rsA ns a lo hi n 0 ns' f) (hL : Lv most ns' R (bdP a lo true n) (2 * n) n (a + 16) (fun B => ∀ i, i < 16 → B (a + i) = true)) :
    Ext ns' R.2 ∧ (R.1 = none → most ≤ ns.length + (4 * n + n * n)) ∧ ∀ g, R.1 = some g → g < R.2.length ∧ f < R.2.length ∧ ((jF 0 most R.2 f g).1 = none → most ≤ ns.length + (4 * n + n * n)) ∧ ∀ q, (jF 0 most R.2 f g).1 = some q → rsA ns a lo hi n 1 (jF 0 most R.2 f g).2 q := by
  obtain ⟨rfl, rfl⟩ := hA
  refine ⟨hL.ext, fun h => ?_, fun g hg => ?_⟩
  · obtain ⟨x, -⟩ := hL.none h; omega
  · have G := hL.some g hg
    rw [jF_one]
    refine ⟨G.st.1, by have := G.wf.len; omega, fun h => (by cases h), fun q hq => ?_⟩
    cases hq
    exact G
theorem rs_step1 {most a lo hi n : Nat} {ns ns' : List Nd} {f : Nat} {R : Option Nat × List Nd} (hA : rsA ns a lo hi n 1 ns' f) (hL : Lv most ns' R (bdP a hi false n) (2 * n) n (a + 16) (fun B => ∀ i, i < 16 → B (a + i) = true)) :
    Ext ns' R.2 ∧ (R.1 = none → most ≤ ns.length + (4 * n + n * n)) ∧ ∀ g, R.1 = some g → g < R.2.length ∧ f < R.2.length ∧ ((jF 0 most R.2 f g).1 = none → most ≤ ns.length + (4 * n + n * n)) ∧ ∀ q, (jF 0 most R.2 f g).1 = some q → rsA ns a lo hi n 2 (jF 0 most R.2 f g).2 q := by
  have hA' : Gd ns ns' f (bdP a lo true n) (2 * n) n (a + 16) (fun B => ∀ i, i < 16 → B (a + i) = true) := hA
  have h1 := hA'.len
  refine ⟨hL.ext, fun h => ?_, fun g hg => ?_⟩
  · obtain ⟨x, -⟩ := hL.none h; omega
  · have G := hL.some g hg
    have h2 := G.len
    have hf := hA'.st.ext G.ext hA'.wf G.wf
    obtain ⟨L, l1, l2, l3⟩ := hA'.clo
    obtain ⟨X, Y⟩ := and_lv (most := most) (hi := a + 16) G.wf hf G.st ⟨L, l1, l2.ext G.ext, l3⟩ G.clo
    refine ⟨G.st.1, hf.1, fun h => ?_, fun q hq => ?_⟩
    · obtain ⟨x, -⟩ := X.none h; omega
    · have K := (hA'.step G).step ((X.some q hq).mono (Nat.le_refl _) (Nat.le_refl _) (Nat.le_refl _) (fun _ _ => trivial))
      exact (K.mono (by omega) (by omega) (Nat.le_refl _) (fun _ h => h)).cast (fun e => rfl)
theorem rest_meet {Z : Nat → Prop} {p most : Nat} {W V : World} {ns : List Nd} {a lo hi n s1 s2 b : Nat} (S0 : Sta Z p W most ns) (hB : Below W.heap.size W V) (hv1 : BdV V s1 p a lo n true) (hv2 : BdV V s2 p a hi n false)
    (h1 : W.heap.size ≤ s1) (h1' : s1 + 5 ≤ V.heap.size) (h2 : W.heap.size ≤ s2) (h2' : s2 + 5 ≤ V.heap.size) (hk : Blk V b [.func (.func 70) #[] (bdCap s1), .func (.func 70) #[] (bdCap s2)]) (hb : W.heap.size ≤ b) (hb' : b < V.heap.size)
    (ha : a + 16 ≤ 104) (hlo : lo < 65536) (hhi : hi < 65536) (hn : n ≤ 16) :
    Calls Try.prog 36 #[.pointer (some ⟨p, 0, none⟩), .slice (some ⟨b, 0, none⟩) 2 2] V (RsRet Z p most ns a lo hi n W) := by
  have SV : Sta (fun k => Z k ∨ (W.heap.size ≤ k ∧ k < V.heap.size)) p V most ns := S0.grow hB (fun k hk => hk)
  have M := meet_core SV 2 (by omega) (fun i => if i = 0 then (70, bdCap s1) else (70, bdCap s2)) b 2 (Or.inr ⟨hb, hb'⟩)
    (fun i hi => by
      have : i = 0 ∨ i = 1 := by omega
      rcases this with rfl | rfl
      · exact hk.1 0 _ rfl
      · exact hk.1 1 _ rfl)
    (rsA ns a lo hi n) (most ≤ ns.length + (4 * n + n * n)) ⟨rfl, rfl⟩
    (fun k ns' f h => by
      match k, h with
      | 0, h => rw [h.1]; exact Ext.refl _
      | 1, h => exact Gd.ext h
      | k + 2, h => exact Gd.ext h)
    (fun k hk' ns' f W' hA hS hH => by
      have : k = 0 ∨ k = 1 := by omega
      rcases this with rfl | rfl
      · refine (boundL_any hS a lo n s1 true ha hlo hn (fun k hk => Or.inr ⟨by omega, by omega⟩) (hv1.hold hH (fun k hk => Or.inr ⟨by omega, by omega⟩))).mono ?_
        rintro e w' ⟨R, hG, hL⟩
        obtain ⟨x, y, z⟩ := rs_step0 hA hL
        exact ⟨R, hG, x, y, z⟩
      · refine (boundL_any hS a hi n s2 false ha hhi hn (fun k hk => Or.inr ⟨by omega, by omega⟩) (hv2.hold hH (fun k hk => Or.inr ⟨by omega, by omega⟩))).mono ?_
        rintro e w' ⟨R, hG, hL⟩
        obtain ⟨x, y, z⟩ := rs_step1 hA hL
        exact ⟨R, hG, x, y, z⟩)
    (fun k hk' => by
      have : k = 0 ∨ k = 1 := by omega
      rcases this with rfl | rfl <;> exact Try.call70)
  refine M.mono ?_
  rintro e w' ⟨R, ⟨g1, g2, g3⟩, hn0, hs⟩
  refine ⟨R, ⟨g1, g2.less (fun k hk => Or.inl hk), (Hold.of hB).trans (g3.less (fun k hk => Or.inl hk))⟩, ⟨fun q hq => hs q hq, fun h => ?_⟩, fun h => (hn0 h).1⟩
  obtain ⟨x, y⟩ := hn0 h
  refine ⟨y, ?_, ?_⟩
  · rw [x]; exact Ext.refl _
  · rw [x]; exact S0.wf
set_option maxRecDepth 100000 in
set_option maxHeartbeats 4000000 in
theorem restL_any {Z : Nat → Prop} {p most : Nat} {W : World} {ns : List Nd} (hS : Sta Z p W most ns) (a lo hi n s nb : Nat) (ha : a + 16 ≤ 104) (hlo : lo < 65536) (hhi : hi < 65536) (hn : n ≤ 16) (hz : (∀ k, k < 3 → Z (s + k)) ∧ Z nb) (hv : RsV W s nb p a lo hi n) :
    Calls Try.prog 58 (rsCap s nb) W (RsRet Z p most ns a lo hi n W) := by
  have S0 := Lib.hid hS
  have HV := Lib.hid hv
  have HZ := Lib.hid hz
  have BA := Lib.hid (fun (port : Nat) (on : Bool) (w : World) => bound_any p a port n on w)
  unfold rsCap
  clear hS hv hz
  go_enter Try.func58, Try.ntmps58
  go_upto_region 1 with fail
  refine wp_region_noPanic ?_
  refine wp_region_along (S := fun V => V.cell? ⟨s, 0, none⟩ = some (.pointer (some ⟨p, 0, none⟩)) ∧ V.cell? ⟨s + 1, 0, none⟩ = some (.int .i64 (a : Nat)) ∧ V.cell? ⟨s + 2, 0, none⟩ = some (.int .u16 (lo : Nat)) ∧ V.cell? ⟨s + 2, 1, none⟩ = some (.int .u16 (hi : Nat)) ∧ V.cell? ⟨nb, 0, none⟩ = some (.int .i64 (n : Nat))) ([(0, true), (1, true), (2, true), (3, true), (4, true), (5, true), (7, true), (8, true), (9, true), (10, true), (11, true), (6, false), (12, false), (13, false), (14, false), (15, true)] ++ ([(16, true), (17, true), (18, true)])) (by kernel_rfl) (by as_aux_lemma => kernel_rfl) (by kernel_rfl) (by kernel_rfl) (alongPre_append _ _ _ (by as_aux_lemma => kernel_rfl) (by as_aux_lemma => kernel_rfl)) (by as_aux_lemma => kernel_rfl) (fun _ _ _ _ _ h => h) HV.out (fun hH => ?_)
  simp only [List.cons_append, List.nil_append, stepsOf, pickOp]
  iterate 11 (first | (refine along_skip (by rfl) ?_; try simp only [Act.put, List.setIfInBounds_toArray, List.set_cons_zero, List.set_cons_succ]) | (refine along_pure ?_ (by rfl) (fun w hSw => ?_) ?_; rotate_left; ((try dsimp only at hSw); go_simp; try with_reducible rfl); try simp only [Act.put, List.setIfInBounds_toArray, List.set_cons_zero, List.set_cons_succ]))
  refine along_bar (fun K hK => ?_)
  go_simp
  refine (BA.out lo true _).mono ?_
  rintro e w1 ⟨rfl, hV, hz, hb⟩
  try go_wp2_with fail
  refine hK.out _ _ (RsV.on hH hb) (fun hH' => ?_)
  clear hK K hH
  have hH := hH'
  clear hH'
  have V1 := Lib.hid hV
  have Z1 := Lib.hid hz
  have B1 := Lib.hid (bel_on' (Below.refl _ _).drew hb : Below W.heap.size W w1)
  clear hV hz hb
  try simp only [Act.put, List.setIfInBounds_toArray, List.set_cons_zero, List.set_cons_succ]
  refine along_bar (fun K hK => ?_)
  go_simp
  refine (BA.out hi false _).mono ?_
  rintro e w2 ⟨rfl, hV, hz, hb⟩
  try go_wp2_with fail
  refine hK.out _ _ (RsV.on hH hb) (fun hH' => ?_)
  clear hK K hH
  have hH := hH'
  clear hH'
  have V2 := Lib.hid hV
  have V1' := Lib.hid (V1.out.below hb)
  have Z2 := Lib.hid hz
  have B2 := Lib.hid (bel_on' B1.out hb)
  clear hV hz hb V1
  try simp only [Act.put, List.setIfInBounds_toArray, List.set_cons_zero, List.set_cons_succ]
  refine along_bar (fun K hK => ?_)
  go_simp
  refine hK.out _ _ (RsV.on hH (bel_al (Below.refl _ _) _)) (fun hH' => ?_)
  clear hK K hH
  have hH := hH'
  clear hH'
  refine at_along (R := fun V => Blk V w2.heap.size [.func (.func 70) #[] (bdCap W.heap.size), .func (.func 70) #[] (bdCap w1.heap.size)] ∧ Below w2.heap.size w2 V ∧ V.heap.size = w2.heap.size + 1 ∧ RsV V s nb p a lo hi n) ⟨Blk.new _ _ _, bel_al (Below.refl _ _) _, by simp, hH⟩ (fun V hV => ?_)
  obtain ⟨hk, hb, hz, hr⟩ := hV
  clear hH
  have hH := hr
  have CM := Lib.hid (rest_meet S0.out (bel_on' B2.out hb) (V1'.out.below hb) (V2.out.below hb) (Nat.le_refl _) (by have := Z1.out; have := Z2.out; simp only [World.size_drew] at *; omega) B1.out.size (by have := Z2.out; omega) hk B2.out.size (by omega) ha hlo hhi hn)
  clear hr hk hb hz V1' V2 Z1 Z2 B2 B1
  try simp only [Act.put, List.setIfInBounds_toArray, List.set_cons_zero, List.set_cons_succ]
  refine along_bar (fun K hK => ?_)
  go_simp
  refine CM.out.mono ?_
  rintro e w4 ⟨R, hG, hL, hN⟩
  obtain ⟨rfl, hS4, hH4⟩ := hG
  try go_wp2_with fail
  refine hK.out _ _ (HV.out.hold hH4 HZ.out) (fun hH' => ?_)
  clear hK K hH
  have hH := hH'
  clear hH'
  have FIN := Lib.hid (And.intro hS4 (And.intro hH4 (And.intro hL hN)))
  clear hS4 hH4 hL hN CM
  try simp only [Act.put, List.setIfInBounds_toArray, List.set_cons_zero, List.set_cons_succ]
  iterate 4 (first | (refine along_skip (by rfl) ?_; try simp only [Act.put, List.setIfInBounds_toArray, List.set_cons_zero, List.set_cons_succ]) | (refine along_pure ?_ (by rfl) (fun w hSw => ?_) ?_; rotate_left; ((try dsimp only at hSw); go_simp; try with_reducible rfl); try simp only [Act.put, List.setIfInBounds_toArray, List.set_cons_zero, List.set_cons_succ]))
  refine along_end (NoPanic.normal ?_)
  go_wp2
  go_ret2
  exact ⟨R, ⟨rfl, FIN.out.1, FIN.out.2.1⟩, FIN.out.2.2.1, FIN.out.2.2.2⟩
end Go.Proofs.Ytggcbklififcgab
/- The maker of what a range asks of the last bits, made. -/
namespace Go.Proofs.Ytggcbklififcgab
open Go.RowKit
set_option linter.unusedVariables false

def RestRet (p a lo hi : Nat) (w : World) (e : Ending) (w' : World) : Prop := ∃ nb, e = .returned (.func (.func 58) #[] (rsCap w.heap.size nb)) ∧ RsV w' w.heap.size nb p a lo hi (rn lo hi) ∧ w.heap.size + 3 ≤ nb ∧ nb < w'.heap.size ∧ Below w.heap.size w w'
set_option maxRecDepth 100000 in
set_option maxHeartbeats 2000000 in
theorem rest_any (p a lo hi : Nat) (hlo : lo < 65536) (hhi : hi < 65536) (w : World) :
    Calls Try.prog 37 #[.pointer (some ⟨p, 0, none⟩), .int .i64 (a : Nat), .agg #[.int .u16 (lo : Nat), .int .u16 (hi : Nat)]] w (RestRet p a lo hi w) := by
  have hmf : ∀ (fn : Fn) (first cap : Array Value) (w : World), (Instr.makeFunc fn first cap).run Try.prog w = .ok (.func fn first cap) w := fun _ _ _ _ => rfl
  have CM := Lib.hid (fun W => common_any lo hi hlo hhi W)
  have hr := rn_le hlo hhi
  unfold RestRet rsCap
  go_enter Try.func37, Try.ntmps37
  go_upto_region 1 with fail
  refine at_code (S := fun W => Blk W w.heap.size [.pointer (some ⟨p, 0, none⟩)] ∧ Blk W (w.heap.size + 1) [.int .i64 (a : Nat)] ∧ Blk W (w.heap.size + 2) [.int .u16 (lo : Nat), .int .u16 (hi : Nat)] ∧ W.heap.size = w.heap.size + 3 ∧ Below w.heap.size w W) ⟨?_, ?_, ?_, by simp, bel_al (bel_al (bel_al (Below.refl _ _) _) _) _⟩ (fun W0 hW => ?_)
  · exact (Blk.new w _ [.pointer (some ⟨p, 0, none⟩)]).on (bel_al (bel_al (Below.refl _ _) _) _)
  · have k := Blk.new (w.alloc (.cells #[.pointer (some ⟨p, 0, none⟩)] 30)) 3 [.int .i64 (a : Nat)]
    rw [World.size_alloc] at k
    exact k.on (bel_al (Below.refl _ _) _)
  · have k := Blk.new ((w.alloc (.cells #[.pointer (some ⟨p, 0, none⟩)] 30)).alloc (.cells #[.int .i64 (a : Nat)] 3)) 27 [.int .u16 (lo : Nat), .int .u16 (hi : Nat)]
    rw [World.size_alloc, World.size_alloc] at k
    exact k
  obtain ⟨h0, h1, h2, hz, hb⟩ := hW
  obtain ⟨x_0, x_1⟩ : _ ∧ _ := ⟨h2.1 0 _ rfl, h2.1 1 _ rfl⟩
  have H0 := Lib.hid h0
  have H1 := Lib.hid h1
  have H2 := Lib.hid h2
  have HZ := Lib.hid hz
  have B0 := Lib.hid hb
  clear h0 h1 h2 hz hb
  go_wp2_with fail
  refine (CM.out _).mono ?_
  rintro e w2 ⟨rfl, hb⟩
  have B2 := Lib.hid hb
  have hs : (16 : Int) - ((16 - rn lo hi : Nat) : Int) = ((rn lo hi : Nat) : Int) := by omega
  clear hb CM x_0 x_1
  go_upto_region 2 with fail
  refine at_code (S := fun W => Blk W w2.heap.size [.int .i64 ((rn lo hi : Nat) : Int)] ∧ Below w2.heap.size w2 W) ⟨?_, ?_⟩ (fun W3 hW => ?_)
  · exact Blk.new _ _ _
  · exact bel_al (Below.refl _ _) _
  obtain ⟨hk, hb⟩ := hW
  have b3 := bel_on' B0.out B2.out
  have FIN := Lib.hid (show RsV W3 w.heap.size w2.heap.size p a lo hi (rn lo hi) ∧ w.heap.size + 3 ≤ w2.heap.size ∧ w2.heap.size < W3.heap.size ∧ Below w.heap.size w W3 from ⟨⟨((H0.out.on B2.out).on hb).1 0 _ rfl, ((H1.out.on B2.out).on hb).1 0 _ rfl, ((H2.out.on B2.out).on hb).1 0 _ rfl, ((H2.out.on B2.out).on hb).1 1 _ rfl, hk.1 0 _ rfl⟩, by have := B2.out.size; have := HZ.out; omega, hk.lt, bel_on' b3 hb⟩)
  clear hk hb b3 B0 B2 H0 H1 H2 HZ
  go_wp2
  go_ret
  exact ⟨_, rfl, FIN.out.1, FIN.out.2.1, FIN.out.2.2.1, FIN.out.2.2.2⟩
end Go.Proofs.Ytggcbklififcgab
/- The document's example. -/
namespace Go.Proofs.Ytggcbklififcgab
open Go.RowKit
set_option linter.unusedVariables false

set_option maxRecDepth 100000 in
set_option maxHeartbeats 2000000 in
theorem first_none (d s p x y : Nat) (a : Int) (w : World) :
    Calls Try.prog 31 #[hv d s p x y, .int .i64 a, .int .i64 0] w fun e w' => e = .returned (.slice none 0 0) ∧ Below w.heap.size w w' := by
  go_enter Try.func31, Try.ntmps31
  go_upto_region 1 with fail
  refine at_code (S := fun W => Below w.heap.size w W) (bel_al (Below.refl _ _) _) (fun W1 hW => ?_)
  have B1 := Lib.hid hW
  clear hW
  go_wp2_with fail
  go_loopw [7, 10] (fun sv iv wr => sv = .slice none 0 0 ∧ iv = .int .i64 0 ∧ W1 = wr) (fun _ _ _ => 0)
  case atStart => exact ⟨rfl, rfl, rfl⟩
  case round =>
    obtain ⟨rfl, rfl, rfl⟩ := hrel
    go_wp2
    go_ret
    exact ⟨rfl, B1.out⟩
set_option maxRecDepth 100000 in
set_option maxHeartbeats 2000000 in
theorem prefix_none {Z : Nat → Prop} {p most : Nat} {W : World} {ns : List Nd} (h : Sta Z p W most ns) :
    Calls Try.prog 10 #[.pointer (some ⟨p, 0, none⟩), .int .i64 0, .agg #[.int .u32 0, .int .i64 0]] W (Got2 Z p most (some 1, ns) W) := by
  have CR : Hid (∀ w, Calls Try.prog 29 #[.agg #[.int .u32 0, .int .i64 0]] w fun e w' => e = .returned (.bool true) ∧ Below w.heap.size w w') := fun w => cright_any 0 0 (by omega) w
  have CF : Hid (∀ w, Calls Try.prog 31 #[.agg #[.int .u32 0, .int .u32 0, .int .u8 0, .int .u16 0, .int .u16 0], .int .i64 0, .int .i64 0] w fun e w' => e = .returned (.slice none 0 0) ∧ Below w.heap.size w w') := fun w => first_none 0 0 0 0 0 0 w
  have S0 := Lib.hid h
  have CC : Hid (∀ w, Sta Z p w most ns → Calls Try.prog 30 #[.pointer (some ⟨p, 0, none⟩), .slice none 0 0] w fun e w' => e = .returned (.tuple #[.int .i64 1, .int .i64 0]) ∧ Sta Z p w' most ns ∧ Hold Z w w') := fun w h => sCubeNone h
  show Calls Try.prog 10 _ W fun e w' => e = .returned (.tuple #[.int .i64 1, .int .i64 0]) ∧ Sta Z p w' most ns ∧ Hold Z W w'
  clear h
  go_enter Try.func10, Try.ntmps10
  go_upto_region 5 with fail
  refine at_code (S := fun w => Blk w W.heap.size [.int .u32 0, .int .i64 0] ∧ Below W.heap.size W w) ⟨Blk.new _ _ _, bel_al (Below.refl _ _) _⟩ (fun W1 hW => ?_)
  obtain ⟨hX, hb⟩ := hW
  obtain ⟨x_0, x_1⟩ : _ ∧ _ := ⟨hX.1 0 _ rfl, hX.1 1 _ rfl⟩
  have X1 := Lib.hid hX
  have B1 := Lib.hid hb
  clear hX hb
  go_wp2_with fail
  refine (CR.out _).mono ?_
  rintro e w2 ⟨rfl, hb⟩
  have X2 := X1.out.on hb
  have B2 := Lib.hid (bel_on' B1.out hb)
  clear x_0 x_1 X1 B1 hb CR
  obtain ⟨x_0, x_1⟩ : _ ∧ _ := ⟨X2.1 0 _ rfl, X2.1 1 _ rfl⟩
  clear X2
  go_wp2_with fail
  refine (CF.out _).mono ?_
  rintro e w3 ⟨rfl, hb⟩
  have B3 := Lib.hid (bel_on' B2.out hb)
  clear hb x_0 x_1 B2 CF
  have C2 := Lib.hid (CC.out w3 (S0.out.on B3.out))
  clear CC S0
  go_wp2_with fail
  refine C2.out.mono ?_
  rintro e w4 ⟨rfl, hS, hH⟩
  have S3 := Lib.hid hS
  have H3 := Lib.hid ((Hold.of B3.out).trans hH : Hold Z W w4)
  clear hS hH
  go_wp2
  go_ret2
  exact ⟨rfl, S3.out, H3.out⟩
set_option maxRecDepth 100000 in
set_option maxHeartbeats 2000000 in
theorem awake_any (w : World) : Calls Try.prog 16 #[] w fun e w' => e = .returned (.bool true) ∧ Below w.heap.size w w' := by
  have C1 := Lib.hid (sNew 10 (by omega) (by omega) w)
  have C2 : Hid (∀ p W, Sta (fun k => k < w.heap.size) p W 10 [bot, top] → Calls Try.prog 10 #[.pointer (some ⟨p, 0, none⟩), .int .i64 0, .agg #[.int .u32 0, .int .i64 0]] W fun e w' => e = .returned (.tuple #[.int .i64 1, .int .i64 0]) ∧ Sta (fun k => k < w.heap.size) p w' 10 [bot, top] ∧ Hold (fun k => k < w.heap.size) W w') := fun p W h => prefix_none h
  go_enter Try.func16, Try.ntmps16
  go_wp2_with fail
  refine C1.out.mono ?_
  rintro e w1 ⟨p, rfl, hS, hb⟩
  have S1 := Lib.hid hS
  have B1 := Lib.hid hb
  clear hS hb C1
  go_wp2_with fail
  refine (C2.out p w1 S1.out).mono ?_
  rintro e w2 ⟨rfl, hS, hH⟩
  have H2 := Lib.hid hH
  clear hS hH C2 S1
  go_wp2
  go_ret
  exact ⟨rfl, B1.out.trans (H2.out.below B1.out.size (fun k hk => hk))⟩
end Go.Proofs.Ytggcbklififcgab
/- The set of a range. -/
namespace Go.Proofs.Ytggcbklififcgab
open Go.RowKit
set_option linter.unusedVariables false

/-- Bits as first leaves them: none, or in a new block. -/
def LitAt (w : World) (base : Nat) (v : Value) (l : List (Nat × Bool)) : Prop := (l = [] ∧ v = .slice none 0 0) ∨ ∃ g cap, v = .slice (some ⟨g, 0, none⟩) l.length cap ∧ base ≤ g ∧ g < w.heap.size ∧ LitC w g (natL l)
theorem LitAt.on {w w' : World} {base : Nat} {v : Value} {l : List (Nat × Bool)} (h : LitAt w base v l) (hb : Below w.heap.size w w') : LitAt w' base v l := by
  rcases h with h | ⟨g, cap, h1, h2, h3, h4⟩
  · exact Or.inl h
  · exact Or.inr ⟨g, cap, h1, h2, by have := hb.size; omega, h4.on hb⟩
theorem LitAt.base {w : World} {base base' : Nat} {v : Value} {l : List (Nat × Bool)} (h : LitAt w base v l) (hb : base' ≤ base) : LitAt w base' v l := by
  rcases h with h | ⟨g, cap, h1, h2, h3, h4⟩
  · exact Or.inl h
  · exact Or.inr ⟨g, cap, h1, by omega, h3, h4⟩
theorem LitAt.slice {w : World} {base : Nat} {v : Value} {l : List (Nat × Bool)} (h : LitAt w base v l) : ∃ a n c, v = .slice a n c := by
  rcases h with ⟨-, h⟩ | ⟨g, cap, h, -⟩
  · exact ⟨_, _, _, h⟩
  · exact ⟨_, _, _, h⟩
theorem LitC.hold {Z : Nat → Prop} {W w' : World} {g : Nat} {l : List (Int × Bool)} (h : LitC W g l) (hH : Hold Z W w') (hz : Z g) : LitC w' g l := fun i x hx => by
  obtain ⟨a, b⟩ := h i x hx
  exact ⟨hH.cell hz a, hH.cell hz b⟩
theorem cF_nil (most : Nat) (ns : List Nd) : cF most ns [] = (some 1, ns) := rfl
theorem sCubeAt {Z : Nat → Prop} {p most : Nat} {V W : World} {ns : List Nd} {l : List (Nat × Bool)} {v : Value} {base : Nat} (hS : Sta Z p W most ns) (hr : Rise l) (hL : LitAt V base v l) (hH : Hold Z V W) (hz : ∀ g, base ≤ g → g < V.heap.size → Z g) :
    Calls Try.prog 30 #[.pointer (some ⟨p, 0, none⟩), v] W (Got2 Z p most (cF most ns l) W) := by
  rcases hL with ⟨rfl, rfl⟩ | ⟨g, cap, rfl, h2, h3, h4⟩
  · rw [cF_nil]; exact sCubeNone hS
  · exact sCube hS l hr g cap (h4.hold hH (hz g h2 h3)) (hz g h2 h3)
theorem first_at (d s p x y : Nat) (hh : HB d s p x y) (a n : Nat) (h104 : a + n ≤ 104) (w : World) :
    Calls Try.prog 31 #[hv d s p x y, .int .i64 (a : Nat), .int .i64 (n : Nat)] w fun e w' => ∃ v, e = .returned v ∧ LitAt w' w.heap.size v (fl d s p x y a n) ∧ Below w.heap.size w w' := by
  by_cases h0 : n = 0
  · subst h0
    refine (first_none d s p x y (a : Nat) w).mono ?_
    rintro e w' ⟨rfl, hb⟩
    exact ⟨_, rfl, Or.inl ⟨rfl, rfl⟩, hb⟩
  · refine (first_any d s p x y hh a n h104 w).mono ?_
    rintro e w' ⟨v, rfl, hb, hO⟩
    obtain ⟨g, cap, e1, e2, e3, e4⟩ := litC_of hO (natL_len _).symm (by rw [fl_len]; omega)
    exact ⟨v, rfl, Or.inr ⟨g, cap, e1, by omega, e3, e4⟩, hb⟩
/-- Just the ports of a range. -/
def rgP (a lo hi : Nat) (e : Env) : Bool := rsP a lo hi (rn lo hi) e && allB (fl 0 0 0 lo lo a (16 - rn lo hi)) e
theorem RsRet.lv {Z : Nat → Prop} {p most : Nat} {ns : List Nd} {a lo hi n : Nat} {W : World} {e : Ending} {w' : World} (hn : n ≤ 16) (h : RsRet Z p most ns a lo hi n W e w') :
    ∃ R, Got2 Z p most R W e w' ∧ Lv most ns R (rsP a lo hi n) 320 288 (a + 16) (fun B => ∀ i, i < 16 → B (a + i) = true) ∧ (R.1 = none → R.2 = ns) := by
  obtain ⟨R, hG, hL, hN⟩ := h
  have : n * n ≤ 16 * 16 := Nat.mul_le_mul hn hn
  refine ⟨R, hG, ⟨fun q hq => (hL.some q hq).mono (by omega) (by omega) (Nat.le_refl _) (fun _ h => h), fun h => ?_⟩, hN⟩
  obtain ⟨x, y⟩ := hL.none h
  exact ⟨by omega, y⟩
/-- What there is behind so many makers. -/
def rgA (ns : List Nd) (a lo hi : Nat) : Nat → List Nd → Nat → Prop
  | 0 => fun ns' f => ns' = ns ∧ f = 1
  | 1 => fun ns' f => Gd ns ns' f (rsP a lo hi (rn lo hi)) 320 288 (a + 16) (fun B => ∀ i, i < 16 → B (a + i) = true)
  | _ => fun ns' f => Gd ns ns' f (rgP a lo hi) 352 320 (a + 16) (fun B => ∀ i, i < 16 → B (a + i) = true)
theorem rg_step0 {most a lo hi : Nat} {ns ns' : List Nd} {f : Nat} {R : Option Nat × List Nd} (hA : rgA ns a lo hi 0 ns' f) (hL : Lv most ns' R (rsP a lo hi (rn lo hi)) 320 288 (a + 16) (fun B => ∀ i, i < 16 → B (a + i) = true)) :
    Ext ns' R.2 ∧ (R.1 = none → most ≤ ns.length + 352) ∧ ∀ g, R.1 = some g → g < R.2.length ∧ f < R.2.length ∧ ((jF 0 most R.2 f g).1 = none → most ≤ ns.length + 352) ∧ ∀ q, (jF 0 most R.2 f g).1 = some q → rgA ns a lo hi 1 (jF 0 most R.2 f g).2 q := by
  obtain ⟨rfl, rfl⟩ := hA
  refine ⟨hL.ext, fun h => ?_, fun g hg => ?_⟩
  · obtain ⟨x, -⟩ := hL.none h; omega
  · have G := hL.some g hg
    rw [jF_one]
    refine ⟨G.st.1, by have := G.wf.len; omega, fun h => (by cases h), fun q hq => ?_⟩
    cases hq
    exact G
theorem fl_mem {d s p x y a n : Nat} {q : Nat × Bool} (h : q ∈ fl d s p x y a n) : ∃ i, i < n ∧ q.1 = a + i := by
  unfold fl at h
  obtain ⟨i, hi, rfl⟩ := List.mem_map.1 h
  exact ⟨i, List.mem_range.1 hi, rfl⟩
theorem rg_step1 {most a lo hi : Nat} {ns ns' : List Nd} {f : Nat} {R : Option Nat × List Nd} (ha : a + 16 ≤ 104) (hlo : lo < 65536) (hhi : hi < 65536) (hA : rgA ns a lo hi 1 ns' f) (hR : R = cF most ns' (fl 0 0 0 lo lo a (16 - rn lo hi))) :
    Ext ns' R.2 ∧ (R.1 = none → most ≤ ns.length + 352) ∧ ∀ g, R.1 = some g → g < R.2.length ∧ f < R.2.length ∧ ((jF 0 most R.2 f g).1 = none → most ≤ ns.length + 352) ∧ ∀ q, (jF 0 most R.2 f g).1 = some q → rgA ns a lo hi 2 (jF 0 most R.2 f g).2 q := by
  have hA' : Gd ns ns' f (rsP a lo hi (rn lo hi)) 320 288 (a + 16) (fun B => ∀ i, i < 16 → B (a + i) = true) := hA
  have hn := rn_le hlo hhi
  have hr := fl_rise 0 0 0 lo lo a (16 - rn lo hi) (by omega)
  obtain ⟨hL, -⟩ := cF_lv most (a + 16 - rn lo hi) hA'.wf hr.1 hr.2 (fun p hp => by obtain ⟨i, hi, e⟩ := fl_mem hp; omega)
  rw [← hR, fl_len] at hL
  have h1 := hA'.len
  refine ⟨hL.ext, fun h => ?_, fun g hg => ?_⟩
  · obtain ⟨x, -⟩ := hL.none h; omega
  · have G := hL.some g hg
    have h2 := G.len
    have hf := hA'.st.ext G.ext hA'.wf G.wf
    obtain ⟨L, l1, l2, l3⟩ := hA'.clo
    have hlv : a + 16 - rn lo hi ≤ lv R.2 f := lv_ge G.wf hf.1 (by omega) (fun e i b hi' => by rw [hf.2, hf.2]; exact rsP_hld a lo hi _ e i b hn (by omega))
    obtain ⟨X, Y⟩ := and_below (most := most) (hi := a + 16) (hf' := a + 16 - rn lo hi) G.wf hf G.st ⟨L, l1, l2.ext G.ext, l3⟩ G.clo hlv (by omega)
    refine ⟨G.st.1, hf.1, fun h => ?_, fun q hq => ?_⟩
    · obtain ⟨x, -⟩ := X.none h; omega
    · have G' : Gd ns' R.2 g (allB (fl 0 0 0 lo lo a (16 - rn lo hi))) (16 - rn lo hi) (16 - rn lo hi) (a + 16) (fun B => ∀ i, i < 16 → B (a + i) = true) := G.mono (Nat.le_refl _) (Nat.le_refl _) (by omega) (fun B hB p hp => by
        obtain ⟨i, hi, e⟩ := fl_mem hp
        rw [e]; exact hB i (by omega))
      have K := (hA'.step G').step ((X.some q hq).mono (Nat.le_refl _) (Nat.le_refl _) (Nat.le_refl _) (fun _ _ => trivial))
      exact (K.mono (by omega) (by omega) (Nat.le_refl _) (fun _ h => h)).cast (fun e => rfl)
def RgRet (Z : Nat → Prop) (p most : Nat) (ns : List Nd) (a lo hi : Nat) (W : World) (e : Ending) (w' : World) : Prop :=
  ∃ R, Got2 Z p most R W e w' ∧ Lv most ns R (rgP a lo hi) 352 320 (a + 16) (fun B => ∀ i, i < 16 → B (a + i) = true) ∧ (R.1 = none → R.2 = ns)
theorem range_meet {Z : Nat → Prop} {p most : Nat} {W U V : World} {ns : List Nd} {a lo hi s nb c b : Nat} {v : Value} (S0 : Sta Z p W most ns) (hU : Below W.heap.size W U) (hUV : Below U.heap.size U V) (hL : LitAt U W.heap.size v (fl 0 0 0 lo lo a (16 - rn lo hi)))
    (hv : RsV V s nb p a lo hi (rn lo hi)) (h1 : W.heap.size ≤ s) (h1' : s + 3 ≤ nb) (h1'' : nb < V.heap.size) (c0 : V.cell? ⟨c, 0, none⟩ = some (.pointer (some ⟨p, 0, none⟩))) (c1 : V.cell? ⟨c + 1, 0, none⟩ = some v) (h2 : W.heap.size ≤ c) (h2' : c + 2 ≤ V.heap.size)
    (hk : Blk V b [.func (.func 58) #[] (rsCap s nb), .func (.func 60) #[] #[.pointer (some ⟨c, 0, none⟩), .pointer (some ⟨c + 1, 0, none⟩)]]) (hb : W.heap.size ≤ b) (hb' : b < V.heap.size)
    (ha : a + 16 ≤ 104) (hlo : lo < 65536) (hhi : hi < 65536) :
    Calls Try.prog 36 #[.pointer (some ⟨p, 0, none⟩), .slice (some ⟨b, 0, none⟩) 2 2] V (RgRet Z p most ns a lo hi W) := by
  have hB := bel_on' hU hUV
  have hn := rn_le hlo hhi
  have SV : Sta (fun k => Z k ∨ (W.heap.size ≤ k ∧ k < V.heap.size)) p V most ns := S0.grow hB (fun k hk => hk)
  have LV := hL.on hUV
  have M := meet_core SV 2 (by omega) (fun i => if i = 0 then (58, rsCap s nb) else (60, #[.pointer (some ⟨c, 0, none⟩), .pointer (some ⟨c + 1, 0, none⟩)])) b 2 (Or.inr ⟨hb, hb'⟩)
    (fun i hi => by
      have : i = 0 ∨ i = 1 := by omega
      rcases this with rfl | rfl
      · exact hk.1 0 _ rfl
      · exact hk.1 1 _ rfl)
    (rgA ns a lo hi) (most ≤ ns.length + 352) ⟨rfl, rfl⟩
    (fun k ns' f h => by
      match k, h with
      | 0, h => rw [h.1]; exact Ext.refl _
      | 1, h => exact Gd.ext h
      | k + 2, h => exact Gd.ext h)
    (fun k hk' ns' f W' hA hS hH => by
      have : k = 0 ∨ k = 1 := by omega
      rcases this with rfl | rfl
      · refine (restL_any hS a lo hi (rn lo hi) s nb ha hlo hhi hn ⟨fun k hk => Or.inr ⟨by omega, by omega⟩, Or.inr ⟨by omega, by omega⟩⟩ (hv.hold hH ⟨fun k hk => Or.inr ⟨by omega, by omega⟩, Or.inr ⟨by omega, by omega⟩⟩)).mono ?_
        intro e w' hR
        obtain ⟨R, hG, hL, -⟩ := hR.lv hn
        obtain ⟨x, y, z⟩ := rg_step0 hA hL
        exact ⟨R, hG, x, y, z⟩
      · have hr := fl_rise 0 0 0 lo lo a (16 - rn lo hi) (by omega)
        refine (ecubeL_any p c (c + 1) v W' (hH.cell (Or.inr ⟨by omega, by omega⟩) c0) (hH.cell (Or.inr ⟨by omega, by omega⟩) c1) _ most _ (sCubeAt hS hr LV hH (fun g h1 h2 => Or.inr ⟨h1, h2⟩))).mono ?_
        intro e w' hG
        obtain ⟨x, y, z⟩ := rg_step1 ha hlo hhi hA rfl
        exact ⟨_, hG, x, y, z⟩)
    (fun k hk' => by
      have : k = 0 ∨ k = 1 := by omega
      rcases this with rfl | rfl
      · exact Try.call58
      · exact Try.call60)
  refine M.mono ?_
  rintro e w' ⟨R, ⟨g1, g2, g3⟩, hn0, hs⟩
  refine ⟨R, ⟨g1, g2.less (fun k hk => Or.inl hk), (Hold.of hB).trans (g3.less (fun k hk => Or.inl hk))⟩, ⟨fun q hq => hs q hq, fun h => ?_⟩, fun h => (hn0 h).1⟩
  obtain ⟨x, y⟩ := hn0 h
  refine ⟨y, ?_, ?_⟩
  · rw [x]; exact Ext.refl _
  · rw [x]; exact S0.wf
set_option maxRecDepth 100000 in
set_option maxHeartbeats 4000000 in
theorem range_any {Z : Nat → Prop} {p most : Nat} {W : World} {ns : List Nd} (hS : Sta Z p W most ns) (a lo hi : Nat) (ha : a = 72 ∨ a = 88) (hlo : lo < 65536) (hhi : hi < 65536) (hle : lo ≤ hi) :
    Calls Try.prog 15 #[.pointer (some ⟨p, 0, none⟩), .int .i64 (a : Nat), .agg #[.int .u16 (lo : Nat), .int .u16 (hi : Nat)]] W (RgRet Z p most ns a lo hi W) := by
  have S0 := Lib.hid hS
  have hn := rn_le hlo hhi
  have hhb : HB 0 0 0 lo lo := ⟨by omega, by omega, by omega, by omega, by omega⟩
  have CM := Lib.hid (fun w => common_any lo hi hlo hhi w)
  have CF := Lib.hid (fun w => first_at 0 0 0 lo lo hhb a (16 - rn lo hi) (by omega) w)
  have CR := Lib.hid (fun w => rest_any p a lo hi hlo hhi w)
  have CC := Lib.hid (fun (v : Value) (w : World) (h : ∃ a n c, v = .slice a n c) => ecube_any p v w h)
  have hgt : ¬ (lo : Int) > (hi : Int) := by omega
  have hgt' : ¬ (hi : Int) < (lo : Int) := by omega
  have ha104 : a + 16 ≤ 104 := by omega
  have ha' : (a : Int) = 72 ∨ (a : Int) = 88 := by omega
  clear hS hhb
  go_enter Try.func15, Try.ntmps15
  go_upto_region 1 with fail
  refine at_code (S := fun w => Blk w W.heap.size [.int .u16 (lo : Nat), .int .u16 (hi : Nat)] ∧ Below W.heap.size W w) ⟨Blk.new _ _ _, bel_al (Below.refl _ _) _⟩ (fun W1 hW => ?_)
  obtain ⟨hX, hb⟩ := hW
  obtain ⟨x_0, x_1⟩ : _ ∧ _ := ⟨hX.1 0 _ rfl, hX.1 1 _ rfl⟩
  have B1 := Lib.hid hb
  have X1 := Lib.hid hX
  clear hX hb
  rcases ha with rfl | rfl
  · go_upto_region 7 with fail
    refine wp_region_noPanic ?_
    refine wp_region_along (S := fun w' => Below W1.heap.size W1 w' ∧ ∀ b o, (W1.cell? ⟨b, o, none⟩).isSome = true → w'.cell? ⟨b, o, none⟩ = W1.cell? ⟨b, o, none⟩) ([(0, true), (1, true), (2, true), (3, true), (4, true), (5, true), (6, true), (7, false), (8, false), (9, true)]) (by kernel_rfl) (by as_aux_lemma => kernel_rfl) (by kernel_rfl) (by kernel_rfl) (by as_aux_lemma => kernel_rfl) (by as_aux_lemma => kernel_rfl) (fun _ _ _ _ _ h => h) (below_kb (Below.refl _ _).drew) (fun hH => ?_)
    simp only [stepsOf, pickOp]
    iterate 7 (first | (refine along_skip (by rfl) ?_; try simp only [Act.put, List.setIfInBounds_toArray, List.set_cons_zero, List.set_cons_succ]) | (refine along_pure ?_ (by rfl) (fun w hSw => ?_) ?_; rotate_left; ((try dsimp only at hSw); go_simp; try with_reducible rfl); try simp only [Act.put, List.setIfInBounds_toArray, List.set_cons_zero, List.set_cons_succ]))
    refine along_bar (fun K hK => ?_)
    go_simp
    refine (CM.out _).mono ?_
    rintro e w2 ⟨rfl, hbx⟩
    try go_wp2_with fail
    refine hK.out _ _ (below_kb (below_on hH.1 hbx)) (fun hH' => ?_)
    clear hK K hH
    have hH := hH'
    clear hH'
    have B2 := Lib.hid hH.1
    clear hbx
    try simp only [Act.put, List.setIfInBounds_toArray, List.set_cons_zero, List.set_cons_succ]
    refine along_bar (fun K hK => ?_)
    go_simp
    refine (CF.out _).mono ?_
    rintro e w3 ⟨v, rfl, hL, hbx⟩
    try go_wp2_with fail
    refine hK.out _ _ (below_kb (below_on hH.1 hbx)) (fun hH' => ?_)
    clear hK K hH
    have hH := hH'
    clear hH'
    have B3 := Lib.hid (show Below W.heap.size W w3 from (B1.out.trans (hH.1.mono B1.out.size)))
    have L3 := Lib.hid hL
    have B23 := Lib.hid (show W1.heap.size ≤ w2.heap.size from B2.out.size)
    clear hbx hL B2
    try simp only [Act.put, List.setIfInBounds_toArray, List.set_cons_zero, List.set_cons_succ]
    iterate 1 (first | (refine along_skip (by rfl) ?_; try simp only [Act.put, List.setIfInBounds_toArray, List.set_cons_zero, List.set_cons_succ]) | (refine along_pure ?_ (by rfl) (fun w hSw => ?_) ?_; rotate_left; ((try dsimp only at hSw); go_simp; try with_reducible rfl); try simp only [Act.put, List.setIfInBounds_toArray, List.set_cons_zero, List.set_cons_succ]))
    refine along_end (NoPanic.normal ?_)
    have X3 := X1.out.on hH.1
    obtain ⟨y_0, y_1⟩ : _ ∧ _ := ⟨X3.1 0 _ rfl, X3.1 1 _ rfl⟩
    clear hH X3 x_0 x_1 X1 CM CF
    go_wp2_with fail
    refine (CR.out _).mono ?_
    rintro e w4 ⟨nb, rfl, hV, hn1, hn2, hb4⟩
    have V4 := Lib.hid hV
    have N4 := Lib.hid (And.intro hn1 hn2)
    have B4 := Lib.hid hb4
    clear hV hn1 hn2 hb4 CR y_0 y_1
    go_wp2_with fail
    refine (CC.out v _ L3.out.slice).mono ?_
    rintro e w5 ⟨rfl, hc0, hc1, hz5, hb5⟩
    have C5 := Lib.hid (And.intro hc0 (And.intro hc1 hz5))
    have B5 := Lib.hid hb5
    clear hc0 hc1 hz5 hb5 CC
    go_wp2_with fail
    refine at_calls3 (S := fun V => Blk V w5.heap.size [.func (.func 58) #[] (rsCap w3.heap.size nb), .func (.func 60) #[] #[.pointer (some ⟨w4.heap.size, 0, none⟩), .pointer (some ⟨w4.heap.size + 1, 0, none⟩)]] ∧ Below w5.heap.size w5 V ∧ V.heap.size = w5.heap.size + 1) ⟨Blk.new _ _ _, bel_al (Below.refl _ _) _, by simp⟩ (fun V hV => ?_)
    obtain ⟨hk, hb, hz⟩ := hV
    have f1 : ∀ (o : Nat) (c : Value), w5.cell? ⟨o, 0, none⟩ = some c → V.cell? ⟨o, 0, none⟩ = some c := fun o c h => (hb.cell (p := ⟨o, 0, none⟩) (cell_lt (o := 0) (by rw [h]; rfl))).trans h
    have z3 := B3.out.size
    have z4 := B4.out.size
    have z5 := B5.out.size
    have zb := hb.size
    have CT := Lib.hid (range_meet S0.out B3.out (bel_on' (bel_on' B4.out B5.out) hb) (L3.out.base (by have := B23.out; have := B1.out.size; omega)) ((V4.out.on B5.out).on hb) z3 N4.out.1 (by have := N4.out.2; omega) (f1 _ _ C5.out.1) (f1 _ _ C5.out.2.1) (by omega) (by have := C5.out.2.2; omega) hk (by omega) (by omega) ha104 hlo hhi)
    clear hk hb hz f1 z3 z4 z5 zb V4 N4 B4 C5 B5 B3 L3 S0
    refine CT.out.mono ?_
    rintro e w6 ⟨R, ⟨rfl, hS6, hH6⟩, hL6, hN6⟩
    have FIN := Lib.hid (And.intro hS6 (And.intro hH6 (And.intro hL6 hN6)))
    clear hS6 hH6 hL6 hN6 CT
    go_wp2
    go_ret2
    exact ⟨R, ⟨rfl, FIN.out.1, FIN.out.2.1⟩, FIN.out.2.2.1, FIN.out.2.2.2⟩
  · go_upto_region 7 with fail
    refine wp_region_noPanic ?_
    refine wp_region_along (S := fun w' => Below W1.heap.size W1 w' ∧ ∀ b o, (W1.cell? ⟨b, o, none⟩).isSome = true → w'.cell? ⟨b, o, none⟩ = W1.cell? ⟨b, o, none⟩) ([(0, true), (1, true), (2, true), (3, true), (4, true), (5, true), (6, true), (7, false), (8, false), (9, true)]) (by kernel_rfl) (by as_aux_lemma => kernel_rfl) (by kernel_rfl) (by kernel_rfl) (by as_aux_lemma => kernel_rfl) (by as_aux_lemma => kernel_rfl) (fun _ _ _ _ _ h => h) (below_kb (Below.refl _ _).drew) (fun hH => ?_)
    simp only [stepsOf, pickOp]
    iterate 7 (first | (refine along_skip (by rfl) ?_; try simp only [Act.put, List.setIfInBounds_toArray, List.set_cons_zero, List.set_cons_succ]) | (refine along_pure ?_ (by rfl) (fun w hSw => ?_) ?_; rotate_left; ((try dsimp only at hSw); go_simp; try with_reducible rfl); try simp only [Act.put, List.setIfInBounds_toArray, List.set_cons_zero, List.set_cons_succ]))
    refine along_bar (fun K hK => ?_)
    go_simp
    refine (CM.out _).mono ?_
    rintro e w2 ⟨rfl, hbx⟩
    try go_wp2_with fail
    refine hK.out _ _ (below_kb (below_on hH.1 hbx)) (fun hH' => ?_)
    clear hK K hH
    have hH := hH'
    clear hH'
    have B2 := Lib.hid hH.1
    clear hbx
    try simp only [Act.put, List.setIfInBounds_toArray, List.set_cons_zero, List.set_cons_succ]
    refine along_bar (fun K hK => ?_)
    go_simp
    refine (CF.out _).mono ?_
    rintro e w3 ⟨v, rfl, hL, hbx⟩
    try go_wp2_with fail
    refine hK.out _ _ (below_kb (below_on hH.1 hbx)) (fun hH' => ?_)
    clear hK K hH
    have hH := hH'
    clear hH'
    have B3 := Lib.hid (show Below W.heap.size W w3 from (B1.out.trans (hH.1.mono B1.out.size)))
    have L3 := Lib.hid hL
    have B23 := Lib.hid (show W1.heap.size ≤ w2.heap.size from B2.out.size)
    clear hbx hL B2
    try simp only [Act.put, List.setIfInBounds_toArray, List.set_cons_zero, List.set_cons_succ]
    iterate 1 (first | (refine along_skip (by rfl) ?_; try simp only [Act.put, List.setIfInBounds_toArray, List.set_cons_zero, List.set_cons_succ]) | (refine along_pure ?_ (by rfl) (fun w hSw => ?_) ?_; rotate_left; ((try dsimp only at hSw); go_simp; try with_reducible rfl); try simp only [Act.put, List.setIfInBounds_toArray, List.set_cons_zero, List.set_cons_succ]))
    refine along_end (NoPanic.normal ?_)
    have X3 := X1.out.on hH.1
    obtain ⟨y_0, y_1⟩ : _ ∧ _ := ⟨X3.1 0 _ rfl, X3.1 1 _ rfl⟩
    clear hH X3 x_0 x_1 X1 CM CF
    go_wp2_with fail
    refine (CR.out _).mono ?_
    rintro e w4 ⟨nb, rfl, hV, hn1, hn2, hb4⟩
    have V4 := Lib.hid hV
    have N4 := Lib.hid (And.intro hn1 hn2)
    have B4 := Lib.hid hb4
    clear hV hn1 hn2 hb4 CR y_0 y_1
    go_wp2_with fail
    refine (CC.out v _ L3.out.slice).mono ?_
    rintro e w5 ⟨rfl, hc0, hc1, hz5, hb5⟩
    have C5 := Lib.hid (And.intro hc0 (And.intro hc1 hz5))
    have B5 := Lib.hid hb5
    clear hc0 hc1 hz5 hb5 CC
    go_wp2_with fail
    refine at_calls3 (S := fun V => Blk V w5.heap.size [.func (.func 58) #[] (rsCap w3.heap.size nb), .func (.func 60) #[] #[.pointer (some ⟨w4.heap.size, 0, none⟩), .pointer (some ⟨w4.heap.size + 1, 0, none⟩)]] ∧ Below w5.heap.size w5 V ∧ V.heap.size = w5.heap.size + 1) ⟨Blk.new _ _ _, bel_al (Below.refl _ _) _, by simp⟩ (fun V hV => ?_)
    obtain ⟨hk, hb, hz⟩ := hV
    have f1 : ∀ (o : Nat) (c : Value), w5.cell? ⟨o, 0, none⟩ = some c → V.cell? ⟨o, 0, none⟩ = some c := fun o c h => (hb.cell (p := ⟨o, 0, none⟩) (cell_lt (o := 0) (by rw [h]; rfl))).trans h
    have z3 := B3.out.size
    have z4 := B4.out.size
    have z5 := B5.out.size
    have zb := hb.size
    have CT := Lib.hid (range_meet S0.out B3.out (bel_on' (bel_on' B4.out B5.out) hb) (L3.out.base (by have := B23.out; have := B1.out.size; omega)) ((V4.out.on B5.out).on hb) z3 N4.out.1 (by have := N4.out.2; omega) (f1 _ _ C5.out.1) (f1 _ _ C5.out.2.1) (by omega) (by have := C5.out.2.2; omega) hk (by omega) (by omega) ha104 hlo hhi)
    clear hk hb hz f1 z3 z4 z5 zb V4 N4 B4 C5 B5 B3 L3 S0
    refine CT.out.mono ?_
    rintro e w6 ⟨R, ⟨rfl, hS6, hH6⟩, hL6, hN6⟩
    have FIN := Lib.hid (And.intro hS6 (And.intro hH6 (And.intro hL6 hN6)))
    clear hS6 hH6 hL6 hN6 CT
    go_wp2
    go_ret2
    exact ⟨R, ⟨rfl, FIN.out.1, FIN.out.2.1⟩, FIN.out.2.2.1, FIN.out.2.2.2⟩
end Go.Proofs.Ytggcbklififcgab
