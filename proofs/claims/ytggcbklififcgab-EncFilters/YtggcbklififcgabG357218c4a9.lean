/- Texts joined, in their order: FH, FI, FE, P7, FJ, RO, RG. -/
import Derived.Test.YtggcbklififcgabG9ee2ea645c
import Derived.Test.YtggcbklififcgabGc702e08ada
import Derived.Test.YtggcbklififcgabGa3cf92b948
import Derived.Test.YtggcbklififcgabGb914f46262
import Derived.ProofKit
import Derived.OpenShut
import Derived.Lib.SmallJoins
import Derived.LaidMore
import Derived.Stop.Joined
import Derived.Test.YtggcbklififcgabG7e26c7d02b
/- EncFilters's walk: filters that may be, one and the same. -/
namespace Go.Proofs.Ytggcbklififcgab
open Go.RowKit
set_option linter.unusedVariables false

set_option maxRecDepth 100000 in
set_option maxHeartbeats 16000000 in
theorem ei_same {P1 : Nat → List Nd → Prop} {P2 : Nat → Nat → List Nd → Prop} (a n b m p l h u v : Int) (M1 M2 : Hd → Bool) (L : List Hd) (la : Option Addr) (len lc : Nat) (hlen : L.length = len) (hshort : ¬ (60 : Int) < (len : Int)) (hcap : len ≤ lc) (W : World) (hL : Rw W la (L.flatMap Hd.cells)) (hok : ∀ z ∈ L, z.Ok)
    (CF1 : Hid (∀ Z p0 w, Sta Z p0 w 262144 [bot, top] → Calls Try.prog 17 #[.pointer (some ⟨p0, 0, none⟩), fv a n b m p l h u v] w fun e w' => ∃ (g : Nat) (ns : List Nd), e = .returned (.tuple #[.int .i64 (g : Nat), .int .i64 0]) ∧ Sta Z p0 w' 262144 ns ∧ Hold Z w w' ∧ P1 g ns))
    (CF2 : Hid (∀ Z p0 w g1 ns1, P1 g1 ns1 → Sta Z p0 w 262144 ns1 → Calls Try.prog 17 #[.pointer (some ⟨p0, 0, none⟩), fv a n b m p l h u v] w fun e w' => ∃ (g : Nat) (ns : List Nd), e = .returned (.tuple #[.int .i64 (g1 : Nat), .int .i64 0]) ∧ Sta Z p0 w' 262144 ns ∧ Hold Z w w' ∧ P2 g1 g ns))
    (CK1 : Hid (∀ w, Calls Try.prog 18 #[fv a n b m p l h u v] w fun e w' => e = .returned (.int .i64 0) ∧ Below w.heap.size w w'))
    (CK2 : Hid (∀ w, Calls Try.prog 18 #[fv a n b m p l h u v] w fun e w' => e = .returned (.int .i64 0) ∧ Below w.heap.size w w'))
    (CI1' : Hid (∀ Z p0 w (z : Hd) g1 g2 ns, z.Ok → P2 g1 g2 ns → Sta Z p0 w 262144 ns → Calls Try.prog 12 #[.pointer (some ⟨p0, 0, none⟩), .int .i64 (g1 : Nat), hv z.d z.s z.q z.x z.y] w fun e w' => e = .returned (.bool (M1 z)) ∧ Below w.heap.size w w'))
    (CI2' : Hid (∀ Z p0 w (z : Hd) g1 g2 ns, z.Ok → P2 g1 g2 ns → Sta Z p0 w 262144 ns → Calls Try.prog 12 #[.pointer (some ⟨p0, 0, none⟩), .int .i64 (g1 : Nat), hv z.d z.s z.q z.x z.y] w fun e w' => e = .returned (.bool (M1 z)) ∧ Below w.heap.size w w'))
    (CM1' : Hid (∀ (z : Hd) w, z.Ok → Calls Try.prog 19 #[fv a n b m p l h u v, hv z.d z.s z.q z.x z.y] w fun e w' => e = .returned (.bool (M1 z)) ∧ Below w.heap.size w w'))
    (CM2' : Hid (∀ (z : Hd) w, z.Ok → Calls Try.prog 19 #[fv a n b m p l h u v, hv z.d z.s z.q z.x z.y] w fun e w' => e = .returned (.bool (M1 z)) ∧ Below w.heap.size w w')) :
    Calls Try.prog 4 #[fv a n b m p l h u v, fv a n b m p l h u v, .slice la len lc] W fun e w' => e = .returned (.bool true) ∧ Below W.heap.size W w' := by
  have CW := Lib.hid (fun w => awake_any w)
  have CN := Lib.hid (fun w => sNew 262144 (by omega) (by omega) w)
  have HL := Lib.hid hL
  have HO := Lib.hid hok
  have HN := Lib.hid hlen
  clear hL hok hlen
  unfold fv hv at *
  go_enter Try.func4, Try.ntmps4
  go_upto_region 1 with fail
  refine at_code (S := Fx2 W (fc a n b m p l h u v) (fc a n b m p l h u v)) ⟨?_, ?_, bel_al (bel_al (Below.refl _ _) _) _, by simp⟩ (fun W1 hW => ?_)
  · exact (Blk.new W _ (fc a n b m p l h u v)).on (bel_al (Below.refl _ _) _)
  · have k := Blk.new (W.alloc (.cells (fc a n b m p l h u v).toArray 47)) 47 (fc a n b m p l h u v)
    rw [World.size_alloc] at k
    exact k
  have X1 := Lib.hid hW
  clear hW
  go_wp2_with fail
  refine (CN.out _).mono ?_
  rintro e w2 ⟨p0, rfl, hS, hb⟩
  obtain ⟨Z, hZ⟩ : ∃ Z : Nat → Prop, (fun k => k < W1.heap.size) = Z := ⟨_, rfl⟩
  rw [hZ] at hS
  have HZ : Hid (∀ k, k < W.heap.size + 2 → Z k) := Lib.hid (by rw [← hZ]; intro k hk; have := X1.out.2.2.2; show k < W1.heap.size; omega)
  have HZ2 : Hid (∀ k, k < W1.heap.size → Z k) := Lib.hid (by rw [← hZ]; exact fun k hk => hk)
  have S2 := Lib.hid hS
  have X2 := Lib.hid (X1.out.on hb)
  have Q2 := Lib.hid hb
  clear hS hb CN hZ
  obtain ⟨x_0, x_1, x_2, x_3, x_4, x_5, x_6, x_7, x_8⟩ := cells9 X2.out.1
  go_wp2_with fail
  refine (CF1.out Z p0 w2 S2.out).mono ?_
  rintro e w3 ⟨g1, ns1, rfl, hS, hH, hP⟩
  have S3 := Lib.hid hS
  have X3 := Lib.hid (X2.out.hold hH HZ.out)
  have Q3 := Lib.hid (Q2.out.trans (hH.below Q2.out.size HZ2.out))
  have G3 := Lib.hid hP
  clear hS hH hP CF1 X2 S2 Q2
  clear x_0 x_1 x_2 x_3 x_4 x_5 x_6 x_7 x_8
  obtain ⟨y_0, y_1, y_2, y_3, y_4, y_5, y_6, y_7, y_8⟩ := cells9 X3.out.2.1
  go_wp2_with fail
  refine (CF2.out Z p0 w3 g1 ns1 G3.out S3.out).mono ?_
  rintro e w4 ⟨g2, ns2, rfl, hS, hH, hP⟩
  have S4 := Lib.hid hS
  have X4 := Lib.hid (X3.out.hold hH HZ.out)
  have Q4 := Lib.hid (Q3.out.trans (hH.below Q3.out.size HZ2.out))
  have G4 := Lib.hid hP
  clear hS hH hP CF2 X3 S3 Q3 G3
  clear y_0 y_1 y_2 y_3 y_4 y_5 y_6 y_7 y_8
  obtain ⟨x_0, x_1, x_2, x_3, x_4, x_5, x_6, x_7, x_8⟩ := cells9 X4.out.1
  go_wp2_with fail
  refine (CK1.out _).mono ?_
  rintro e w5 ⟨rfl, hbx⟩
  have S5 := Lib.hid (S4.out.on hbx)
  have X5 := Lib.hid (X4.out.on hbx)
  have Q5 := Lib.hid (bel_on' Q4.out hbx)
  clear hbx CK1 X4 S4 Q4
  clear x_0 x_1 x_2 x_3 x_4 x_5 x_6 x_7 x_8
  obtain ⟨y_0, y_1, y_2, y_3, y_4, y_5, y_6, y_7, y_8⟩ := cells9 X5.out.2.1
  go_wp2_with fail
  refine (CK2.out _).mono ?_
  rintro e w6 ⟨rfl, hbx⟩
  have S6 := Lib.hid (S5.out.on hbx)
  have X6 := Lib.hid (X5.out.on hbx)
  have Q6 := Lib.hid (bel_on' Q5.out hbx)
  clear hbx CK2 X5 S5 Q5
  clear y_0 y_1 y_2 y_3 y_4 y_5 y_6 y_7 y_8
  have CI1 := Lib.hid (fun (w : World) (z : Hd) (hz : z.Ok) (hs : Sta Z p0 w 262144 ns2) => CI1'.out Z p0 w z g1 g2 ns2 hz G4.out hs)
  have CI2 := Lib.hid (fun (w : World) (z : Hd) (hz : z.Ok) (hs : Sta Z p0 w 262144 ns2) => CI2'.out Z p0 w z g1 g2 ns2 hz G4.out hs)
  clear CI1' CI2' G4
  go_wp2_with fail
  go_loopw [56] (fun iv wr => ∃ k : Nat, iv = .int .i64 (k : Nat) ∧ k ≤ len ∧ Hid (Below w6.heap.size w6 wr)) (fun iv _ => len - (intOf iv).toNat)
  case atStart => exact ⟨0, rfl, Nat.zero_le _, Lib.hid (Below.refl _ _)⟩
  case round =>
    obtain ⟨k, rfl, hk, hB⟩ := hrel
    by_cases hkn : k < len
    · obtain ⟨z, hz⟩ : ∃ z, L[k]? = some z := ⟨_, List.getElem?_eq_getElem (by have := HN.out; omega)⟩
      have hzo := HO.out z (List.mem_of_getElem? hz)
      have Lr := (HL.out.on X1.out.2.2.1).on ((Q6.out.trans (hB.out.mono Q6.out.size)))
      obtain ⟨bb, off, rfl⟩ := Lr.elemAd 4 Hd.cells_len hz
      have k0 : wr.cell? ⟨bb, off + k * 5, none⟩ = some (.int .u32 z.d) := Lr.elem 5 Hd.cells_len hz 0 rfl
      have k1 : wr.cell? ⟨bb, off + k * 5 + 1, none⟩ = some (.int .u32 z.s) := Lr.elem 5 Hd.cells_len hz 1 rfl
      have k2 : wr.cell? ⟨bb, off + k * 5 + 2, none⟩ = some (.int .u8 z.q) := Lr.elem 5 Hd.cells_len hz 2 rfl
      have k3 : wr.cell? ⟨bb, off + k * 5 + 3, none⟩ = some (.int .u16 z.x) := Lr.elem 5 Hd.cells_len hz 3 rfl
      have k4 : wr.cell? ⟨bb, off + k * 5 + 4, none⟩ = some (.int .u16 z.y) := Lr.elem 5 Hd.cells_len hz 4 rfl
      have hki : (k : Int) < (len : Int) := by omega
      have hkc : k < lc := by omega
      have hwk : IntKind.i64.wrap ((k : Int) + 1) = ((k + 1 : Nat) : Int) := by rw [IntKind.wrap_i64]; omega
      have CI1z := Lib.hid (fun (w : World) (hs : Sta Z p0 w 262144 ns2) => CI1.out w z hzo hs)
      have CI2z := Lib.hid (fun (w : World) (hs : Sta Z p0 w 262144 ns2) => CI2.out w z hzo hs)
      have CM1z := Lib.hid (fun (w : World) => CM1'.out z w hzo)
      have CM2z := Lib.hid (fun (w : World) => CM2'.out z w hzo)
      obtain ⟨T1, hT1e⟩ : ∃ T, M1 z = T := ⟨_, rfl⟩
      rw [hT1e] at CI1z CI2z CM1z CM2z
      have hT1 : (T1 != T1) = false := by cases T1 <;> rfl
      clear hz hzo Lr hT1e
      go_upto_region 15 with fail
      refine at_code (S := fun V => Blk V wr.heap.size (hc z.d z.s z.q z.x z.y) ∧ Below wr.heap.size wr V) ⟨Blk.new _ _ _, bel_al (Below.refl _ _) _⟩ (fun wr2 hV => ?_)
      obtain ⟨hV1, hV2⟩ := hV
      have hb6 : Below w6.heap.size w6 wr2 := bel_on' hB.out hV2
      have X8 := Lib.hid (X6.out.on hb6)
      have S8 := Lib.hid (S6.out.on hb6)
      have B8 := Lib.hid hb6
      obtain ⟨z_0, z_1, z_2, z_3, z_4⟩ := cells5 hV1
      obtain ⟨x_0, x_1, x_2, x_3, x_4, x_5, x_6, x_7, x_8⟩ := cells9 X8.out.1
      obtain ⟨y_0, y_1, y_2, y_3, y_4, y_5, y_6, y_7, y_8⟩ := cells9 X8.out.2.1
      clear hV1 hV2 hb6 k0 k1 k2 k3 k4 hB
      
      
      
      refine wp_region_noPanic ?_
      refine wp_region_along (S := fun w' => Below wr2.heap.size wr2 w' ∧ ∀ b o, (wr2.cell? ⟨b, o, none⟩).isSome = true → w'.cell? ⟨b, o, none⟩ = wr2.cell? ⟨b, o, none⟩) ([(0, true), (1, true), (2, true), (4, true), (5, true), (3, false), (6, false), (7, true), (8, true), (9, true), (10, true), (11, true), (13, true), (14, true), (12, false), (15, false)] ++ ([(16, true), (17, true), (18, true), (19, true), (20, true), (21, true), (22, true), (23, true), (24, true), (26, true), (27, true), (25, false), (28, false), (29, true), (30, true), (31, true)])) (by kernel_rfl) (by as_aux_lemma => kernel_rfl) (by kernel_rfl) (by kernel_rfl) (alongPre_append _ _ _ (by as_aux_lemma => kernel_rfl) (by as_aux_lemma => kernel_rfl)) (by as_aux_lemma => kernel_rfl) (fun _ _ _ _ _ h => h) (below_kb (Below.refl _ _).drew) (fun hH => ?_)
      simp only [List.cons_append, List.nil_append, stepsOf, pickOp]
      iterate 5 (first | (refine along_skip (by rfl) ?_; try simp only [Act.put, List.setIfInBounds_toArray, List.set_cons_zero, List.set_cons_succ]) | (refine along_pure ?_ (by rfl) (fun w hSw => ?_) ?_; rotate_left; ((try dsimp only at hSw); go_simp; try with_reducible rfl); try simp only [Act.put, List.setIfInBounds_toArray, List.set_cons_zero, List.set_cons_succ]))
      refine along_bar (fun K hK => ?_)
      go_simp
      refine (CI1z.out wr2.drew (S8.out.on (Below.refl _ _).drew)).mono ?_
      rintro e wa ⟨rfl, hbx⟩
      try go_wp2_with fail
      refine hK.out _ _ (below_kb (below_on hH.1 hbx)) (fun hH' => ?_)
      clear hK K hH
      have hH := hH'
      clear hH'
      have Bwa := Lib.hid hH.1
      clear hbx
      try simp only [Act.put, List.setIfInBounds_toArray, List.set_cons_zero, List.set_cons_succ]
      refine along_bar (fun K hK => ?_)
      go_simp
      refine (CM1z.out _).mono ?_
      rintro e wb ⟨rfl, hbx⟩
      try go_wp2_with fail
      refine hK.out _ _ (below_kb (below_on hH.1 hbx)) (fun hH' => ?_)
      clear hK K hH
      have hH := hH'
      clear hH'
      have Bwb := Lib.hid hH.1
      clear hbx
      try simp only [Act.put, List.setIfInBounds_toArray, List.set_cons_zero, List.set_cons_succ]
      iterate 7 (first | (refine along_skip (by rfl) ?_; try simp only [Act.put, List.setIfInBounds_toArray, List.set_cons_zero, List.set_cons_succ]) | (refine along_pure ?_ (by rfl) (fun w hSw => ?_) ?_; rotate_left; ((try dsimp only at hSw); go_simp; try with_reducible rfl); try simp only [Act.put, List.setIfInBounds_toArray, List.set_cons_zero, List.set_cons_succ]))
      refine along_bar (fun K hK => ?_)
      go_simp
      refine (CI2z.out wb (S8.out.on Bwb.out)).mono ?_
      rintro e wd ⟨rfl, hbx⟩
      try go_wp2_with fail
      refine hK.out _ _ (below_kb (below_on hH.1 hbx)) (fun hH' => ?_)
      clear hK K hH
      have hH := hH'
      clear hH'
      have Bwd := Lib.hid hH.1
      clear hbx
      try simp only [Act.put, List.setIfInBounds_toArray, List.set_cons_zero, List.set_cons_succ]
      refine along_bar (fun K hK => ?_)
      go_simp
      refine (CM2z.out _).mono ?_
      rintro e we ⟨rfl, hbx⟩
      try go_wp2_with fail
      refine hK.out _ _ (below_kb (below_on hH.1 hbx)) (fun hH' => ?_)
      clear hK K hH
      have hH := hH'
      clear hH'
      have Bwe := Lib.hid hH.1
      clear hbx
      try simp only [Act.put, List.setIfInBounds_toArray, List.set_cons_zero, List.set_cons_succ]
      iterate 11 (first | (refine along_skip (by rfl) ?_; try simp only [Act.put, List.setIfInBounds_toArray, List.set_cons_zero, List.set_cons_succ]) | (refine along_pure ?_ (by rfl) (fun w hSw => ?_) ?_; rotate_left; ((try dsimp only at hSw); go_simp; try with_reducible rfl); try simp only [Act.put, List.setIfInBounds_toArray, List.set_cons_zero, List.set_cons_succ]))
      refine along_bar (fun K hK => ?_)
      go_simp
      refine (CM1z.out _).mono ?_
      rintro e wf ⟨rfl, hbx⟩
      try go_wp2_with fail
      refine hK.out _ _ (below_kb (below_on hH.1 hbx)) (fun hH' => ?_)
      clear hK K hH
      have hH := hH'
      clear hH'
      have Bwf := Lib.hid hH.1
      clear hbx
      try simp only [Act.put, List.setIfInBounds_toArray, List.set_cons_zero, List.set_cons_succ]
      refine along_bar (fun K hK => ?_)
      go_simp
      refine (CM2z.out _).mono ?_
      rintro e wg ⟨rfl, hbx⟩
      try go_wp2_with fail
      refine hK.out _ _ (below_kb (below_on hH.1 hbx)) (fun hH' => ?_)
      clear hK K hH
      have hH := hH'
      clear hH'
      have Bwg := Lib.hid hH.1
      clear hbx
      try simp only [Act.put, List.setIfInBounds_toArray, List.set_cons_zero, List.set_cons_succ]
      iterate 3 (first | (refine along_skip (by rfl) ?_; try simp only [Act.put, List.setIfInBounds_toArray, List.set_cons_zero, List.set_cons_succ]) | (refine along_pure ?_ (by rfl) (fun w hSw => ?_) ?_; rotate_left; ((try dsimp only at hSw); go_simp; try with_reducible rfl); try simp only [Act.put, List.setIfInBounds_toArray, List.set_cons_zero, List.set_cons_succ]))
      refine along_end (NoPanic.normal ?_)
      have B9 := Lib.hid (B8.out.trans (hH.1.mono B8.out.size))
      clear hH
      go_wp2_with fail
      refine ⟨⟨k + 1, ?_, by omega, B9⟩, by simp [intOf] <;> omega⟩
      first | rfl | rw [hwk]
    · have hkn' : k = len := by omega
      subst hkn'
      have X7 := Lib.hid (X6.out.on hB.out)
      go_wp2_with fail
      refine (CW.out _).mono ?_
      rintro e wa ⟨rfl, hbx⟩
      have X9 := Lib.hid (X7.out.on hbx)
      obtain ⟨x_0, x_1, x_2, x_3, x_4, x_5, x_6, x_7, x_8⟩ := cells9 X9.out.1
      obtain ⟨y_0, y_1, y_2, y_3, y_4, y_5, y_6, y_7, y_8⟩ := cells9 X9.out.2.1
      
      
      
      clear hbx X7
      go_wp2
      go_ret
      exact ⟨rfl, X9.out.2.2.1⟩
end Go.Proofs.Ytggcbklififcgab
/- EncFilters's walk: filters that may be, two of them. -/
namespace Go.Proofs.Ytggcbklififcgab
open Go.RowKit
set_option linter.unusedVariables false

set_option maxRecDepth 100000 in
set_option maxHeartbeats 16000000 in
theorem ei_two {P1 : Nat → List Nd → Prop} {P2 : Nat → Nat → List Nd → Prop} (a n b m p l h u v a' n' b' m' p' l' h' u' v' : Int) (M1 M2 : Hd → Bool) (L : List Hd) (la : Option Addr) (len lc : Nat) (hlen : L.length = len) (hshort : ¬ (60 : Int) < (len : Int)) (hcap : len ≤ lc) (hgg : ∀ g1 g2 ns, P2 g1 g2 ns → g1 ≠ g2) (heq : Hid (∀ w, (Op.equalIn 10000 47 (fv a n b m p l h u v) (fv a' n' b' m' p' l' h' u' v')).run Try.prog w = .ok false w)) (W : World) (hL : Rw W la (L.flatMap Hd.cells)) (hok : ∀ z ∈ L, z.Ok)
    (CF1 : Hid (∀ Z p0 w, Sta Z p0 w 262144 [bot, top] → Calls Try.prog 17 #[.pointer (some ⟨p0, 0, none⟩), fv a n b m p l h u v] w fun e w' => ∃ (g : Nat) (ns : List Nd), e = .returned (.tuple #[.int .i64 (g : Nat), .int .i64 0]) ∧ Sta Z p0 w' 262144 ns ∧ Hold Z w w' ∧ P1 g ns))
    (CF2 : Hid (∀ Z p0 w g1 ns1, P1 g1 ns1 → Sta Z p0 w 262144 ns1 → Calls Try.prog 17 #[.pointer (some ⟨p0, 0, none⟩), fv a' n' b' m' p' l' h' u' v'] w fun e w' => ∃ (g : Nat) (ns : List Nd), e = .returned (.tuple #[.int .i64 (g : Nat), .int .i64 0]) ∧ Sta Z p0 w' 262144 ns ∧ Hold Z w w' ∧ P2 g1 g ns))
    (CK1 : Hid (∀ w, Calls Try.prog 18 #[fv a n b m p l h u v] w fun e w' => e = .returned (.int .i64 0) ∧ Below w.heap.size w w'))
    (CK2 : Hid (∀ w, Calls Try.prog 18 #[fv a' n' b' m' p' l' h' u' v'] w fun e w' => e = .returned (.int .i64 0) ∧ Below w.heap.size w w'))
    (CI1' : Hid (∀ Z p0 w (z : Hd) g1 g2 ns, z.Ok → P2 g1 g2 ns → Sta Z p0 w 262144 ns → Calls Try.prog 12 #[.pointer (some ⟨p0, 0, none⟩), .int .i64 (g1 : Nat), hv z.d z.s z.q z.x z.y] w fun e w' => e = .returned (.bool (M1 z)) ∧ Below w.heap.size w w'))
    (CI2' : Hid (∀ Z p0 w (z : Hd) g1 g2 ns, z.Ok → P2 g1 g2 ns → Sta Z p0 w 262144 ns → Calls Try.prog 12 #[.pointer (some ⟨p0, 0, none⟩), .int .i64 (g2 : Nat), hv z.d z.s z.q z.x z.y] w fun e w' => e = .returned (.bool (M2 z)) ∧ Below w.heap.size w w'))
    (CM1' : Hid (∀ (z : Hd) w, z.Ok → Calls Try.prog 19 #[fv a n b m p l h u v, hv z.d z.s z.q z.x z.y] w fun e w' => e = .returned (.bool (M1 z)) ∧ Below w.heap.size w w'))
    (CM2' : Hid (∀ (z : Hd) w, z.Ok → Calls Try.prog 19 #[fv a' n' b' m' p' l' h' u' v', hv z.d z.s z.q z.x z.y] w fun e w' => e = .returned (.bool (M2 z)) ∧ Below w.heap.size w w')) :
    Calls Try.prog 4 #[fv a n b m p l h u v, fv a' n' b' m' p' l' h' u' v', .slice la len lc] W fun e w' => e = .returned (.bool true) ∧ Below W.heap.size W w' := by
  have CW := Lib.hid (fun w => awake_any w)
  have CN := Lib.hid (fun w => sNew 262144 (by omega) (by omega) w)
  have HL := Lib.hid hL
  have HO := Lib.hid hok
  have HN := Lib.hid hlen
  have HG := Lib.hid hgg
  clear hgg
  clear hL hok hlen
  unfold fv hv at *
  go_enter Try.func4, Try.ntmps4
  go_upto_region 1 with fail
  refine at_code (S := Fx2 W (fc a n b m p l h u v) (fc a' n' b' m' p' l' h' u' v')) ⟨?_, ?_, bel_al (bel_al (Below.refl _ _) _) _, by simp⟩ (fun W1 hW => ?_)
  · exact (Blk.new W _ (fc a n b m p l h u v)).on (bel_al (Below.refl _ _) _)
  · have k := Blk.new (W.alloc (.cells (fc a n b m p l h u v).toArray 47)) 47 (fc a' n' b' m' p' l' h' u' v')
    rw [World.size_alloc] at k
    exact k
  have X1 := Lib.hid hW
  clear hW
  go_wp2_with fail
  refine (CN.out _).mono ?_
  rintro e w2 ⟨p0, rfl, hS, hb⟩
  obtain ⟨Z, hZ⟩ : ∃ Z : Nat → Prop, (fun k => k < W1.heap.size) = Z := ⟨_, rfl⟩
  rw [hZ] at hS
  have HZ : Hid (∀ k, k < W.heap.size + 2 → Z k) := Lib.hid (by rw [← hZ]; intro k hk; have := X1.out.2.2.2; show k < W1.heap.size; omega)
  have HZ2 : Hid (∀ k, k < W1.heap.size → Z k) := Lib.hid (by rw [← hZ]; exact fun k hk => hk)
  have S2 := Lib.hid hS
  have X2 := Lib.hid (X1.out.on hb)
  have Q2 := Lib.hid hb
  clear hS hb CN hZ
  obtain ⟨x_0, x_1, x_2, x_3, x_4, x_5, x_6, x_7, x_8⟩ := cells9 X2.out.1
  go_wp2_with fail
  refine (CF1.out Z p0 w2 S2.out).mono ?_
  rintro e w3 ⟨g1, ns1, rfl, hS, hH, hP⟩
  have S3 := Lib.hid hS
  have X3 := Lib.hid (X2.out.hold hH HZ.out)
  have Q3 := Lib.hid (Q2.out.trans (hH.below Q2.out.size HZ2.out))
  have G3 := Lib.hid hP
  clear hS hH hP CF1 X2 S2 Q2
  clear x_0 x_1 x_2 x_3 x_4 x_5 x_6 x_7 x_8
  obtain ⟨y_0, y_1, y_2, y_3, y_4, y_5, y_6, y_7, y_8⟩ := cells9 X3.out.2.1
  go_wp2_with fail
  refine (CF2.out Z p0 w3 g1 ns1 G3.out S3.out).mono ?_
  rintro e w4 ⟨g2, ns2, rfl, hS, hH, hP⟩
  have S4 := Lib.hid hS
  have X4 := Lib.hid (X3.out.hold hH HZ.out)
  have Q4 := Lib.hid (Q3.out.trans (hH.below Q3.out.size HZ2.out))
  have G4 := Lib.hid hP
  clear hS hH hP CF2 X3 S3 Q3 G3
  clear y_0 y_1 y_2 y_3 y_4 y_5 y_6 y_7 y_8
  obtain ⟨x_0, x_1, x_2, x_3, x_4, x_5, x_6, x_7, x_8⟩ := cells9 X4.out.1
  go_wp2_with fail
  refine (CK1.out _).mono ?_
  rintro e w5 ⟨rfl, hbx⟩
  have S5 := Lib.hid (S4.out.on hbx)
  have X5 := Lib.hid (X4.out.on hbx)
  have Q5 := Lib.hid (bel_on' Q4.out hbx)
  clear hbx CK1 X4 S4 Q4
  clear x_0 x_1 x_2 x_3 x_4 x_5 x_6 x_7 x_8
  obtain ⟨y_0, y_1, y_2, y_3, y_4, y_5, y_6, y_7, y_8⟩ := cells9 X5.out.2.1
  go_wp2_with fail
  refine (CK2.out _).mono ?_
  rintro e w6 ⟨rfl, hbx⟩
  have S6 := Lib.hid (S5.out.on hbx)
  have X6 := Lib.hid (X5.out.on hbx)
  have Q6 := Lib.hid (bel_on' Q5.out hbx)
  clear hbx CK2 X5 S5 Q5
  clear y_0 y_1 y_2 y_3 y_4 y_5 y_6 y_7 y_8
  have HGG := Lib.hid (HG.out g1 g2 ns2 G4.out)
  have CI1 := Lib.hid (fun (w : World) (z : Hd) (hz : z.Ok) (hs : Sta Z p0 w 262144 ns2) => CI1'.out Z p0 w z g1 g2 ns2 hz G4.out hs)
  have CI2 := Lib.hid (fun (w : World) (z : Hd) (hz : z.Ok) (hs : Sta Z p0 w 262144 ns2) => CI2'.out Z p0 w z g1 g2 ns2 hz G4.out hs)
  clear CI1' CI2' G4
  go_wp2_with fail
  go_loopw [56] (fun iv wr => ∃ k : Nat, iv = .int .i64 (k : Nat) ∧ k ≤ len ∧ Hid (Below w6.heap.size w6 wr)) (fun iv _ => len - (intOf iv).toNat)
  case atStart => exact ⟨0, rfl, Nat.zero_le _, Lib.hid (Below.refl _ _)⟩
  case round =>
    obtain ⟨k, rfl, hk, hB⟩ := hrel
    by_cases hkn : k < len
    · obtain ⟨z, hz⟩ : ∃ z, L[k]? = some z := ⟨_, List.getElem?_eq_getElem (by have := HN.out; omega)⟩
      have hzo := HO.out z (List.mem_of_getElem? hz)
      have Lr := (HL.out.on X1.out.2.2.1).on ((Q6.out.trans (hB.out.mono Q6.out.size)))
      obtain ⟨bb, off, rfl⟩ := Lr.elemAd 4 Hd.cells_len hz
      have k0 : wr.cell? ⟨bb, off + k * 5, none⟩ = some (.int .u32 z.d) := Lr.elem 5 Hd.cells_len hz 0 rfl
      have k1 : wr.cell? ⟨bb, off + k * 5 + 1, none⟩ = some (.int .u32 z.s) := Lr.elem 5 Hd.cells_len hz 1 rfl
      have k2 : wr.cell? ⟨bb, off + k * 5 + 2, none⟩ = some (.int .u8 z.q) := Lr.elem 5 Hd.cells_len hz 2 rfl
      have k3 : wr.cell? ⟨bb, off + k * 5 + 3, none⟩ = some (.int .u16 z.x) := Lr.elem 5 Hd.cells_len hz 3 rfl
      have k4 : wr.cell? ⟨bb, off + k * 5 + 4, none⟩ = some (.int .u16 z.y) := Lr.elem 5 Hd.cells_len hz 4 rfl
      have hki : (k : Int) < (len : Int) := by omega
      have hkc : k < lc := by omega
      have hwk : IntKind.i64.wrap ((k : Int) + 1) = ((k + 1 : Nat) : Int) := by rw [IntKind.wrap_i64]; omega
      have CI1z := Lib.hid (fun (w : World) (hs : Sta Z p0 w 262144 ns2) => CI1.out w z hzo hs)
      have CI2z := Lib.hid (fun (w : World) (hs : Sta Z p0 w 262144 ns2) => CI2.out w z hzo hs)
      have CM1z := Lib.hid (fun (w : World) => CM1'.out z w hzo)
      have CM2z := Lib.hid (fun (w : World) => CM2'.out z w hzo)
      obtain ⟨T1, hT1e⟩ : ∃ T, M1 z = T := ⟨_, rfl⟩
      obtain ⟨T2, hT2e⟩ : ∃ T, M2 z = T := ⟨_, rfl⟩
      rw [hT1e] at CI1z CM1z
      rw [hT2e] at CI2z CM2z
      have hT1 : (T1 != T1) = false := by cases T1 <;> rfl
      have hT2 : (T2 != T2) = false := by cases T2 <;> rfl
      clear hz hzo Lr hT1e hT2e
      go_upto_region 15 with fail
      refine at_code (S := fun V => Blk V wr.heap.size (hc z.d z.s z.q z.x z.y) ∧ Below wr.heap.size wr V) ⟨Blk.new _ _ _, bel_al (Below.refl _ _) _⟩ (fun wr2 hV => ?_)
      obtain ⟨hV1, hV2⟩ := hV
      have hb6 : Below w6.heap.size w6 wr2 := bel_on' hB.out hV2
      have X8 := Lib.hid (X6.out.on hb6)
      have S8 := Lib.hid (S6.out.on hb6)
      have B8 := Lib.hid hb6
      obtain ⟨z_0, z_1, z_2, z_3, z_4⟩ := cells5 hV1
      obtain ⟨x_0, x_1, x_2, x_3, x_4, x_5, x_6, x_7, x_8⟩ := cells9 X8.out.1
      obtain ⟨y_0, y_1, y_2, y_3, y_4, y_5, y_6, y_7, y_8⟩ := cells9 X8.out.2.1
      clear hV1 hV2 hb6 k0 k1 k2 k3 k4 hB
      have hgg := HGG.out
      have hgi : ((g1 : Nat) : Int) ≠ ((g2 : Nat) : Int) := by omega
      have hgb : (((g1 : Nat) : Int) == ((g2 : Nat) : Int)) = false := by simp; omega
      refine wp_region_noPanic ?_
      refine wp_region_along (S := fun w' => Below wr2.heap.size wr2 w' ∧ ∀ b o, (wr2.cell? ⟨b, o, none⟩).isSome = true → w'.cell? ⟨b, o, none⟩ = wr2.cell? ⟨b, o, none⟩) ([(0, true), (1, true), (2, true), (4, true), (5, true), (3, false), (6, false), (7, true), (8, true), (9, true), (10, true), (11, true), (13, true), (14, true), (12, false), (15, false)] ++ ([(16, true), (17, true), (18, true), (19, true), (20, true), (21, true), (22, true), (23, true), (24, true), (26, true), (27, true), (25, false), (28, false), (29, true), (30, true), (31, true)])) (by kernel_rfl) (by as_aux_lemma => kernel_rfl) (by kernel_rfl) (by kernel_rfl) (alongPre_append _ _ _ (by as_aux_lemma => kernel_rfl) (by as_aux_lemma => kernel_rfl)) (by as_aux_lemma => kernel_rfl) (fun _ _ _ _ _ h => h) (below_kb (Below.refl _ _).drew) (fun hH => ?_)
      simp only [List.cons_append, List.nil_append, stepsOf, pickOp]
      iterate 5 (first | (refine along_skip (by rfl) ?_; try simp only [Act.put, List.setIfInBounds_toArray, List.set_cons_zero, List.set_cons_succ]) | (refine along_pure ?_ (by rfl) (fun w hSw => ?_) ?_; rotate_left; ((try dsimp only at hSw); go_simp; try with_reducible rfl); try simp only [Act.put, List.setIfInBounds_toArray, List.set_cons_zero, List.set_cons_succ]))
      refine along_bar (fun K hK => ?_)
      go_simp
      refine (CI1z.out wr2.drew (S8.out.on (Below.refl _ _).drew)).mono ?_
      rintro e wa ⟨rfl, hbx⟩
      try go_wp2_with fail
      refine hK.out _ _ (below_kb (below_on hH.1 hbx)) (fun hH' => ?_)
      clear hK K hH
      have hH := hH'
      clear hH'
      have Bwa := Lib.hid hH.1
      clear hbx
      try simp only [Act.put, List.setIfInBounds_toArray, List.set_cons_zero, List.set_cons_succ]
      refine along_bar (fun K hK => ?_)
      go_simp
      refine (CM1z.out _).mono ?_
      rintro e wb ⟨rfl, hbx⟩
      try go_wp2_with fail
      refine hK.out _ _ (below_kb (below_on hH.1 hbx)) (fun hH' => ?_)
      clear hK K hH
      have hH := hH'
      clear hH'
      have Bwb := Lib.hid hH.1
      clear hbx
      try simp only [Act.put, List.setIfInBounds_toArray, List.set_cons_zero, List.set_cons_succ]
      iterate 7 (first | (refine along_skip (by rfl) ?_; try simp only [Act.put, List.setIfInBounds_toArray, List.set_cons_zero, List.set_cons_succ]) | (refine along_pure ?_ (by rfl) (fun w hSw => ?_) ?_; rotate_left; ((try dsimp only at hSw); go_simp; try with_reducible rfl); try simp only [Act.put, List.setIfInBounds_toArray, List.set_cons_zero, List.set_cons_succ]))
      refine along_bar (fun K hK => ?_)
      go_simp
      refine (CI2z.out wb (S8.out.on Bwb.out)).mono ?_
      rintro e wd ⟨rfl, hbx⟩
      try go_wp2_with fail
      refine hK.out _ _ (below_kb (below_on hH.1 hbx)) (fun hH' => ?_)
      clear hK K hH
      have hH := hH'
      clear hH'
      have Bwd := Lib.hid hH.1
      clear hbx
      try simp only [Act.put, List.setIfInBounds_toArray, List.set_cons_zero, List.set_cons_succ]
      refine along_bar (fun K hK => ?_)
      go_simp
      refine (CM2z.out _).mono ?_
      rintro e we ⟨rfl, hbx⟩
      try go_wp2_with fail
      refine hK.out _ _ (below_kb (below_on hH.1 hbx)) (fun hH' => ?_)
      clear hK K hH
      have hH := hH'
      clear hH'
      have Bwe := Lib.hid hH.1
      clear hbx
      try simp only [Act.put, List.setIfInBounds_toArray, List.set_cons_zero, List.set_cons_succ]
      iterate 11 (first | (refine along_skip (by rfl) ?_; try simp only [Act.put, List.setIfInBounds_toArray, List.set_cons_zero, List.set_cons_succ]) | (refine along_pure ?_ (by rfl) (fun w hSw => ?_) ?_; rotate_left; ((try dsimp only at hSw); go_simp; try with_reducible rfl); try simp only [Act.put, List.setIfInBounds_toArray, List.set_cons_zero, List.set_cons_succ]))
      refine along_pass (by rfl) hH ?_
      try simp only [Act.put, List.setIfInBounds_toArray, List.set_cons_zero, List.set_cons_succ]
      refine along_pass (by rfl) hH ?_
      try simp only [Act.put, List.setIfInBounds_toArray, List.set_cons_zero, List.set_cons_succ]
      iterate 3 (first | (refine along_skip (by rfl) ?_; try simp only [Act.put, List.setIfInBounds_toArray, List.set_cons_zero, List.set_cons_succ]) | (refine along_pure ?_ (by rfl) (fun w hSw => ?_) ?_; rotate_left; ((try dsimp only at hSw); go_simp; try with_reducible rfl); try simp only [Act.put, List.setIfInBounds_toArray, List.set_cons_zero, List.set_cons_succ]))
      refine along_end (NoPanic.normal ?_)
      have B9 := Lib.hid (B8.out.trans (hH.1.mono B8.out.size))
      clear hH
      go_wp2_with fail
      refine ⟨⟨k + 1, ?_, by omega, B9⟩, by simp [intOf] <;> omega⟩
      first | rfl | rw [hwk]
    · have hkn' : k = len := by omega
      subst hkn'
      have X7 := Lib.hid (X6.out.on hB.out)
      go_wp2_with fail
      refine (CW.out _).mono ?_
      rintro e wa ⟨rfl, hbx⟩
      have X9 := Lib.hid (X7.out.on hbx)
      obtain ⟨x_0, x_1, x_2, x_3, x_4, x_5, x_6, x_7, x_8⟩ := cells9 X9.out.1
      obtain ⟨y_0, y_1, y_2, y_3, y_4, y_5, y_6, y_7, y_8⟩ := cells9 X9.out.2.1
      have hgg := HGG.out
      have hgb : (((g1 : Nat) : Int) == ((g2 : Nat) : Int)) = false := by simp; omega
      have heqq := heq.out
      clear hbx X7
      go_wp2
      go_ret
      exact ⟨rfl, X9.out.2.2.1⟩
end Go.Proofs.Ytggcbklififcgab
/- EncFull: any filter, room and header. -/
namespace Go.Proofs.Ytggcbklififcgab
open Go.RowKit
set_option linter.unusedVariables false

set_option maxRecDepth 100000 in
set_option maxHeartbeats 4000000 in
theorem efl_wrong (a n b m p l h u v d s q x y : Int) (room : Nat) (E : Int) (hE : (E != 0) = true) (W : World)
    (CK : Hid (∀ w, Calls Try.prog 18 #[fv a n b m p l h u v] w fun e w' => e = .returned (.int .i64 E) ∧ Below w.heap.size w w')) :
    Calls Try.prog 5 #[fv a n b m p l h u v, .int .u8 (room : Nat), hv d s q x y] W fun e w' => e = .returned (.bool true) ∧ Below W.heap.size W w' := by
  have CW := Lib.hid (fun w => awake_any w)
  unfold fv at CK
  unfold fv hv
  go_enter Try.func5, Try.ntmps5
  go_upto_region 1 with fail
  refine at_code (S := Fx2 W (fc a n b m p l h u v) (hc d s q x y)) ⟨?_, ?_, bel_al (bel_al (Below.refl _ _) _) _, by simp⟩ (fun W1 hW => ?_)
  · exact (Blk.new W _ (fc a n b m p l h u v)).on (bel_al (Below.refl _ _) _)
  · have k := Blk.new (W.alloc (.cells (fc a n b m p l h u v).toArray 47)) 29 (hc d s q x y)
    rw [World.size_alloc] at k
    exact k
  have X1 := Lib.hid hW
  obtain ⟨x_0, x_1, x_2, x_3, x_4, x_5, x_6, x_7, x_8⟩ := cells9 X1.out.1
  clear hW
  go_wp2_with fail
  refine (CK.out _).mono ?_
  rintro e w2 ⟨rfl, hbx⟩
  have X2 := Lib.hid (X1.out.on hbx)
  clear x_0 x_1 x_2 x_3 x_4 x_5 x_6 x_7 x_8 hbx X1 CK
  go_wp2_with fail
  refine (CW.out _).mono ?_
  rintro e wa ⟨rfl, hbx⟩
  have FIN := Lib.hid (bel_on' X2.out.2.2.1 hbx)
  clear hbx
  go_wp2
  go_ret
  exact ⟨rfl, FIN.out⟩
set_option maxRecDepth 100000 in
set_option maxHeartbeats 4000000 in
theorem efl_few (a n b m p l h u v d s q x y : Int) (room : Nat) (h2 : (room : Int) < 2) (W : World)
    (CK : Hid (∀ w, Calls Try.prog 18 #[fv a n b m p l h u v] w fun e w' => e = .returned (.int .i64 0) ∧ Below w.heap.size w w')) :
    Calls Try.prog 5 #[fv a n b m p l h u v, .int .u8 (room : Nat), hv d s q x y] W fun e w' => e = .returned (.bool true) ∧ Below W.heap.size W w' := by
  have CW := Lib.hid (fun w => awake_any w)
  unfold fv at CK
  unfold fv hv
  go_enter Try.func5, Try.ntmps5
  go_upto_region 1 with fail
  refine at_code (S := Fx2 W (fc a n b m p l h u v) (hc d s q x y)) ⟨?_, ?_, bel_al (bel_al (Below.refl _ _) _) _, by simp⟩ (fun W1 hW => ?_)
  · exact (Blk.new W _ (fc a n b m p l h u v)).on (bel_al (Below.refl _ _) _)
  · have k := Blk.new (W.alloc (.cells (fc a n b m p l h u v).toArray 47)) 29 (hc d s q x y)
    rw [World.size_alloc] at k
    exact k
  have X1 := Lib.hid hW
  obtain ⟨x_0, x_1, x_2, x_3, x_4, x_5, x_6, x_7, x_8⟩ := cells9 X1.out.1
  clear hW
  go_wp2_with fail
  refine (CK.out _).mono ?_
  rintro e w2 ⟨rfl, hbx⟩
  have X2 := Lib.hid (X1.out.on hbx)
  clear x_0 x_1 x_2 x_3 x_4 x_5 x_6 x_7 x_8 hbx X1 CK
  go_wp2_with fail
  refine (CW.out _).mono ?_
  rintro e wa ⟨rfl, hbx⟩
  have FIN := Lib.hid (bel_on' X2.out.2.2.1 hbx)
  clear hbx
  go_wp2
  go_ret
  exact ⟨rfl, FIN.out⟩
set_option maxRecDepth 100000 in
set_option maxHeartbeats 8000000 in
theorem efl_main {PP : Nat → List Nd → Prop} (a n b m p l h u v d s q x y : Int) (room : Nat) (h2 : ¬ (room : Int) < 2) (h255 : room < 256) (T : Bool) (W : World)
    (CK : Hid (∀ w, Calls Try.prog 18 #[fv a n b m p l h u v] w fun e w' => e = .returned (.int .i64 0) ∧ Below w.heap.size w w'))
    (CF : Hid (∀ Z p0 w, Sta Z p0 w room [bot, top] → Calls Try.prog 17 #[.pointer (some ⟨p0, 0, none⟩), fv a n b m p l h u v] w fun e w' => (e = .returned (.tuple #[.int .i64 0, .int .i64 20]) ∧ Sta Z p0 w' room [bot, top] ∧ Hold Z w w') ∨ ∃ (g : Nat) (ns : List Nd), e = .returned (.tuple #[.int .i64 (g : Nat), .int .i64 0]) ∧ Sta Z p0 w' room ns ∧ Hold Z w w' ∧ PP g ns))
    (CI0 : Hid (∀ Z p0 w g ns, Sta Z p0 w room ns → PP g ns → Calls Try.prog 12 #[.pointer (some ⟨p0, 0, none⟩), .int .i64 (g : Nat), hv d s q x y] w fun e w' => e = .returned (.bool T) ∧ Below w.heap.size w w'))
    (CM : Hid (∀ w, Calls Try.prog 19 #[fv a n b m p l h u v, hv d s q x y] w fun e w' => e = .returned (.bool T) ∧ Below w.heap.size w w')) :
    Calls Try.prog 5 #[fv a n b m p l h u v, .int .u8 (room : Nat), hv d s q x y] W fun e w' => e = .returned (.bool true) ∧ Below W.heap.size W w' := by
  have CW := Lib.hid (fun w => awake_any w)
  have CN := Lib.hid (fun w => sNew room (by omega) (by omega) w)
  have CFn := Lib.hid (fun w => filter_nil a n b m p l h u v w)
  have CHn := Lib.hid (fun w => header_nil d s q x y w)
  have hTT : (T == T) = true := by cases T <;> rfl
  unfold fv at CK CF CM CFn
  unfold hv at CI0 CM CHn
  unfold fv hv
  go_enter Try.func5, Try.ntmps5
  go_upto_region 1 with fail
  refine at_code (S := Fx2 W (fc a n b m p l h u v) (hc d s q x y)) ⟨?_, ?_, bel_al (bel_al (Below.refl _ _) _) _, by simp⟩ (fun W1 hW => ?_)
  · exact (Blk.new W _ (fc a n b m p l h u v)).on (bel_al (Below.refl _ _) _)
  · have k := Blk.new (W.alloc (.cells (fc a n b m p l h u v).toArray 47)) 29 (hc d s q x y)
    rw [World.size_alloc] at k
    exact k
  have X1 := Lib.hid hW
  obtain ⟨x_0, x_1, x_2, x_3, x_4, x_5, x_6, x_7, x_8⟩ := cells9 X1.out.1
  clear hW
  go_wp2_with fail
  refine (CK.out _).mono ?_
  rintro e w2 ⟨rfl, hbx⟩
  have X2 := Lib.hid (X1.out.on hbx)
  clear x_0 x_1 x_2 x_3 x_4 x_5 x_6 x_7 x_8 hbx X1 CK
  go_wp2_with fail
  refine (CN.out _).mono ?_
  rintro e w3 ⟨p0, rfl, hS, hb⟩
  obtain ⟨Z, hZ⟩ : ∃ Z : Nat → Prop, (fun k => k < w2.heap.size) = Z := ⟨_, rfl⟩
  rw [hZ] at hS
  have HZ : Hid (∀ k, k < W.heap.size + 2 → Z k) := Lib.hid (by rw [← hZ]; intro k hk; have := X2.out.2.2.2; show k < w2.heap.size; omega)
  have S3 := Lib.hid hS
  have X3 := Lib.hid (X2.out.on hb)
  clear hS hb CN hZ X2
  have CI := Lib.hid (fun (w : World) (g : Nat) (ns : List Nd) (hs : Sta Z p0 w room ns) (hp : PP g ns) => CI0.out Z p0 w g ns hs hp)
  clear CI0
  obtain ⟨x_0, x_1, x_2, x_3, x_4, x_5, x_6, x_7, x_8⟩ := cells9 X3.out.1
  go_wp2_with fail
  refine (CF.out Z p0 w3 S3.out).mono ?_
  rintro e w4 (⟨rfl, hS, hH⟩ | ⟨g, ns, rfl, hS, hH, hP⟩)
  · have CL := Lib.hid (fun (w : World) (hb : Below w4.heap.size w4 w) => sLen (hS.on hb))
    have X4 := Lib.hid (X3.out.hold hH HZ.out)
    clear x_0 x_1 x_2 x_3 x_4 x_5 x_6 x_7 x_8 hS hH CF X3 S3
    go_wp2_with fail
    refine (CW.out _).mono ?_
    rintro e wa ⟨rfl, hbx⟩
    have C5 := Lib.hid (CL.out wa hbx)
    have FIN := Lib.hid (bel_on' X4.out.2.2.1 hbx)
    clear hbx CL
    go_wp2_with fail
    refine C5.out.mono ?_
    rintro e wb ⟨rfl, rfl⟩
    go_wp2
    go_ret
    exact ⟨rfl, FIN.out⟩
  · have S4 := Lib.hid hS
    have G4 := Lib.hid hP
    have X4 := Lib.hid (X3.out.hold hH HZ.out)
    clear x_0 x_1 x_2 x_3 x_4 x_5 x_6 x_7 x_8 hS hH hP CF X3 S3
    obtain ⟨x_0, x_1, x_2, x_3, x_4, x_5, x_6, x_7, x_8⟩ := cells9 X4.out.1
    go_wp2_with fail
    refine (CFn.out _).mono ?_
    rintro e w5 ⟨rfl, hbx⟩
    have S5 := Lib.hid (S4.out.on hbx)
    have X5 := Lib.hid (X4.out.on hbx)
    clear x_0 x_1 x_2 x_3 x_4 x_5 x_6 x_7 x_8 hbx CFn X4 S4
    obtain ⟨y_0, y_1, y_2, y_3, y_4⟩ := cells5 X5.out.2.1
    go_wp2_with fail
    refine (CHn.out _).mono ?_
    rintro e w6 ⟨rfl, hbx⟩
    have S6 := Lib.hid (S5.out.on hbx)
    have X6 := Lib.hid (X5.out.on hbx)
    clear y_0 y_1 y_2 y_3 y_4 hbx CHn X5 S5
    obtain ⟨x_0, x_1, x_2, x_3, x_4, x_5, x_6, x_7, x_8⟩ := cells9 X6.out.1
    obtain ⟨y_0, y_1, y_2, y_3, y_4⟩ := cells5 X6.out.2.1
    go_wp2_with fail
    refine wp_region_noPanic ?_
    refine wp_region_along (S := fun w' => Below w6.heap.size w6 w' ∧ ∀ b o, (w6.cell? ⟨b, o, none⟩).isSome = true → w'.cell? ⟨b, o, none⟩ = w6.cell? ⟨b, o, none⟩) ([(0, false), (1, true), (2, true), (3, true), (4, true), (5, true), (6, true), (7, true), (8, true), (10, true), (11, true), (9, false), (12, false), (13, true), (14, true), (15, true)] ++ ([(16, true), (17, true), (18, true), (19, true), (20, true), (21, true), (22, true), (23, true)])) (by kernel_rfl) (by as_aux_lemma => kernel_rfl) (by kernel_rfl) (by kernel_rfl) (alongPre_append _ _ _ (by as_aux_lemma => kernel_rfl) (by as_aux_lemma => kernel_rfl)) (by as_aux_lemma => kernel_rfl) (fun _ _ _ _ _ h => h) (below_kb (Below.refl _ _).drew) (fun hH => ?_)
    simp only [List.cons_append, List.nil_append, stepsOf, pickOp]
    refine along_bar (fun K hK => ?_)
    go_simp
    refine (CW.out _).mono ?_
    rintro e wa ⟨rfl, hbx⟩
    try go_wp2_with fail
    refine hK.out _ _ (below_kb (below_on hH.1 hbx)) (fun hH' => ?_)
    clear hK K hH
    have hH := hH'
    clear hH'
    have Ba := Lib.hid hH.1
    clear hbx
    try simp only [Act.put, List.setIfInBounds_toArray, List.set_cons_zero, List.set_cons_succ]
    iterate 10 (first | (refine along_skip (by rfl) ?_; try simp only [Act.put, List.setIfInBounds_toArray, List.set_cons_zero, List.set_cons_succ]) | (refine along_pure ?_ (by rfl) (fun w hSw => ?_) ?_; rotate_left; ((try dsimp only at hSw); go_simp; try with_reducible rfl); try simp only [Act.put, List.setIfInBounds_toArray, List.set_cons_zero, List.set_cons_succ]))
    refine along_bar (fun K hK => ?_)
    go_simp
    refine (CI.out wa g ns (S6.out.on Ba.out) G4.out).mono ?_
    rintro e wb ⟨rfl, hbx⟩
    try go_wp2_with fail
    refine hK.out _ _ (below_kb (below_on hH.1 hbx)) (fun hH' => ?_)
    clear hK K hH
    have hH := hH'
    clear hH'
    clear hbx
    try simp only [Act.put, List.setIfInBounds_toArray, List.set_cons_zero, List.set_cons_succ]
    refine along_bar (fun K hK => ?_)
    go_simp
    refine (CM.out _).mono ?_
    rintro e wd ⟨rfl, hbx⟩
    try go_wp2_with fail
    refine hK.out _ _ (below_kb (below_on hH.1 hbx)) (fun hH' => ?_)
    clear hK K hH
    have hH := hH'
    clear hH'
    clear hbx
    try simp only [Act.put, List.setIfInBounds_toArray, List.set_cons_zero, List.set_cons_succ]
    iterate 11 (first | (refine along_skip (by rfl) ?_; try simp only [Act.put, List.setIfInBounds_toArray, List.set_cons_zero, List.set_cons_succ]) | (refine along_pure ?_ (by rfl) (fun w hSw => ?_) ?_; rotate_left; ((try dsimp only at hSw); go_simp; try with_reducible rfl); try simp only [Act.put, List.setIfInBounds_toArray, List.set_cons_zero, List.set_cons_succ]))
    refine along_end (NoPanic.normal ?_)
    have FIN := Lib.hid (bel_on' X6.out.2.2.1 hH.1)
    clear hH
    go_wp2
    go_ret
    exact ⟨rfl, FIN.out⟩
/-- What a filter that may be has. -/
theorem chk_ok {a : Nat} {n : Int} {b : Nat} {m p : Int} {l h u v : Nat} (hok : chk (rightB a n) (rightB b m) p (decide (h < l)) (decide (v < u)) = 0) : ∃ kd ks qn : Nat, n = (kd : Nat) ∧ m = (ks : Nat) ∧ kd ≤ 32 ∧ ks ≤ 32 ∧ rightB a n = true ∧ rightB b m = true ∧ (p = -1 ∨ 0 ≤ p ∧ p ≤ 255) ∧ pq p = (qn : Int) ∧ qn < 256 ∧ (p = -1 ∨ p = (qn : Int)) ∧ l ≤ h ∧ u ≤ v := by
  obtain ⟨h1, h2, h3, h4, h5⟩ := chk_right hok
  obtain ⟨kd, rfl, k1⟩ := right_k h1
  obtain ⟨ks, rfl, k2⟩ := right_k h2
  rw [decide_eq_false_iff_not] at h4 h5
  have hpq : 0 ≤ pq p ∧ pq p ≤ 255 := by unfold pq; split <;> omega
  refine ⟨kd, ks, (pq p).toNat, rfl, rfl, k1, k2, h1, h2, h3, by omega, by omega, ?_, by omega, by omega⟩
  rcases h3 with c | c
  · exact Or.inl c
  · right
    have : pq p = p := by unfold pq; rw [if_neg (by omega)]
    omega
theorem encFull_any (a : Nat) (n : Int) (b : Nat) (m p : Int) (l h u v d s q x y room : Nat) (ha : a < 4294967296) (hb : b < 4294967296) (bl : l < 65536) (bh : h < 65536) (bu : u < 65536) (bv : v < 65536) (hh : HB d s q x y) (hr : room < 256) (W : World) :
    Calls Try.prog 5 #[fv a n b m p l h u v, .int .u8 (room : Nat), hv d s q x y] W fun e w' => e = .returned (.bool true) ∧ Below W.heap.size W w' := by
  obtain ⟨E, hE⟩ : ∃ E, chk (rightB a n) (rightB b m) p (decide (h < l)) (decide (v < u)) = E := ⟨_, rfl⟩
  have CK : Hid (∀ w, Calls Try.prog 18 #[fv a n b m p l h u v] w fun e w' => e = .returned (.int .i64 E) ∧ Below w.heap.size w w') := Lib.hid (fun w => by
    have k := rfcheck_any a n b m p l h u v ha hb w
    rw [hE] at k
    exact k)
  by_cases h0 : E = 0
  · subst h0
    by_cases h2 : room < 2
    · exact efl_few a n b m p l h u v d s q x y room (by omega) W CK
    · obtain ⟨kd, ks, qn, rfl, rfl, k1, k2, r1, r2, hp, hq1, hq2, hq3, hlh, huv⟩ := chk_ok hE
      have hA : HB a b qn l u := ⟨ha, hb, hq2, bl, bu⟩
      exact efl_main (PP := fun g ns => St ns g (ftP a kd b ks p qn l h u v)) a _ b _ p l h u v d s q x y room (by omega) hr (passB a (kd : Nat) b (ks : Nat) p l h u v d s q x y) W CK
        (Lib.hid fun Z p0 w hS => (filter_any hS a kd b ks p l h u v ha hb k1 k2 hp bl bh bu bv hE qn hq1 hq2).mono fun e w' ⟨R, hG, hL, hN⟩ => by
          rcases got2_cases hG with ⟨hr, h1, h2, h3⟩ | ⟨g, hr, h1, h2, h3⟩
          · rw [hN hr] at h2
            exact Or.inl ⟨h1, h2, h3⟩
          · exact Or.inr ⟨g, R.2, h1, h2, h3, (hL.some g hr).st⟩)
        (Lib.hid fun Z p0 w g ns hS hP => by
          have k := sIn hS g d s q x y hh hP.1
          rw [hP.2, ftP_val hA hq3 k1 k2 r1 r2 bh bv hh] at k
          exact k)
        (Lib.hid fun w => rfmatch_all a _ b _ p l h u v d s q x y r1 r2 ha hb hh.d hh.s hh.p w)
  · exact efl_wrong a n b m p l h u v d s q x y room E (by simp [h0]) W CK
end Go.Proofs.Ytggcbklififcgab
/- Filters that may be, and that the same headers pass, are one. No program in sight. -/
namespace Go.Proofs.Ytggcbklififcgab
set_option linter.unusedVariables false

theorem five {A A' S S' Q Q' X X' Y Y' : Nat → Bool} {n m k : Nat} (h : ∀ d s q x y, d < n → s < n → q < m → x < k → y < k → (A d && S s && Q q && X x && Y y) = (A' d && S' s && Q' q && X' x && Y' y))
    {a b c l u : Nat} (ha : a < n) (hb : b < n) (hc : c < m) (hl : l < k) (hu : u < k) (ta : A a = true) (tb : S b = true) (tc : Q c = true) (tl : X l = true) (tu : Y u = true) :
    (∀ d, d < n → A d = A' d) ∧ (∀ s, s < n → S s = S' s) ∧ (∀ q, q < m → Q q = Q' q) ∧ (∀ x, x < k → X x = X' x) ∧ ∀ y, y < k → Y y = Y' y := by
  have h0 := h a b c l u ha hb hc hl hu
  rw [ta, tb, tc, tl, tu] at h0
  have h1 : A' a = true ∧ S' b = true ∧ Q' c = true ∧ X' l = true ∧ Y' u = true := by
    revert h0
    cases A' a <;> cases S' b <;> cases Q' c <;> cases X' l <;> cases Y' u <;> simp
  obtain ⟨a1, a2, a3, a4, a5⟩ := h1
  refine ⟨fun d hd => ?_, fun s hs => ?_, fun q hq => ?_, fun x hx => ?_, fun y hy => ?_⟩
  · have := h d b c l u hd hb hc hl hu
    rw [tb, tc, tl, tu, a2, a3, a4, a5] at this
    simpa using this
  · have := h a s c l u ha hs hc hl hu
    rw [ta, tc, tl, tu, a1, a3, a4, a5] at this
    simpa using this
  · have := h a b q l u ha hb hq hl hu
    rw [ta, tb, tl, tu, a1, a2, a4, a5] at this
    simpa using this
  · have := h a b c x u ha hb hc hx hu
    rw [ta, tb, tc, tu, a1, a2, a3, a5] at this
    simpa using this
  · have := h a b c l y ha hb hc hl hy
    rw [ta, tb, tc, tl, a1, a2, a3, a4] at this
    simpa using this
theorem pre_le {a k k' : Nat} (ha : a < 4294967296) (hk : k ≤ 32) (hk' : k' ≤ 32) (r : a % sz k = 0) (r' : a % sz k' = 0) (h : ∀ d, d < 4294967296 → d / sz k = a / sz k → d / sz k' = a / sz k') : sz k ≤ sz k' := by
  have p := sz_pos k
  have p' := sz_pos k'
  have e := Nat.div_add_mod a (sz k)
  have e' := Nat.div_add_mod a (sz k')
  rw [r] at e
  rw [r'] at e'
  have h2 : (4294967296 : Nat) = sz k * 2 ^ k := by unfold sz; rw [← Nat.pow_add, show 32 - k + k = 32 by omega]
  have h3 : a / sz k < 2 ^ k := by rw [Nat.div_lt_iff_lt_mul p, Nat.mul_comm, ← h2]; exact ha
  have h4 : sz k * (a / sz k + 1) ≤ sz k * 2 ^ k := Nat.mul_le_mul_left _ h3
  rw [Nat.mul_add, Nat.mul_one, ← h2] at h4
  have hd : (a + (sz k - 1)) / sz k = a / sz k := by
    generalize a / sz k = z at *
    have : a + (sz k - 1) = (sz k - 1) + sz k * z := by omega
    rw [this, Nat.add_mul_div_left _ _ p, Nat.div_eq_of_lt (by omega)]; omega
  have := h (a + (sz k - 1)) (by omega) hd
  have q := Nat.div_add_mod (a + (sz k - 1)) (sz k')
  have q2 := Nat.mod_lt (a + (sz k - 1)) p'
  rw [this] at q
  omega
theorem pre_one {a k a' k' : Nat} (ha : a < 4294967296) (ha' : a' < 4294967296) (hk : k ≤ 32) (hk' : k' ≤ 32) (r : a % sz k = 0) (r' : a' % sz k' = 0) (h : ∀ d, d < 4294967296 → (d / sz k = a / sz k ↔ d / sz k' = a' / sz k')) : a = a' ∧ k = k' := by
  have e := Nat.div_add_mod a (sz k)
  have e' := Nat.div_add_mod a' (sz k')
  have h1 := (h a ha).1 rfl
  have h2 := (h a' ha').2 rfl
  have e1 := Nat.div_add_mod a (sz k')
  have e2 := Nat.div_add_mod a' (sz k)
  rw [h1] at e1
  rw [h2] at e2
  have eq : a = a' := by omega
  subst eq
  refine ⟨rfl, ?_⟩
  have l1 := pre_le ha hk hk' r r' (fun d hd => (h d hd).1)
  have l2 := pre_le ha hk' hk r' r (fun d hd => (h d hd).2)
  have l3 : sz k = sz k' := by omega
  unfold sz at l3
  rcases Nat.lt_trichotomy (32 - k) (32 - k') with q | q | q
  · have := Nat.pow_lt_pow_right (a := 2) (by omega) q; omega
  · omega
  · have := Nat.pow_lt_pow_right (a := 2) (by omega) q; omega
theorem rng_one {l h l' h' : Nat} (a1 : l ≤ h) (a2 : l' ≤ h') (b1 : h < 65536) (b2 : h' < 65536) (e : ∀ x, x < 65536 → inR l h x = inR l' h' x) : l = l' ∧ h = h' := by
  have f : ∀ x, x < 65536 → (l ≤ x ∧ x ≤ h ↔ l' ≤ x ∧ x ≤ h') := fun x hx => by
    have := e x hx
    unfold inR at this
    rwa [decide_eq_decide] at this
  have := f l (by omega)
  have := f h (by omega)
  have := f l' (by omega)
  have := f h' (by omega)
  omega
theorem pro_one {p p' : Int} (hp : p = -1 ∨ 0 ≤ p ∧ p ≤ 255) (hp' : p' = -1 ∨ 0 ≤ p' ∧ p' ≤ 255) (e : ∀ q : Nat, q < 256 → prB p q = prB p' q) : p = p' := by
  have f : ∀ q : Nat, q < 256 → ((p = -1 ∨ p = q) ↔ (p' = -1 ∨ p' = q)) := fun q hq => by
    have := e q hq
    unfold prB at this
    rw [Bool.eq_iff_iff, Bool.or_eq_true, Bool.or_eq_true, decide_eq_true_eq, decide_eq_true_eq, decide_eq_true_eq, decide_eq_true_eq] at this
    exact this
  have f0 := f 0 (by omega)
  have f1 := f 1 (by omega)
  rcases hp with c | c
  · rcases hp' with c' | c'
    · omega
    · omega
  · have g := f p.toNat (by omega)
    rcases hp' with c' | c'
    · have g1 := f ((p.toNat + 1) % 256) (by omega)
      omega
    · omega
/-- A filter that may be, by its numbers. -/
structure Fb where
  a : Nat
  kd : Nat
  b : Nat
  ks : Nat
  p : Int
  l : Nat
  h : Nat
  u : Nat
  v : Nat
structure Fb.Ok (F : Fb) (qn : Nat) : Prop where
  hb : HB F.a F.b qn F.l F.u
  kd : F.kd ≤ 32
  ks : F.ks ≤ 32
  r1 : rightB F.a (F.kd : Nat) = true
  r2 : rightB F.b (F.ks : Nat) = true
  pp : F.p = -1 ∨ 0 ≤ F.p ∧ F.p ≤ 255
  pq : F.p = -1 ∨ F.p = (qn : Int)
  h : F.h < 65536
  v : F.v < 65536
  lh : F.l ≤ F.h
  uv : F.u ≤ F.v
def Fb.P (F : Fb) (qn : Nat) : Env → Bool := ftP F.a F.kd F.b F.ks F.p qn F.l F.h F.u F.v
def Fb.M (F : Fb) (d s q x y : Nat) : Bool := passB F.a (F.kd : Nat) F.b (F.ks : Nat) F.p F.l F.h F.u F.v d s q x y
theorem Fb.val {F : Fb} {qn : Nat} (h : F.Ok qn) {d s q x y : Nat} (hh : HB d s q x y) : F.P qn (hE d s q x y) = F.M d s q x y := ftP_val h.hb h.pq h.kd h.ks h.r1 h.r2 h.h h.v hh
theorem rightB_mod {a k : Nat} (h : rightB a (k : Nat) = true) : a % sz k = 0 := by
  unfold rightB at h
  rw [decide_eq_true_eq] at h
  have := h.2.2
  rwa [Int.toNat_natCast] at this
theorem Fb.one {F G : Fb} {qn qm : Nat} (hF : F.Ok qn) (hG : G.Ok qm) (e : ∀ x, F.P qn x = G.P qm x) : F = G := by
  have hm : ∀ d s q x y, d < 4294967296 → s < 4294967296 → q < 256 → x < 65536 → y < 65536 → F.M d s q x y = G.M d s q x y := fun d s q x y h1 h2 h3 h4 h5 => by
    have hh : HB d s q x y := ⟨h1, h2, h3, h4, h5⟩
    rw [← F.val hF hh, ← G.val hG hh, e]
  have ta : chasB F.a (F.kd : Nat) F.a = true := by rw [hasB_iff _ _ _ hF.r1]; exact decide_eq_true rfl
  have tb : chasB F.b (F.ks : Nat) F.b = true := by rw [hasB_iff _ _ _ hF.r2]; exact decide_eq_true rfl
  have tc : prB F.p (qn : Int) = true := by
    unfold prB
    rcases hF.pq with c | c
    · rw [c]; rfl
    · rw [c]; simp
  have tl : inR F.l F.h F.l = true := decide_eq_true ⟨Nat.le_refl _, hF.lh⟩
  have tu : inR F.u F.v F.u = true := decide_eq_true ⟨Nat.le_refl _, hF.uv⟩
  obtain ⟨g1, g2, g3, g4, g5⟩ := five (A := chasB F.a (F.kd : Nat)) (A' := chasB G.a (G.kd : Nat)) (S := chasB F.b (F.ks : Nat)) (S' := chasB G.b (G.ks : Nat)) (Q := fun q => prB F.p (q : Int)) (Q' := fun q => prB G.p (q : Int)) (X := inR F.l F.h) (X' := inR G.l G.h) (Y := inR F.u F.v) (Y' := inR G.u G.v) hm hF.hb.d hF.hb.s hF.hb.p hF.hb.x hF.hb.y ta tb tc tl tu
  have pre : ∀ {a k a' k' : Nat}, a < 4294967296 → a' < 4294967296 → k ≤ 32 → k' ≤ 32 → rightB a (k : Nat) = true → rightB a' (k' : Nat) = true → (∀ d, d < 4294967296 → chasB a (k : Nat) d = chasB a' (k' : Nat) d) → a = a' ∧ k = k' := fun ha ha' hk hk' r r' h => pre_one ha ha' hk hk' (rightB_mod r) (rightB_mod r') (fun d hd => by
    have := h d hd
    rw [hasB_iff _ _ _ r, hasB_iff _ _ _ r', decide_eq_decide, Int.toNat_natCast, Int.toNat_natCast] at this
    exact this)
  obtain ⟨e1, e2⟩ := pre hF.hb.d hG.hb.d hF.kd hG.kd hF.r1 hG.r1 g1
  obtain ⟨e3, e4⟩ := pre hF.hb.s hG.hb.s hF.ks hG.ks hF.r2 hG.r2 g2
  have e5 := pro_one hF.pp hG.pp g3
  obtain ⟨e6, e7⟩ := rng_one hF.lh hG.lh hF.h hG.h g4
  obtain ⟨e8, e9⟩ := rng_one hF.uv hG.uv hF.v hG.v g5
  cases F; cases G
  simp only at e1 e2 e3 e4 e5 e6 e7 e8 e9
  subst e1; subst e2; subst e3; subst e4; subst e5; subst e6; subst e7; subst e8; subst e9
  rfl
end Go.Proofs.Ytggcbklififcgab
/- EncFilters: any two filters, and any headers. -/
namespace Go.Proofs.Ytggcbklififcgab
open Go.RowKit
set_option linter.unusedVariables false

/-- A filter that may be, as what it is. -/
theorem fb_ok {a : Nat} {n : Int} {b : Nat} {m p : Int} {l h u v : Nat} (ha : a < 4294967296) (hb : b < 4294967296) (bl : l < 65536) (bh : h < 65536) (bu : u < 65536) (bv : v < 65536) (hok : chk (rightB a n) (rightB b m) p (decide (h < l)) (decide (v < u)) = 0) :
    ∃ (F : Fb) (qn : Nat), F.Ok qn ∧ pq p = (qn : Int) ∧ F.a = a ∧ n = (F.kd : Nat) ∧ F.b = b ∧ m = (F.ks : Nat) ∧ F.p = p ∧ F.l = l ∧ F.h = h ∧ F.u = u ∧ F.v = v := by
  obtain ⟨kd, ks, qn, rfl, rfl, k1, k2, r1, r2, hp, hq1, hq2, hq3, hlh, huv⟩ := chk_ok hok
  exact ⟨⟨a, kd, b, ks, p, l, h, u, v⟩, qn, ⟨⟨ha, hb, hq2, bl, bu⟩, k1, k2, r1, r2, hp, hq3, bh, bv, hlh, huv⟩, hq1, rfl, rfl, rfl, rfl, rfl, rfl, rfl, rfl, rfl⟩
/-- A filter's set, with room enough. -/
theorem ft_of {Z : Nat → Prop} {p0 : Nat} {w : World} {ns : List Nd} (hS : Sta Z p0 w 262144 ns) {F : Fb} {qn : Nat} (hF : F.Ok qn) (hq : pq F.p = (qn : Int)) (hl : ns.length + 90888 < 262144) :
    Calls Try.prog 17 #[.pointer (some ⟨p0, 0, none⟩), fv F.a (F.kd : Nat) F.b (F.ks : Nat) F.p F.l F.h F.u F.v] w fun e w' => ∃ (g : Nat) (ns' : List Nd), e = .returned (.tuple #[.int .i64 (g : Nat), .int .i64 0]) ∧ Sta Z p0 w' 262144 ns' ∧ Hold Z w w' ∧ Gd ns ns' g (F.P qn) 90888 90824 104 DA := by
  have hE : chk (rightB F.a (F.kd : Nat)) (rightB F.b (F.ks : Nat)) F.p (decide (F.h < F.l)) (decide (F.v < F.u)) = 0 := by
    rw [hF.r1, hF.r2, decide_eq_false (by have := hF.lh; omega), decide_eq_false (by have := hF.uv; omega)]
    unfold chk
    rw [if_pos ⟨rfl, rfl⟩, if_pos hF.pp, if_neg (by simp)]
  exact (filter_any hS F.a F.kd F.b F.ks F.p F.l F.h F.u F.v hF.hb.d hF.hb.s hF.kd hF.ks hF.pp hF.hb.x hF.h hF.hb.y hF.v hE qn hq hF.hb.p).mono fun e w' ⟨R, hG, hL, _⟩ => lv_of hG hL hl
theorem encFilters_any (a : Nat) (n : Int) (b : Nat) (m p : Int) (l h u v a' : Nat) (n' : Int) (b' : Nat) (m' p' : Int) (l' h' u' v' : Nat) (ha : a < 4294967296) (hb : b < 4294967296) (bl : l < 65536) (bh : h < 65536) (bu : u < 65536) (bv : v < 65536) (ha' : a' < 4294967296) (hb' : b' < 4294967296) (bl' : l' < 65536) (bh' : h' < 65536) (bu' : u' < 65536) (bv' : v' < 65536)
    (L : List Hd) (la : Option Addr) (lc : Nat) (hcap : L.length ≤ lc) (W : World) (hL : Rw W la (L.flatMap Hd.cells)) (hok : ∀ z ∈ L, z.Ok) :
    Calls Try.prog 4 #[fv a n b m p l h u v, fv a' n' b' m' p' l' h' u' v', .slice la L.length lc] W fun e w' => e = .returned (.bool true) ∧ Below W.heap.size W w' := by
  by_cases hlong : 60 < L.length
  · exact ei_long a n b m p l h u v a' n' b' m' p' l' h' u' v' la L.length lc (by omega) W
  have hs : ¬ (60 : Int) < (L.length : Int) := by omega
  obtain ⟨E1, hE1⟩ : ∃ E, chk (rightB a n) (rightB b m) p (decide (h < l)) (decide (v < u)) = E := ⟨_, rfl⟩
  obtain ⟨E2, hE2⟩ : ∃ E, chk (rightB a' n') (rightB b' m') p' (decide (h' < l')) (decide (v' < u')) = E := ⟨_, rfl⟩
  have CK1 : Hid (∀ w, Calls Try.prog 18 #[fv a n b m p l h u v] w fun e w' => e = .returned (.int .i64 E1) ∧ Below w.heap.size w w') := Lib.hid (fun w => by
    have k := rfcheck_any a n b m p l h u v ha hb w
    rw [hE1] at k
    exact k)
  have CK2 : Hid (∀ w, Calls Try.prog 18 #[fv a' n' b' m' p' l' h' u' v'] w fun e w' => e = .returned (.int .i64 E2) ∧ Below w.heap.size w w') := Lib.hid (fun w => by
    have k := rfcheck_any a' n' b' m' p' l' h' u' v' ha' hb' w
    rw [hE2] at k
    exact k)
  have bad2 : E2 ≠ 0 → ∀ Z p0 w (ns1 : List Nd), Sta Z p0 w 262144 ns1 → Calls Try.prog 17 #[.pointer (some ⟨p0, 0, none⟩), fv a' n' b' m' p' l' h' u' v'] w fun e w' => ∃ (g : Nat) (ns : List Nd), e = .returned (.tuple #[.int .i64 (g : Nat), .int .i64 E2]) ∧ Sta Z p0 w' 262144 ns ∧ Hold Z w w' ∧ True :=
    fun h0 Z p0 w ns1 hS => ref_of hS trivial (filter_bad p0 a' n' b' m' p' l' h' u' v' ha' hb' E2 hE2 h0 w)
  by_cases h1 : E1 = 0
  · subst h1
    obtain ⟨F, qn, hF, hq, rfl, rfl, rfl, rfl, rfl, rfl, rfl, rfl, rfl⟩ := fb_ok ha hb bl bh bu bv hE1
    by_cases h2 : E2 = 0
    · subst h2
      obtain ⟨G, qm, hG, hq', rfl, rfl, rfl, rfl, rfl, rfl, rfl, rfl, rfl⟩ := fb_ok ha' hb' bl' bh' bu' bv' hE2
      by_cases hFG : F = G
      · subst hFG
        have hqq : qm = qn := by rw [hq] at hq'; omega
        subst hqq
        exact ei_same (P1 := fun g ns => Gd [bot, top] ns g (F.P qm) 90888 90824 104 DA) (P2 := fun g1 _ ns => St ns g1 (F.P qm)) F.a (F.kd : Nat) F.b (F.ks : Nat) F.p F.l F.h F.u F.v (fun z => F.M z.d z.s z.q z.x z.y) (fun z => F.M z.d z.s z.q z.x z.y) L la L.length lc rfl hs hcap W hL hok
          (Lib.hid fun Z p0 w hS => ft_of hS hF hq (by decide))
          (Lib.hid fun Z p0 w g1 ns1 hP hS => (ft_of hS hF hq (by have := hP.len; simp only [List.length_cons, List.length_nil] at this; omega)).mono fun e w' ⟨g, ns', k1, k2, k3, Gg⟩ => by
            have s1 := hP.st.ext Gg.ext hP.wf Gg.wf
            have : g = g1 := St.one Gg.wf Gg.st s1 (fun _ => rfl)
            subst this
            exact ⟨g, ns', k1, k2, k3, s1⟩)
          CK1 CK2
          (Lib.hid fun Z p0 w z g1 g2 ns hz hP hS => in_of hS hP hz (F.val hF hz))
          (Lib.hid fun Z p0 w z g1 g2 ns hz hP hS => in_of hS hP hz (F.val hF hz))
          (Lib.hid fun z w hz => rfmatch_all F.a _ F.b _ F.p F.l F.h F.u F.v z.d z.s z.q z.x z.y hF.r1 hF.r2 hF.hb.d hF.hb.s hz.d hz.s hz.p w)
          (Lib.hid fun z w hz => rfmatch_all F.a _ F.b _ F.p F.l F.h F.u F.v z.d z.s z.q z.x z.y hF.r1 hF.r2 hF.hb.d hF.hb.s hz.d hz.s hz.p w)
      · have heq : ∀ w, (Op.equalIn 10000 47 (fv F.a (F.kd : Nat) F.b (F.ks : Nat) F.p F.l F.h F.u F.v) (fv G.a (G.kd : Nat) G.b (G.ks : Nat) G.p G.l G.h G.u G.v)).run Try.prog w = .ok false w := fun w => by
          have k := eq_flt F.a (F.kd : Nat) F.b (F.ks : Nat) F.p F.l F.h F.u F.v G.a (G.kd : Nat) G.b (G.ks : Nat) G.p G.l G.h G.u G.v w
          have hb0 : (((F.a : Int) == (G.a : Int) && ((F.kd : Nat) : Int) == ((G.kd : Nat) : Int)) && (((F.b : Int) == (G.b : Int) && ((F.ks : Nat) : Int) == ((G.ks : Nat) : Int)) && ((F.p == G.p) && (((F.l : Int) == (G.l : Int) && (F.h : Int) == (G.h : Int)) && ((F.u : Int) == (G.u : Int) && (F.v : Int) == (G.v : Int)))))) = false := by
            rw [Bool.eq_false_iff]
            intro q
            simp only [Bool.and_eq_true, beq_iff_eq] at q
            apply hFG
            obtain ⟨⟨q1, q2⟩, ⟨q3, q4⟩, q5, ⟨q6, q7⟩, q8, q9⟩ := q
            cases F; cases G
            simp only at q1 q2 q3 q4 q5 q6 q7 q8 q9
            simp only [Fb.mk.injEq]
            omega
          rw [hb0] at k
          exact k
        exact ei_two (P1 := fun g ns => Gd [bot, top] ns g (F.P qn) 90888 90824 104 DA) (P2 := fun g1 g2 ns => WF ns ∧ St ns g1 (F.P qn) ∧ St ns g2 (G.P qm)) F.a (F.kd : Nat) F.b (F.ks : Nat) F.p F.l F.h F.u F.v G.a (G.kd : Nat) G.b (G.ks : Nat) G.p G.l G.h G.u G.v (fun z => F.M z.d z.s z.q z.x z.y) (fun z => G.M z.d z.s z.q z.x z.y) L la L.length lc rfl hs hcap
          (fun g1 g2 ns hP e => hFG (Fb.one hF hG (St.ne hP.2.1 hP.2.2 e))) (Lib.hid heq) W hL hok
          (Lib.hid fun Z p0 w hS => ft_of hS hF hq (by decide))
          (Lib.hid fun Z p0 w g1 ns1 hP hS => (ft_of hS hG hq' (by have := hP.len; simp only [List.length_cons, List.length_nil] at this; omega)).mono fun e w' ⟨g, ns', k1, k2, k3, Gg⟩ => ⟨g, ns', k1, k2, k3, Gg.wf, hP.st.ext Gg.ext hP.wf Gg.wf, Gg.st⟩)
          CK1 CK2
          (Lib.hid fun Z p0 w z g1 g2 ns hz hP hS => in_of hS hP.2.1 hz (F.val hF hz))
          (Lib.hid fun Z p0 w z g1 g2 ns hz hP hS => in_of hS hP.2.2 hz (G.val hG hz))
          (Lib.hid fun z w hz => rfmatch_all F.a _ F.b _ F.p F.l F.h F.u F.v z.d z.s z.q z.x z.y hF.r1 hF.r2 hF.hb.d hF.hb.s hz.d hz.s hz.p w)
          (Lib.hid fun z w hz => rfmatch_all G.a _ G.b _ G.p G.l G.h G.u G.v z.d z.s z.q z.x z.y hG.r1 hG.r2 hG.hb.d hG.hb.s hz.d hz.s hz.p w)
    · exact ei_err2 (P1 := fun _ _ => True) (P2 := fun _ _ _ => True) F.a _ F.b _ F.p F.l F.h F.u F.v a' n' b' m' p' l' h' u' v' la L.length lc hs E2 (by simp [h2]) W
        (Lib.hid fun Z p0 w hS => (ft_of hS hF hq (by decide)).mono fun e w' ⟨g, ns', k1, k2, k3, _⟩ => ⟨g, ns', k1, k2, k3, trivial⟩)
        (Lib.hid fun Z p0 w g1 ns1 _ hS => bad2 h2 Z p0 w ns1 hS) CK1 CK2
  · refine ei_err1 (P1 := fun _ ns => ns = [bot, top]) (P2 := fun _ _ _ => True) a n b m p l h u v a' n' b' m' p' l' h' u' v' la L.length lc hs E1 E2 (by simp [h1]) W
      (Lib.hid fun Z p0 w hS => ref_of hS rfl (filter_bad p0 a n b m p l h u v ha hb E1 hE1 h1 w)) (Lib.hid fun Z p0 w g1 ns1 hP hS => ?_) CK1 CK2
    by_cases h2 : E2 = 0
    · subst h2
      subst hP
      obtain ⟨G, qm, hG, hq', rfl, rfl, rfl, rfl, rfl, rfl, rfl, rfl, rfl⟩ := fb_ok ha' hb' bl' bh' bu' bv' hE2
      exact (ft_of hS hG hq' (by decide)).mono fun e w' ⟨g, ns', k1, k2, k3, _⟩ => ⟨g, ns', k1, k2, k3, trivial⟩
    · exact bad2 h2 Z p0 w ns1 hS
end Go.Proofs.Ytggcbklififcgab
/- How a prefix and a range that are handed in read (cidr/RCC without its table). -/
namespace Go.Proofs.Ytggcbklififcgab
open Go.ChangeShapes Go.WideShapes Go.ChangeAt Go.RowKit Go.Joins Go.Deep Go.WideElems Go.Maps

theorem cellsPre : Try.prog.cellsOf 24 = 2 := by kernel_rfl
theorem cellsRng : Try.prog.cellsOf 27 = 2 := by kernel_rfl
set_option maxRecDepth 100000 in
theorem pre_open {H : Type} {enc : TypeId × Value → H} {W : World} {base : Nat} {v : Value} {d : DataW H} {p : List MemPlace}
    (hv : Value.okWide Try.prog W .any base 24 v) (h : DataW.Trod enc Try.prog W 0 (fun _ => true) true 24 v d p) :
    ∃ (a : Nat) (n : Int), a < 4294967296 ∧ -9223372036854775808 ≤ n ∧ n ≤ 9223372036854775807 ∧ v = pv a n ∧ p = [] ∧ ∀ (W' : World) (sp : Nat → Bool), DataW.Trod enc Try.prog W' 0 sp true 24 v d [] := by
  obtain ⟨c0, c1, y0, y1, m, rfl, rfl, rfl, hy0, hy1⟩ := open_agg2 Try.underlying24 (by kernel_rfl) cellsPre hv h
  obtain ⟨x, e0, rfl, wx⟩ := DataW.trod_int Try.underlying22 hy0
  obtain ⟨y, e1, rfl, wy⟩ := DataW.trod_int Try.underlying3 hy1
  simp at e0 e1
  subst e0 e1
  obtain ⟨x0, x1⟩ := bounds_u32 wx
  obtain ⟨y0, y1⟩ := bounds_i64 wy
  obtain ⟨x, rfl⟩ := Int.eq_ofNat_of_zero_le x0
  refine ⟨x, y, by omega, by omega, by omega, rfl, rfl, fun W' sp => ?_⟩
  exact shut_agg2 (y0 := (.lit (.int .u32 x), [])) (y1 := (.lit (.int .i64 y), [])) Try.underlying24 (by kernel_rfl) cellsPre ⟨1, by simp [DataW.trod, Try.underlying22, wx]⟩ ⟨1, by simp [DataW.trod, Try.underlying3, wy]⟩
set_option maxRecDepth 100000 in
theorem rng_open {H : Type} {enc : TypeId × Value → H} {W : World} {base : Nat} {v : Value} {d : DataW H} {p : List MemPlace}
    (hv : Value.okWide Try.prog W .any base 27 v) (h : DataW.Trod enc Try.prog W 0 (fun _ => true) true 27 v d p) :
    ∃ (l k : Nat), l < 65536 ∧ k < 65536 ∧ v = .agg #[.int .u16 l, .int .u16 k] ∧ p = [] ∧ ∀ (W' : World) (sp : Nat → Bool), DataW.Trod enc Try.prog W' 0 sp true 27 v d [] := by
  obtain ⟨c0, c1, y0, y1, m, rfl, rfl, rfl, hy0, hy1⟩ := open_agg2 Try.underlying27 (by kernel_rfl) cellsRng hv h
  obtain ⟨x, e0, rfl, wx⟩ := DataW.trod_int Try.underlying25 hy0
  obtain ⟨y, e1, rfl, wy⟩ := DataW.trod_int Try.underlying25 hy1
  simp at e0 e1
  subst e0 e1
  obtain ⟨x0, x1⟩ := bounds_u16 wx
  obtain ⟨y0, y1⟩ := bounds_u16 wy
  obtain ⟨x, rfl⟩ := Int.eq_ofNat_of_zero_le x0
  obtain ⟨y, rfl⟩ := Int.eq_ofNat_of_zero_le y0
  refine ⟨x, y, by omega, by omega, rfl, rfl, fun W' sp => ?_⟩
  exact shut_agg2 (y0 := (.lit (.int .u16 x), [])) (y1 := (.lit (.int .u16 y), [])) Try.underlying27 (by kernel_rfl) cellsRng ⟨1, by simp [DataW.trod, Try.underlying25, wx]⟩ ⟨1, by simp [DataW.trod, Try.underlying25, wy]⟩
end Go.Proofs.Ytggcbklififcgab
/- How a filter that is handed in reads. -/
namespace Go.Proofs.Ytggcbklififcgab
open Go.ChangeShapes Go.WideShapes Go.ChangeAt Go.RowKit Go.Joins Go.Deep Go.WideElems Go.Maps

theorem array9 {α : Type} {cs : Array α} (h : cs.size = 9) : ∃ c0 c1 c2 c3 c4 c5 c6 c7 c8, cs = #[c0, c1, c2, c3, c4, c5, c6, c7, c8] := by
  obtain ⟨l⟩ := cs
  match l, h with
  | [c0, c1, c2, c3, c4, c5, c6, c7, c8], _ => exact ⟨c0, c1, c2, c3, c4, c5, c6, c7, c8, rfl⟩
theorem cellsFlt : Try.prog.cellsOf 47 = 9 := by kernel_rfl
theorem cellsInt : Try.prog.cellsOf 3 = 1 := by kernel_rfl
theorem cellsU32 : Try.prog.cellsOf 22 = 1 := by kernel_rfl
theorem cellsU16 : Try.prog.cellsOf 25 = 1 := by kernel_rfl
section
variable {H : Type} {enc : TypeId × Value → H} {P : Program} {W : World} {base : Nat} {sp : Nat → Bool} {held : Bool} {n : Nat}
set_option maxRecDepth 100000 in
theorem pre_cells {c0 c1 : Value} {y : DataW H × List MemPlace} (h : DataW.trod enc Try.prog W base sp held n 24 [c0, c1] = some y) :
    ∃ (a : Nat) (k : Int), a < 4294967296 ∧ -9223372036854775808 ≤ k ∧ k ≤ 9223372036854775807 ∧ c0 = .int .u32 a ∧ c1 = .int .i64 k := by
  obtain ⟨m0, y0, h0⟩ := trod_field Try.underlying24 h 0 22 0 rfl
  obtain ⟨m1, y1, h1⟩ := trod_field Try.underlying24 h 1 3 1 rfl
  simp only [cellsU32, cellsInt, List.drop_zero, List.drop_succ_cons, List.take_succ_cons, List.take_zero] at h0 h1
  obtain ⟨x, rfl, wx⟩ := int_cell Try.underlying22 h0
  obtain ⟨k, rfl, wk⟩ := int_cell Try.underlying3 h1
  obtain ⟨x0, x1⟩ := bounds_u32 wx
  obtain ⟨k0, k1⟩ := bounds_i64 wk
  obtain ⟨x, rfl⟩ := Int.eq_ofNat_of_zero_le x0
  exact ⟨x, k, by omega, by omega, by omega, rfl, rfl⟩
set_option maxRecDepth 100000 in
theorem rng_cells {c0 c1 : Value} {y : DataW H × List MemPlace} (h : DataW.trod enc Try.prog W base sp held n 27 [c0, c1] = some y) :
    ∃ a k : Nat, a < 65536 ∧ k < 65536 ∧ c0 = .int .u16 a ∧ c1 = .int .u16 k := by
  obtain ⟨m0, y0, h0⟩ := trod_field Try.underlying27 h 0 25 0 rfl
  obtain ⟨m1, y1, h1⟩ := trod_field Try.underlying27 h 1 25 1 rfl
  simp only [cellsU16, List.drop_zero, List.drop_succ_cons, List.take_succ_cons, List.take_zero] at h0 h1
  obtain ⟨x, rfl, wx⟩ := int_cell Try.underlying25 h0
  obtain ⟨k, rfl, wk⟩ := int_cell Try.underlying25 h1
  obtain ⟨x0, x1⟩ := bounds_u16 wx
  obtain ⟨k0, k1⟩ := bounds_u16 wk
  obtain ⟨x, rfl⟩ := Int.eq_ofNat_of_zero_le x0
  obtain ⟨k, rfl⟩ := Int.eq_ofNat_of_zero_le k0
  exact ⟨x, k, by omega, by omega, rfl, rfl⟩
/-- What a filter that is handed in may be. -/
structure FlB (a : Nat) (n : Int) (b : Nat) (m p : Int) (l h u v : Nat) : Prop where
  a : a < 4294967296
  n0 : -9223372036854775808 ≤ n
  n1 : n ≤ 9223372036854775807
  b : b < 4294967296
  m0 : -9223372036854775808 ≤ m
  m1 : m ≤ 9223372036854775807
  p0 : -9223372036854775808 ≤ p
  p1 : p ≤ 9223372036854775807
  l : l < 65536
  h : h < 65536
  u : u < 65536
  v : v < 65536
set_option maxRecDepth 100000 in
theorem flt_cells {c0 c1 c2 c3 c4 c5 c6 c7 c8 : Value} {y : DataW H × List MemPlace} (hh : DataW.trod enc Try.prog W base sp held n 47 [c0, c1, c2, c3, c4, c5, c6, c7, c8] = some y) :
    ∃ (a : Nat) (n : Int) (b : Nat) (m p : Int) (l h u v : Nat), FlB a n b m p l h u v ∧ c0 = .int .u32 a ∧ c1 = .int .i64 n ∧ c2 = .int .u32 b ∧ c3 = .int .i64 m ∧ c4 = .int .i64 p ∧ c5 = .int .u16 l ∧ c6 = .int .u16 h ∧ c7 = .int .u16 u ∧ c8 = .int .u16 v := by
  obtain ⟨m0, y0, h0⟩ := trod_field Try.underlying47 hh 0 24 0 rfl
  obtain ⟨m1, y1, h1⟩ := trod_field Try.underlying47 hh 1 24 2 rfl
  obtain ⟨m2, y2, h2⟩ := trod_field Try.underlying47 hh 2 3 4 rfl
  obtain ⟨m3, y3, h3⟩ := trod_field Try.underlying47 hh 3 27 5 rfl
  obtain ⟨m4, y4, h4⟩ := trod_field Try.underlying47 hh 4 27 7 rfl
  simp only [cellsPre, cellsRng, cellsInt, List.drop_zero, List.drop_succ_cons, List.take_succ_cons, List.take_zero] at h0 h1 h2 h3 h4
  obtain ⟨a, n, ha, n0, n1, rfl, rfl⟩ := pre_cells h0
  obtain ⟨b, m, hb, m0, m1, rfl, rfl⟩ := pre_cells h1
  obtain ⟨p, rfl, wp⟩ := int_cell Try.underlying3 h2
  obtain ⟨l, h, hl, hk, rfl, rfl⟩ := rng_cells h3
  obtain ⟨u, v, hu, hv, rfl, rfl⟩ := rng_cells h4
  obtain ⟨p0, p1⟩ := bounds_i64 wp
  exact ⟨a, n, b, m, p, l, h, u, v, ⟨ha, n0, n1, hb, m0, m1, by omega, by omega, hl, hk, hu, hv⟩, rfl, rfl, rfl, rfl, rfl, rfl, rfl, rfl, rfl⟩
set_option maxRecDepth 100000 in
theorem flt_open {v0 : Value} {d : DataW H} {p0 : List MemPlace} (hv : Value.okWide Try.prog W .any base 47 v0) (hh : DataW.Trod enc Try.prog W 0 sp held 47 v0 d p0) :
    ∃ (a : Nat) (n : Int) (b : Nat) (m p : Int) (l h u v : Nat), FlB a n b m p l h u v ∧ v0 = fv a n b m p l h u v := by
  obtain ⟨cs, rfl, hsz⟩ := okWide_struct Try.underlying47 hv
  obtain ⟨c0, c1, c2, c3, c4, c5, c6, c7, c8, rfl⟩ := array9 (hsz.trans cellsFlt)
  obtain ⟨fuel, hf⟩ := hh
  obtain ⟨a, n, b, m, p, l, h, u, v, B, rfl, rfl, rfl, rfl, rfl, rfl, rfl, rfl, rfl⟩ := flt_cells (show DataW.trod enc Try.prog W 0 sp held fuel 47 [c0, c1, c2, c3, c4, c5, c6, c7, c8] = some (d, p0) by simpa [Value.cells] using hf)
  exact ⟨a, n, b, m, p, l, h, u, v, B, rfl⟩
end
end Go.Proofs.Ytggcbklififcgab
