/- Texts joined, in their order: AW0, AW. -/
import Derived.Test.YteiemcnjcdjglaaGfe77df2618
/- A bit held: how the work lies; what a step comes to. -/
namespace Go.Proofs.Yteiemcnjcdjglaa
open Go.RowKit Go.Maps Go.MapKept Go.ChangeMaps Go.WideElems Go.Joins
open Go.WideMaps (KeyLaw)
set_option linter.unusedVariables false

def ikv (k : Nat) : Value := .int .i64 (k : Nat)
theorem ikv_inj (a b : Nat) (h : ikv a = ikv b) : a = b := by simp [ikv] at h; omega
theorem keyedInt : Keyed Try.prog 3 := int_keyed Try.underlying3
theorem key_int (k : Nat) (h : k ≤ 9223372036854775807) : keyOf Try.prog 3 (ikv k) = some (.int .i64 (k : Nat)) := keyOf_int_mk Try.underlying3 (wf64 k h)
/-- The work of one Restrict lies there. -/
structure Nw (w : World) (a : AL) (jb db bit : Nat) (on : Bool) (m : Memo1) : Prop where
  s : Blk w jb [.pointer (some ⟨a.p, 0, none⟩), .int .i64 (bit : Nat), .bool on, .map (some db)]
  d : MapG Try.prog 3 3 ikv w db m
  j : jb ≠ a.p ∧ jb ≠ a.q ∧ jb ≠ a.m
  e : db ≠ a.p ∧ db ≠ a.q ∧ db ≠ a.m
theorem Nw.ne {w : World} {a : AL} {jb db bit : Nat} {on : Bool} {m : Memo1} (h : Nw w a jb db bit on m) : jb ≠ db := by
  obtain ⟨es, clock, h2⟩ := h.d.isMap
  intro e
  have := h.s.1 0 _ rfl
  rw [e] at this
  simp [World.cell?, h2] at this
theorem Nw.on' {w w' : World} {a : AL} {jb db bit : Nat} {on : Bool} {m : Memo1} (h : Nw w a jb db bit on m) (hb : Below w.heap.size w w') : Nw w' a jb db bit on m :=
  ⟨h.s.on hb, h.d.same (hb.block _ h.d.lt), h.j, h.e⟩
theorem Nw.tr {w w' : World} {a a' : AL} {jb db bit : Nat} {on : Bool} {m : Memo1} (h : Nw w a jb db bit on m) (t : Tr (fun _ => False) w a w' a') : Nw w' a' jb db bit on m := by
  have o1 : Off (fun _ => False) a jb := ⟨h.j.1, h.j.2.1, h.j.2.2, fun q => q⟩
  have o2 : Off (fun _ => False) a db := ⟨h.e.1, h.e.2.1, h.e.2.2, fun q => q⟩
  have p1 := o1.on t h.s.lt
  have p2 := o2.on t h.d.lt
  refine ⟨?_, h.d.same (t.k.block _ h.d.lt o2.not), ⟨p1.1, p1.2.1, p1.2.2.1⟩, ⟨p2.1, p2.2.1, p2.2.2.1⟩⟩
  rw [t.m.1]; exact h.s.tr t o1
theorem MV1.few {bit : Nat} {on : Bool} {ns : List Nd} {m : Memo1} (h : MV1 bit on ns m) (hl : ns.length ≤ 262144) : m.length ≤ 262144 := by
  have := nodup_sub _ (List.range 262144) h.one (fun v hv => by
    obtain ⟨x, hx, rfl⟩ := List.mem_map.1 hv
    obtain ⟨x1, -⟩ := h.ok x hx
    rw [List.mem_range]; omega)
  rw [List.length_map, List.length_range] at this
  exact this
theorem setF_step {bit : Nat} {on : Bool} {most k : Nat} {ns : List Nd} {m : Memo1} {f : Nat} (hbit : bit < 104) (h : WF ns) (hm : MV1 bit on ns m) (hf : f < ns.length) {v l hi : Nat} (hn : ns.getD f bot = ⟨v, l, hi⟩) (hk : 105 ≤ k + 1 + v) (c1 : v < bit) (hl : look1 f m = none) :
    l < ns.length ∧ 105 ≤ k + lv ns l ∧
    ∀ r1 ns1 m1, setF bit on most k ns m l = (r1, ns1, m1) → WF ns1 ∧ MV1 bit on ns1 m1 ∧ (r1 = none → setF bit on most (k + 1) ns m f = (none, ns1, m1)) ∧
      ∀ lo, r1 = some lo → lo < ns1.length ∧ hi < ns1.length ∧ 105 ≤ k + lv ns1 hi ∧
        ∀ r2 ns2 m2, setF bit on most k ns1 m1 hi = (r2, ns2, m2) → WF ns2 ∧ MV1 bit on ns2 m2 ∧ (r2 = none → setF bit on most (k + 1) ns m f = (none, ns2, m2)) ∧
          ∀ h2, r2 = some h2 → h2 < ns2.length ∧ lo < ns2.length ∧ ∀ r3 ns3, numF most ns2 ⟨v, lo, h2⟩ = (r3, ns3) →
            (r3 = none → setF bit on most (k + 1) ns m f = (none, ns3, m2)) ∧ (∀ r, r3 = some r → setF bit on most (k + 1) ns m f = (some r, ns3, (f, r) :: m2) ∧ f ∉ m2.map (·.1) ∧ r < ns3.length) := by
  have hv : lv ns f = v := by unfold lv; rw [hn]
  have hgl : (ns.getD f bot).l = l := by rw [hn]
  have hgh : (ns.getD f bot).h = hi := by rw [hn]
  have n1 : ¬ bit < v := by omega
  have n2 : ¬ v = bit := by omega
  obtain ⟨xl, xh, -, xvl, xvh, -⟩ := h.parts (lv_two h hf (by omega)) hf
  rw [hgl] at xl xvl
  rw [hgh] at xh xvh
  rw [hv] at xvl xvh
  refine ⟨by omega, by omega, fun r1 ns1 m1 e1 => ?_⟩
  obtain ⟨M1, V1, -⟩ := setF_made bit on most hbit k ns m l h hm (by omega) (by omega)
  rw [e1] at M1 V1
  replace M1 : Made most ns ns1 _ r1 _ := M1
  replace V1 : MV1 bit on ns1 m1 := V1
  have l1 := M1.ext.len
  refine ⟨M1.wf, V1, fun q => ?_, fun lo q => ?_⟩
  · subst q; unfold setF; rw [hv, if_neg n1, if_neg n2, hl]; simp only; rw [hgl, e1]
  subst q
  have w1 : lv ns1 hi = lv ns hi := M1.ext.lv (by omega)
  refine ⟨(M1.set lo rfl).1, by omega, by omega, fun r2 ns2 m2 e2 => ?_⟩
  obtain ⟨M2, V2, -⟩ := setF_made bit on most hbit k ns1 m1 hi M1.wf V1 (by omega) (by omega)
  rw [e2] at M2 V2
  replace M2 : Made most ns1 ns2 _ r2 _ := M2
  replace V2 : MV1 bit on ns2 m2 := V2
  have l2 := M2.ext.len
  refine ⟨M2.wf, V2, fun q => ?_, fun h2 q => ?_⟩
  · subst q; unfold setF; rw [hv, if_neg n1, if_neg n2, hl]; simp only; rw [hgl, e1]; simp only; rw [hgh, e2]
  subst q
  refine ⟨(M2.set h2 rfl).1, by have := (M1.set lo rfl).1; omega, fun r3 ns3 e3 => ⟨fun q => ?_, fun r q => ?_⟩⟩
  · subst q; unfold setF; rw [hv, if_neg n1, if_neg n2, hl]; simp only; rw [hgl, e1]; simp only; rw [hgh, e2]; simp only; rw [e3]
  · subst q
    have e : setF bit on most (k + 1) ns m f = (some r, ns3, (f, r) :: m2) := by unfold setF; rw [hv, if_neg n1, if_neg n2, hl]; simp only; rw [hgl, e1]; simp only; rw [hgh, e2]; simp only; rw [e3]
    obtain ⟨M3, V3, -⟩ := setF_made bit on most hbit (k + 1) ns m f h hm hf (by omega)
    rw [e] at V3 M3
    have := V3.one
    simp only [List.map_cons] at this
    exact ⟨e, (List.nodup_cons.1 this).1, (M3.set r rfl).1⟩
end Go.Proofs.Yteiemcnjcdjglaa
/- A set with a bit held: the walk. -/
namespace Go.Proofs.Yteiemcnjcdjglaa
open Go.RowKit Go.Maps Go.MapKept Go.ChangeMaps Go.WideElems Go.Joins
set_option linter.unusedVariables false

theorem TrWeak {X : Nat → Prop} {w w' : World} {a a' : AL} (t : Tr (fun _ => False) w a w' a') : Tr X w a w' a' := ⟨t.k.mono (fun i _ q => q.imp id (fun r => r.elim)), t.m⟩
set_option maxRecDepth 100000 in
set_option maxHeartbeats 8000000 in
theorem set_any (bit : Nat) (on : Bool) (most jb db : Nat) (hbit : bit < 104) : ∀ (k : Nat) (ns : List Nd) (m : Memo1) (f : Nat) (w : World) (a : AL), Ar w a most ns → WF ns → MV1 bit on ns m → Nw w a jb db bit on m → f < ns.length → 105 ≤ k + lv ns f →
    Calls Try.prog 60 #[.pointer (some ⟨jb, 0, none⟩), .int .i64 (f : Nat)] w fun e w' => e = .returned (.tuple #[.int .i64 (rv (setF bit on most k ns m f).1 : Nat), .int .i64 (er (setF bit on most k ns m f).1)]) ∧ ∃ a', Ar w' a' most (setF bit on most k ns m f).2.1 ∧ Nw w' a' jb db bit on (setF bit on most k ns m f).2.2 ∧ Tr (fun i => i = db) w a w' a' := by
  intro k
  induction k with
  | zero => intro ns m f w a _ h _ _ _ hk; have := lv_le h (f := f); omega
  | succ k ih =>
    intro ns m f w a hA hW hM hN hf hk
    have IH := Lib.hid ih
    clear ih
    obtain ⟨R, hR⟩ : ∃ R, setF bit on most (k + 1) ns m f = R := ⟨_, rfl⟩
    rw [hR]
    have HR := Lib.hid hR
    have A0 := Lib.hid hA
    have N0 := Lib.hid hN
    have HW := Lib.hid hW
    have HM := Lib.hid hM
    have hlen := hA.len
    obtain ⟨n, hn⟩ : ∃ n, ns.getD f bot = n := ⟨_, rfl⟩
    obtain ⟨v, l, hi⟩ := n
    have hv : lv ns f = v := by unfold lv; rw [hn]
    have hvle : v ≤ 104 := by have := lv_le hW (f := f); omega
    rw [hv] at hk
    have hk0 := Lib.hid hk
    have HK := Lib.hid (key_int f (by omega))
    have HN := Lib.hid hn
    have n_0 : w.cell? ⟨a.q, f * 3, none⟩ = some (.int .i64 (v : Nat)) := A0.out.node (j := 0) hf (by rw [hn]; rfl)
    have n_1 : w.cell? ⟨a.q, f * 3 + 1, none⟩ = some (.int .i64 (l : Nat)) := A0.out.node (j := 1) hf (by rw [hn]; rfl)
    have n_2 : w.cell? ⟨a.q, f * 3 + 2, none⟩ = some (.int .i64 (hi : Nat)) := A0.out.node (j := 2) hf (by rw [hn]; rfl)
    obtain ⟨a_0, a_1, a_2⟩ : _ ∧ _ ∧ _ := ⟨A0.out.s.1 0 _ rfl, A0.out.s.1 1 _ rfl, A0.out.s.1 2 _ rfl⟩
    obtain ⟨j_0, j_1, j_2, j_3⟩ : _ ∧ _ ∧ _ ∧ _ := ⟨N0.out.s.1 0 _ rfl, N0.out.s.1 1 _ rfl, N0.out.s.1 2 _ rfl, N0.out.s.1 3 _ rfl⟩
    have HV := Lib.hid hv
    clear hR hA hW hM hN hk hn hv
    go_enter Try.func60, Try.ntmps60
    go_upto_region 2 with fail
    refine at_code (S := fun W => Blk W w.heap.size [.int .i64 (v : Nat), .int .i64 (l : Nat), .int .i64 (hi : Nat)] ∧ Below w.heap.size w W) ⟨Blk.new _ _ _, bel_al (Below.refl _ _) _⟩ (fun W1 hW => ?_)
    obtain ⟨hX, hb⟩ := hW
    have X1 := Lib.hid hX
    have B1 := Lib.hid hb
    have A1 := Lib.hid (A0.out.on hb)
    have N1 := Lib.hid (N0.out.on' hb)
    clear hX hb n_0 n_1 n_2 a_0 a_1 a_2 j_0 j_1 j_2 j_3
    obtain ⟨x_0, x_1, x_2⟩ : _ ∧ _ ∧ _ := ⟨X1.out.1 0 _ rfl, X1.out.1 1 _ rfl, X1.out.1 2 _ rfl⟩
    obtain ⟨j_0, j_1, j_2, j_3⟩ : _ ∧ _ ∧ _ ∧ _ := ⟨N1.out.s.1 0 _ rfl, N1.out.s.1 1 _ rfl, N1.out.s.1 2 _ rfl, N1.out.s.1 3 _ rfl⟩
    by_cases c1 : bit < v
    · have hz : R = (some f, ns, m) := by rw [← HR.out]; unfold setF; rw [HV.out, if_pos c1]
      subst hz
      have c1' : (bit : Int) < (v : Int) := by omega
      refine wp_region_noPanic ?_
      refine wp_region_along (S := fun w' => w' = W1.drew) ([(0, true), (1, true), (2, true), (3, true), (4, true), (5, true), (6, true), (7, true)]) (by kernel_rfl) (by as_aux_lemma => kernel_rfl) (by kernel_rfl) (by kernel_rfl) (by as_aux_lemma => kernel_rfl) (by as_aux_lemma => kernel_rfl) (fun _ _ _ _ _ h => h) rfl (fun hH => ?_)
      simp only [stepsOf, pickOp]
      iterate 8 (first | (refine along_skip (by rfl) ?_; try simp only [Act.put, List.setIfInBounds_toArray, List.set_cons_zero, List.set_cons_succ]) | (refine along_pure ?_ (by rfl) (fun w hSw => ?_) ?_; rotate_left; (obtain rfl := hSw; go_simp; try with_reducible rfl); try simp only [Act.put, List.setIfInBounds_toArray, List.set_cons_zero, List.set_cons_succ]))
      refine along_end (NoPanic.normal ?_)
      clear hH
      obtain ⟨W2, hW⟩ : ∃ W, W = W1.drew := ⟨_, rfl⟩
      have X2 := Lib.hid (show Blk W2 w.heap.size [.int .i64 (v : Nat), .int .i64 (l : Nat), .int .i64 (hi : Nat)] by rw [hW]; exact X1.out.drew)
      have A2 := Lib.hid (show Ar W2 a most ns by rw [hW]; exact A1.out.on (Below.refl _ _).drew)
      have N2 := Lib.hid (show Nw W2 a jb db bit on m by rw [hW]; exact N1.out.on' (Below.refl _ _).drew)
      have B2 := Lib.hid (show Below w.heap.size w W2 by rw [hW]; exact B1.out.drew)
      rw [← hW]
      clear hW x_0 x_1 x_2 j_0 j_1 j_2 j_3 X1 A1 N1 B1
      obtain ⟨x_0, x_1, x_2⟩ : _ ∧ _ ∧ _ := ⟨X2.out.1 0 _ rfl, X2.out.1 1 _ rfl, X2.out.1 2 _ rfl⟩
      obtain ⟨j_0, j_1, j_2, j_3⟩ : _ ∧ _ ∧ _ ∧ _ := ⟨N2.out.s.1 0 _ rfl, N2.out.s.1 1 _ rfl, N2.out.s.1 2 _ rfl, N2.out.s.1 3 _ rfl⟩
      go_wp2
      go_ret2
      exact ⟨rfl, a, A2.out.on (Below.refl _ _), N2.out, ⟨Keep.of B2.out, Mv.refl _ _⟩⟩
    · have c1' : ¬ (bit : Int) < (v : Int) := by omega
      refine wp_region_noPanic ?_
      refine wp_region_along (S := fun w' => w' = W1.drew) ([(0, true), (1, true), (2, true), (3, true), (4, true), (5, true), (6, true), (7, true)]) (by kernel_rfl) (by as_aux_lemma => kernel_rfl) (by kernel_rfl) (by kernel_rfl) (by as_aux_lemma => kernel_rfl) (by as_aux_lemma => kernel_rfl) (fun _ _ _ _ _ h => h) rfl (fun hH => ?_)
      simp only [stepsOf, pickOp]
      iterate 8 (first | (refine along_skip (by rfl) ?_; try simp only [Act.put, List.setIfInBounds_toArray, List.set_cons_zero, List.set_cons_succ]) | (refine along_pure ?_ (by rfl) (fun w hSw => ?_) ?_; rotate_left; (obtain rfl := hSw; go_simp; try with_reducible rfl); try simp only [Act.put, List.setIfInBounds_toArray, List.set_cons_zero, List.set_cons_succ]))
      refine along_end (NoPanic.normal ?_)
      clear hH
      obtain ⟨W2, hW⟩ : ∃ W, W = W1.drew := ⟨_, rfl⟩
      have X2 := Lib.hid (show Blk W2 w.heap.size [.int .i64 (v : Nat), .int .i64 (l : Nat), .int .i64 (hi : Nat)] by rw [hW]; exact X1.out.drew)
      have A2 := Lib.hid (show Ar W2 a most ns by rw [hW]; exact A1.out.on (Below.refl _ _).drew)
      have N2 := Lib.hid (show Nw W2 a jb db bit on m by rw [hW]; exact N1.out.on' (Below.refl _ _).drew)
      have B2 := Lib.hid (show Below w.heap.size w W2 by rw [hW]; exact B1.out.drew)
      rw [← hW]
      clear hW x_0 x_1 x_2 j_0 j_1 j_2 j_3 X1 A1 N1 B1
      obtain ⟨x_0, x_1, x_2⟩ : _ ∧ _ ∧ _ := ⟨X2.out.1 0 _ rfl, X2.out.1 1 _ rfl, X2.out.1 2 _ rfl⟩
      obtain ⟨j_0, j_1, j_2, j_3⟩ : _ ∧ _ ∧ _ ∧ _ := ⟨N2.out.s.1 0 _ rfl, N2.out.s.1 1 _ rfl, N2.out.s.1 2 _ rfl, N2.out.s.1 3 _ rfl⟩
      go_upto_region 4 with fail
      by_cases c2 : v = bit
      · subst c2
        cases on with
        | true =>
          have hz : R = (some hi, ns, m) := by rw [← HR.out]; unfold setF; rw [HV.out, if_neg c1, if_pos rfl, HN.out]; rfl
          subst hz
          refine wp_region_noPanic ?_
          refine wp_region_along (S := fun w' => w' = W2.drew) ([(0, true), (1, true), (2, true), (3, true), (4, true), (5, true), (6, true), (7, true), (8, true), (9, true), (10, true), (11, true), (12, true), (13, true)]) (by kernel_rfl) (by as_aux_lemma => kernel_rfl) (by kernel_rfl) (by kernel_rfl) (by as_aux_lemma => kernel_rfl) (by as_aux_lemma => kernel_rfl) (fun _ _ _ _ _ h => h) rfl (fun hH => ?_)
          simp only [stepsOf, pickOp]
          iterate 14 (first | (refine along_skip (by rfl) ?_; try simp only [Act.put, List.setIfInBounds_toArray, List.set_cons_zero, List.set_cons_succ]) | (refine along_pure ?_ (by rfl) (fun w hSw => ?_) ?_; rotate_left; (obtain rfl := hSw; go_simp; try with_reducible rfl); try simp only [Act.put, List.setIfInBounds_toArray, List.set_cons_zero, List.set_cons_succ]))
          refine along_end (NoPanic.normal ?_)
          clear hH
          obtain ⟨W3, hW⟩ : ∃ W, W = W2.drew := ⟨_, rfl⟩
          have X3 := Lib.hid (show Blk W3 w.heap.size [.int .i64 (v : Nat), .int .i64 (l : Nat), .int .i64 (hi : Nat)] by rw [hW]; exact X2.out.drew)
          have A3 := Lib.hid (show Ar W3 a most ns by rw [hW]; exact A2.out.on (Below.refl _ _).drew)
          have N3 := Lib.hid (show Nw W3 a jb db v true m by rw [hW]; exact N2.out.on' (Below.refl _ _).drew)
          have B3 := Lib.hid (show Below w.heap.size w W3 by rw [hW]; exact B2.out.drew)
          rw [← hW]
          clear hW x_0 x_1 x_2 j_0 j_1 j_2 j_3 X2 A2 N2 B2
          obtain ⟨x_0, x_1, x_2⟩ : _ ∧ _ ∧ _ := ⟨X3.out.1 0 _ rfl, X3.out.1 1 _ rfl, X3.out.1 2 _ rfl⟩
          obtain ⟨j_0, j_1, j_2, j_3⟩ : _ ∧ _ ∧ _ ∧ _ := ⟨N3.out.s.1 0 _ rfl, N3.out.s.1 1 _ rfl, N3.out.s.1 2 _ rfl, N3.out.s.1 3 _ rfl⟩
          go_wp2
          go_ret2
          exact ⟨rfl, a, A3.out.on (Below.refl _ _), N3.out, ⟨Keep.of B3.out, Mv.refl _ _⟩⟩
        | false =>
          have hz : R = (some l, ns, m) := by rw [← HR.out]; unfold setF; rw [HV.out, if_neg c1, if_pos rfl, HN.out]; rfl
          subst hz
          refine wp_region_noPanic ?_
          refine wp_region_along (S := fun w' => w' = W2.drew) ([(0, true), (1, true), (2, true), (3, true), (4, true), (5, true), (6, true), (7, true), (8, true), (9, true), (10, true), (11, true), (12, true), (13, true)]) (by kernel_rfl) (by as_aux_lemma => kernel_rfl) (by kernel_rfl) (by kernel_rfl) (by as_aux_lemma => kernel_rfl) (by as_aux_lemma => kernel_rfl) (fun _ _ _ _ _ h => h) rfl (fun hH => ?_)
          simp only [stepsOf, pickOp]
          iterate 14 (first | (refine along_skip (by rfl) ?_; try simp only [Act.put, List.setIfInBounds_toArray, List.set_cons_zero, List.set_cons_succ]) | (refine along_pure ?_ (by rfl) (fun w hSw => ?_) ?_; rotate_left; (obtain rfl := hSw; go_simp; try with_reducible rfl); try simp only [Act.put, List.setIfInBounds_toArray, List.set_cons_zero, List.set_cons_succ]))
          refine along_end (NoPanic.normal ?_)
          clear hH
          obtain ⟨W3, hW⟩ : ∃ W, W = W2.drew := ⟨_, rfl⟩
          have X3 := Lib.hid (show Blk W3 w.heap.size [.int .i64 (v : Nat), .int .i64 (l : Nat), .int .i64 (hi : Nat)] by rw [hW]; exact X2.out.drew)
          have A3 := Lib.hid (show Ar W3 a most ns by rw [hW]; exact A2.out.on (Below.refl _ _).drew)
          have N3 := Lib.hid (show Nw W3 a jb db v false m by rw [hW]; exact N2.out.on' (Below.refl _ _).drew)
          have B3 := Lib.hid (show Below w.heap.size w W3 by rw [hW]; exact B2.out.drew)
          rw [← hW]
          clear hW x_0 x_1 x_2 j_0 j_1 j_2 j_3 X2 A2 N2 B2
          obtain ⟨x_0, x_1, x_2⟩ : _ ∧ _ ∧ _ := ⟨X3.out.1 0 _ rfl, X3.out.1 1 _ rfl, X3.out.1 2 _ rfl⟩
          obtain ⟨j_0, j_1, j_2, j_3⟩ : _ ∧ _ ∧ _ ∧ _ := ⟨N3.out.s.1 0 _ rfl, N3.out.s.1 1 _ rfl, N3.out.s.1 2 _ rfl, N3.out.s.1 3 _ rfl⟩
          go_upto_region 6 with fail
          refine wp_region_noPanic ?_
          refine wp_region_along (S := fun w' => w' = W3.drew) ([(0, true), (1, true), (2, true), (3, true), (4, true), (5, true), (6, true), (7, true)]) (by kernel_rfl) (by as_aux_lemma => kernel_rfl) (by kernel_rfl) (by kernel_rfl) (by as_aux_lemma => kernel_rfl) (by as_aux_lemma => kernel_rfl) (fun _ _ _ _ _ h => h) rfl (fun hH => ?_)
          simp only [stepsOf, pickOp]
          iterate 8 (first | (refine along_skip (by rfl) ?_; try simp only [Act.put, List.setIfInBounds_toArray, List.set_cons_zero, List.set_cons_succ]) | (refine along_pure ?_ (by rfl) (fun w hSw => ?_) ?_; rotate_left; (obtain rfl := hSw; go_simp; try with_reducible rfl); try simp only [Act.put, List.setIfInBounds_toArray, List.set_cons_zero, List.set_cons_succ]))
          refine along_end (NoPanic.normal ?_)
          clear hH
          obtain ⟨W4, hW⟩ : ∃ W, W = W3.drew := ⟨_, rfl⟩
          have X4 := Lib.hid (show Blk W4 w.heap.size [.int .i64 (v : Nat), .int .i64 (l : Nat), .int .i64 (hi : Nat)] by rw [hW]; exact X3.out.drew)
          have A4 := Lib.hid (show Ar W4 a most ns by rw [hW]; exact A3.out.on (Below.refl _ _).drew)
          have N4 := Lib.hid (show Nw W4 a jb db v false m by rw [hW]; exact N3.out.on' (Below.refl _ _).drew)
          have B4 := Lib.hid (show Below w.heap.size w W4 by rw [hW]; exact B3.out.drew)
          rw [← hW]
          clear hW x_0 x_1 x_2 j_0 j_1 j_2 j_3 X3 A3 N3 B3
          obtain ⟨x_0, x_1, x_2⟩ : _ ∧ _ ∧ _ := ⟨X4.out.1 0 _ rfl, X4.out.1 1 _ rfl, X4.out.1 2 _ rfl⟩
          obtain ⟨j_0, j_1, j_2, j_3⟩ : _ ∧ _ ∧ _ ∧ _ := ⟨N4.out.s.1 0 _ rfl, N4.out.s.1 1 _ rfl, N4.out.s.1 2 _ rfl, N4.out.s.1 3 _ rfl⟩
          go_wp2
          go_ret2
          exact ⟨rfl, a, A4.out.on (Below.refl _ _), N4.out, ⟨Keep.of B4.out, Mv.refl _ _⟩⟩
      · have c2' : ((v : Int) == (bit : Int)) = false := by simp; omega
        have c2'' : ¬ (v : Int) = (bit : Int) := by omega
        refine wp_region_noPanic ?_
        refine wp_region_along (S := fun w' => w' = W2.drew) ([(0, true), (1, true), (2, true), (3, true), (4, true), (5, true), (6, true), (7, true), (8, true), (9, true), (10, true), (11, true), (12, true), (13, true)]) (by kernel_rfl) (by as_aux_lemma => kernel_rfl) (by kernel_rfl) (by kernel_rfl) (by as_aux_lemma => kernel_rfl) (by as_aux_lemma => kernel_rfl) (fun _ _ _ _ _ h => h) rfl (fun hH => ?_)
        simp only [stepsOf, pickOp]
        iterate 14 (first | (refine along_skip (by rfl) ?_; try simp only [Act.put, List.setIfInBounds_toArray, List.set_cons_zero, List.set_cons_succ]) | (refine along_pure ?_ (by rfl) (fun w hSw => ?_) ?_; rotate_left; (obtain rfl := hSw; go_simp; try with_reducible rfl); try simp only [Act.put, List.setIfInBounds_toArray, List.set_cons_zero, List.set_cons_succ]))
        refine along_end (NoPanic.normal ?_)
        clear hH
        obtain ⟨W3, hW⟩ : ∃ W, W = W2.drew := ⟨_, rfl⟩
        have X3 := Lib.hid (show Blk W3 w.heap.size [.int .i64 (v : Nat), .int .i64 (l : Nat), .int .i64 (hi : Nat)] by rw [hW]; exact X2.out.drew)
        have A3 := Lib.hid (show Ar W3 a most ns by rw [hW]; exact A2.out.on (Below.refl _ _).drew)
        have N3 := Lib.hid (show Nw W3 a jb db bit on m by rw [hW]; exact N2.out.on' (Below.refl _ _).drew)
        have B3 := Lib.hid (show Below w.heap.size w W3 by rw [hW]; exact B2.out.drew)
        rw [← hW]
        clear hW x_0 x_1 x_2 j_0 j_1 j_2 j_3 X2 A2 N2 B2
        obtain ⟨x_0, x_1, x_2⟩ : _ ∧ _ ∧ _ := ⟨X3.out.1 0 _ rfl, X3.out.1 1 _ rfl, X3.out.1 2 _ rfl⟩
        obtain ⟨j_0, j_1, j_2, j_3⟩ : _ ∧ _ ∧ _ ∧ _ := ⟨N3.out.s.1 0 _ rfl, N3.out.s.1 1 _ rfl, N3.out.s.1 2 _ rfl, N3.out.s.1 3 _ rfl⟩
        go_upto_region 6 with fail
        refine wp_region_noPanic ?_
        refine wp_region_along (S := fun w' => w' = W3.drew) ([(0, true), (1, true), (2, true), (3, true), (4, true), (5, true), (6, true), (7, true)]) (by kernel_rfl) (by as_aux_lemma => kernel_rfl) (by kernel_rfl) (by kernel_rfl) (by as_aux_lemma => kernel_rfl) (by as_aux_lemma => kernel_rfl) (fun _ _ _ _ _ h => h) rfl (fun hH => ?_)
        simp only [stepsOf, pickOp]
        iterate 8 (first | (refine along_skip (by rfl) ?_; try simp only [Act.put, List.setIfInBounds_toArray, List.set_cons_zero, List.set_cons_succ]) | (refine along_pure ?_ (by rfl) (fun w hSw => ?_) ?_; rotate_left; (obtain rfl := hSw; go_simp; try with_reducible rfl); try simp only [Act.put, List.setIfInBounds_toArray, List.set_cons_zero, List.set_cons_succ]))
        refine along_end (NoPanic.normal ?_)
        clear hH
        obtain ⟨W4, hW⟩ : ∃ W, W = W3.drew := ⟨_, rfl⟩
        have X4 := Lib.hid (show Blk W4 w.heap.size [.int .i64 (v : Nat), .int .i64 (l : Nat), .int .i64 (hi : Nat)] by rw [hW]; exact X3.out.drew)
        have A4 := Lib.hid (show Ar W4 a most ns by rw [hW]; exact A3.out.on (Below.refl _ _).drew)
        have N4 := Lib.hid (show Nw W4 a jb db bit on m by rw [hW]; exact N3.out.on' (Below.refl _ _).drew)
        have B4 := Lib.hid (show Below w.heap.size w W4 by rw [hW]; exact B3.out.drew)
        rw [← hW]
        clear hW x_0 x_1 x_2 j_0 j_1 j_2 j_3 X3 A3 N3 B3
        obtain ⟨x_0, x_1, x_2⟩ : _ ∧ _ ∧ _ := ⟨X4.out.1 0 _ rfl, X4.out.1 1 _ rfl, X4.out.1 2 _ rfl⟩
        obtain ⟨j_0, j_1, j_2, j_3⟩ : _ ∧ _ ∧ _ ∧ _ := ⟨N4.out.s.1 0 _ rfl, N4.out.s.1 1 _ rfl, N4.out.s.1 2 _ rfl, N4.out.s.1 3 _ rfl⟩
        clear c2' c2''
        cases hl : look1 f m with
        | some r =>
          have hz : R = (some r, ns, m) := by rw [← HR.out]; unfold setF; rw [HV.out, if_neg c1, if_neg c2, hl]
          subst hz
          have hlk : (Instr.lookup 101 (.map (some db)) (.int .i64 (f : Nat)) true).run Try.prog W4 = .ok (.tuple #[.int .i64 (r : Nat), .bool true]) W4 := mapG_some keyedInt Try.underlying101 zeroInt ikv_inj true N4.out.d (k := f) HK.out (look1_some hl) HM.out.one
          go_wp2
          go_ret2
          exact ⟨rfl, a, A4.out.on (Below.refl _ _), N4.out, ⟨Keep.of B4.out, Mv.refl _ _⟩⟩
        | none =>
          have hlk : (Instr.lookup 101 (.map (some db)) (.int .i64 (f : Nat)) true).run Try.prog W4 = .ok (.tuple #[.int .i64 0, .bool false]) W4 := mapG_none keyedInt Try.underlying101 zeroInt ikv_inj true N4.out.d (k := f) HK.out (look1_none hl)
          have ST := Lib.hid (setF_step (most := most) (k := k) hbit HW.out HM.out hf HN.out (by have := hk0.out; omega) (by omega) hl)
          clear hl
          have OX := Lib.hid (show Off (fun i => i = db) a w.heap.size from ⟨by have := A0.out.pl; omega, by have := A0.out.ql; omega, by have := A0.out.ml; omega, by have := N0.out.d.lt; omega⟩)
          obtain ⟨s1, s2, ST'⟩ := ST.out
          obtain ⟨r1, ns1, m1, e1⟩ : ∃ r1 ns1 m1, setF bit on most k ns m l = (r1, ns1, m1) := ⟨_, _, _, rfl⟩
          have C1 := Lib.hid (IH.out ns m l W4 a A4.out HW.out HM.out N4.out s1 s2)
          rw [e1] at C1
          have ST1 := Lib.hid (ST' r1 ns1 m1 e1)
          clear s1 s2 ST' ST e1
          cases r1 with
          | none =>
            have hz : R = (none, ns1, m1) := by rw [← HR.out]; exact ST1.out.2.2.1 rfl
            subst hz
            replace C1 : Hid (Calls Try.prog _ _ W4 fun e w' => e = .returned (.tuple #[.int .i64 0, .int .i64 20]) ∧ ∃ a', Ar w' a' most ns1 ∧ Nw w' a' jb db bit on m1 ∧ Tr (fun i => i = db) W4 a w' a') := C1
            go_wp2_with fail
            refine C1.out.mono ?_
            rintro e w3 ⟨rfl, a1, hA, hN, hT⟩
            have F := Lib.hid (And.intro hA (And.intro hN hT))
            clear hA hN hT
            go_wp2
            go_ret2
            exact ⟨rfl, a1, F.out.1, F.out.2.1, Tr.ahead B4.out F.out.2.2⟩
          | some lo =>
            replace C1 : Hid (Calls Try.prog _ _ W4 fun e w' => e = .returned (.tuple #[.int .i64 (lo : Nat), .int .i64 0]) ∧ ∃ a', Ar w' a' most ns1 ∧ Nw w' a' jb db bit on m1 ∧ Tr (fun i => i = db) W4 a w' a') := C1
            go_wp2_with fail
            refine C1.out.mono ?_
            rintro e w3 ⟨rfl, a1, hA, hN, hT⟩
            have A3 := Lib.hid hA
            have N3 := Lib.hid hN
            have T3 := Lib.hid (Tr.ahead B4.out hT)
            have X3 := Lib.hid (X4.out.tr hT OX.out)
            have OX3 := Lib.hid (OX.out.on hT X4.out.lt)
            clear hA hN hT A4 N4 B4 X4 OX C1 x_0 x_1 x_2 j_0 j_1 j_2 j_3
            obtain ⟨x_0, x_1, x_2⟩ : _ ∧ _ ∧ _ := ⟨X3.out.1 0 _ rfl, X3.out.1 1 _ rfl, X3.out.1 2 _ rfl⟩
            obtain ⟨j_0, j_1, j_2, j_3⟩ : _ ∧ _ ∧ _ ∧ _ := ⟨N3.out.s.1 0 _ rfl, N3.out.s.1 1 _ rfl, N3.out.s.1 2 _ rfl, N3.out.s.1 3 _ rfl⟩
            obtain ⟨w1, v1, -, ST1'⟩ := ST1.out
            obtain ⟨s1, s2, s3, ST2'⟩ := ST1' lo rfl
            obtain ⟨r2, ns2, m2, e2⟩ : ∃ r2 ns2 m2, setF bit on most k ns1 m1 hi = (r2, ns2, m2) := ⟨_, _, _, rfl⟩
            have C2 := Lib.hid (IH.out ns1 m1 hi w3 a1 A3.out w1 v1 N3.out s2 s3)
            rw [e2] at C2
            have ST2 := Lib.hid (ST2' r2 ns2 m2 e2)
            clear w1 v1 ST1' s1 s2 s3 ST2' ST1 e2 IH
            cases r2 with
            | none =>
              have hz : R = (none, ns2, m2) := by rw [← HR.out]; exact ST2.out.2.2.1 rfl
              subst hz
              replace C2 : Hid (Calls Try.prog _ _ w3 fun e w' => e = .returned (.tuple #[.int .i64 0, .int .i64 20]) ∧ ∃ a', Ar w' a' most ns2 ∧ Nw w' a' jb db bit on m2 ∧ Tr (fun i => i = db) w3 a1 w' a') := C2
              go_wp2_with fail
              refine C2.out.mono ?_
              rintro e w4 ⟨rfl, a2, hA, hN, hT⟩
              have F := Lib.hid (And.intro hA (And.intro hN hT))
              clear hA hN hT
              go_wp2
              go_ret2
              exact ⟨rfl, a2, F.out.1, F.out.2.1, T3.out.trans F.out.2.2⟩
            | some h2 =>
              replace C2 : Hid (Calls Try.prog _ _ w3 fun e w' => e = .returned (.tuple #[.int .i64 (h2 : Nat), .int .i64 0]) ∧ ∃ a', Ar w' a' most ns2 ∧ Nw w' a' jb db bit on m2 ∧ Tr (fun i => i = db) w3 a1 w' a') := C2
              go_wp2_with fail
              refine C2.out.mono ?_
              rintro e w4 ⟨rfl, a2, hA, hN, hT⟩
              have A4 := Lib.hid hA
              have N4 := Lib.hid hN
              have T4 := Lib.hid (T3.out.trans hT)
              have X4 := Lib.hid (X3.out.tr hT OX3.out)
              have OX4 := Lib.hid (OX3.out.on hT X3.out.lt)
              clear hA hN hT A3 N3 T3 X3 OX3 C2 x_0 x_1 x_2 j_0 j_1 j_2 j_3
              obtain ⟨x_0, x_1, x_2⟩ : _ ∧ _ ∧ _ := ⟨X4.out.1 0 _ rfl, X4.out.1 1 _ rfl, X4.out.1 2 _ rfl⟩
              obtain ⟨j_0, j_1, j_2, j_3⟩ : _ ∧ _ ∧ _ ∧ _ := ⟨N4.out.s.1 0 _ rfl, N4.out.s.1 1 _ rfl, N4.out.s.1 2 _ rfl, N4.out.s.1 3 _ rfl⟩
              obtain ⟨w2, v2, -, ST2'⟩ := ST2.out
              obtain ⟨s1, s2, ST3'⟩ := ST2' h2 rfl
              obtain ⟨r3, ns3, e3⟩ : ∃ r3 ns3, numF most ns2 ⟨v, lo, h2⟩ = (r3, ns3) := ⟨_, _, rfl⟩
              have C3 := Lib.hid (number_any a2 most ns2 v lo h2 w4.drew (A4.out.on (Below.refl _ _).drew) w2 (by have := A4.out.len; exact ⟨by show v ≤ _; omega, by show lo ≤ _; omega, by show h2 ≤ _; omega⟩))
              rw [e3, T4.out.m.1] at C3
              have V2 := Lib.hid v2
              have ST3 := Lib.hid (ST3' r3 ns3 e3)
              clear w2 v2 ST2' s1 s2 ST3' ST2 e3
              rw [T4.out.m.1] at j_0
              cases r3 with
              | none =>
                have hz : R = (none, ns3, m2) := by rw [← HR.out]; exact ST3.out.1 rfl
                subst hz
                replace C3 : Hid (Calls Try.prog _ _ w4.drew fun e w' => e = .returned (.tuple #[.int .i64 0, .int .i64 20]) ∧ ∃ a', Ar w' a' most ns3 ∧ Tr (fun _ => False) w4.drew a2 w' a') := C3
                go_upto_region 17 with fail
                refine wp_region_noPanic ?_
                refine wp_region_along (S := fun w' => w'.cell? ⟨jb, 0, none⟩ = some (.pointer (some ⟨a.p, 0, none⟩)) ∧ w'.cell? ⟨w.heap.size, 0, none⟩ = some (.int .i64 (v : Nat))) ([(0, true), (1, true), (2, true), (3, true), (4, true), (5, true), (6, true), (7, true), (8, true), (9, false), (10, true), (11, true), (12, true), (13, true), (14, true)]) (by kernel_rfl) (by as_aux_lemma => kernel_rfl) (by kernel_rfl) (by kernel_rfl) (by as_aux_lemma => kernel_rfl) (by as_aux_lemma => kernel_rfl) (fun _ _ _ _ _ h => h) ⟨j_0, x_0⟩ (fun hH => ?_)
                simp only [stepsOf, pickOp]
                iterate 9 (first | (refine along_skip (by rfl) ?_; try simp only [Act.put, List.setIfInBounds_toArray, List.set_cons_zero, List.set_cons_succ]) | (refine along_pure ?_ (by rfl) (fun w hSw => ?_) ?_; rotate_left; (obtain ⟨s_a, s_b⟩ := hSw; go_simp; try with_reducible rfl); try simp only [Act.put, List.setIfInBounds_toArray, List.set_cons_zero, List.set_cons_succ]))
                clear hH
                refine along_bar (fun K hK => ?_)
                go_simp
                refine C3.out.mono ?_
                rintro e w5 ⟨rfl, a3, hA, hT⟩
                try go_wp2_with fail
                have A5 := Lib.hid hA
                have TT := Lib.hid (show Tr (fun _ => False) w4 a2 w5 a3 from Tr.ahead (Below.refl _ _).drew hT)
                have N5 := Lib.hid (N4.out.tr TT.out)
                have X5 := Lib.hid (X4.out.tr (TT.out.weak (X := fun i => i = db)) OX4.out)
                have T5 := Lib.hid (T4.out.trans (TT.out.weak (X := fun i => i = db)))
                have j5 := N5.out.s.1 0 _ rfl
                rw [TT.out.m.1, T4.out.m.1] at j5
                have x5 := X5.out.1 0 _ rfl
                refine hK.out _ _ ⟨j5, x5⟩ (fun hH => ?_)
                clear hK K hA hT j_0 x_0
                try simp only [Act.put, List.setIfInBounds_toArray, List.set_cons_zero, List.set_cons_succ]
                iterate 5 (first | (refine along_skip (by rfl) ?_; try simp only [Act.put, List.setIfInBounds_toArray, List.set_cons_zero, List.set_cons_succ]) | (refine along_pure ?_ (by rfl) (fun w hSw => ?_) ?_; rotate_left; (obtain ⟨s_a, s_b⟩ := hSw; go_simp; try with_reducible rfl); try simp only [Act.put, List.setIfInBounds_toArray, List.set_cons_zero, List.set_cons_succ]))
                refine along_end (NoPanic.normal ?_)
                clear hH j5 x5
                go_wp2
                go_ret2
                exact ⟨rfl, a3, A5.out, N5.out, T5.out⟩
              | some r =>
                obtain ⟨hz', hnot, hr⟩ := ST3.out.2 r rfl
                have hz : R = (some r, ns3, (f, r) :: m2) := by rw [← HR.out]; exact hz'
                subst hz
                have HNot := Lib.hid hnot
                have hr' := Lib.hid hr
                clear hz' hnot hr
                replace C3 : Hid (Calls Try.prog _ _ w4.drew fun e w' => e = .returned (.tuple #[.int .i64 (r : Nat), .int .i64 0]) ∧ ∃ a', Ar w' a' most ns3 ∧ Tr (fun _ => False) w4.drew a2 w' a') := C3
                go_upto_region 17 with fail
                refine wp_region_noPanic ?_
                refine wp_region_along (S := fun w' => w'.cell? ⟨jb, 0, none⟩ = some (.pointer (some ⟨a.p, 0, none⟩)) ∧ w'.cell? ⟨w.heap.size, 0, none⟩ = some (.int .i64 (v : Nat))) ([(0, true), (1, true), (2, true), (3, true), (4, true), (5, true), (6, true), (7, true), (8, true), (9, false), (10, true), (11, true), (12, true), (13, true), (14, true)]) (by kernel_rfl) (by as_aux_lemma => kernel_rfl) (by kernel_rfl) (by kernel_rfl) (by as_aux_lemma => kernel_rfl) (by as_aux_lemma => kernel_rfl) (fun _ _ _ _ _ h => h) ⟨j_0, x_0⟩ (fun hH => ?_)
                simp only [stepsOf, pickOp]
                iterate 9 (first | (refine along_skip (by rfl) ?_; try simp only [Act.put, List.setIfInBounds_toArray, List.set_cons_zero, List.set_cons_succ]) | (refine along_pure ?_ (by rfl) (fun w hSw => ?_) ?_; rotate_left; (obtain ⟨s_a, s_b⟩ := hSw; go_simp; try with_reducible rfl); try simp only [Act.put, List.setIfInBounds_toArray, List.set_cons_zero, List.set_cons_succ]))
                clear hH
                refine along_bar (fun K hK => ?_)
                go_simp
                refine C3.out.mono ?_
                rintro e w5 ⟨rfl, a3, hA, hT⟩
                try go_wp2_with fail
                have A5 := Lib.hid hA
                have TT := Lib.hid (show Tr (fun _ => False) w4 a2 w5 a3 from Tr.ahead (Below.refl _ _).drew hT)
                have N5 := Lib.hid (N4.out.tr TT.out)
                have X5 := Lib.hid (X4.out.tr (TT.out.weak (X := fun i => i = db)) OX4.out)
                have T5 := Lib.hid (T4.out.trans (TT.out.weak (X := fun i => i = db)))
                have j5 := N5.out.s.1 0 _ rfl
                rw [TT.out.m.1, T4.out.m.1] at j5
                have x5 := X5.out.1 0 _ rfl
                refine hK.out _ _ ⟨j5, x5⟩ (fun hH => ?_)
                clear hK K hA hT j_0 x_0
                try simp only [Act.put, List.setIfInBounds_toArray, List.set_cons_zero, List.set_cons_succ]
                iterate 5 (first | (refine along_skip (by rfl) ?_; try simp only [Act.put, List.setIfInBounds_toArray, List.set_cons_zero, List.set_cons_succ]) | (refine along_pure ?_ (by rfl) (fun w hSw => ?_) ?_; rotate_left; (obtain ⟨s_a, s_b⟩ := hSw; go_simp; try with_reducible rfl); try simp only [Act.put, List.setIfInBounds_toArray, List.set_cons_zero, List.set_cons_succ]))
                refine along_end (NoPanic.normal ?_)
                clear hH j5 x5
                have hm2 := Lib.hid (V2.out.few A4.out.len)
                obtain ⟨w6, hup, hM6, hO6⟩ := mapG_store keyedInt Try.underlying101 Try.underlying3 ikv_inj N5.out.d (k := f) (v := r) HK.out HNot.out (by have := hr'.out; have := A5.out.len; omega) (by have := hm2.out; unfold maxLen; omega)
                have M6 := Lib.hid hM6
                have O6 := Lib.hid hO6
                clear hM6 hO6 j_1 j_2 j_3 x_1 x_2
                simp only [ikv] at hup
                obtain ⟨j_0, j_1, j_2, j_3⟩ : _ ∧ _ ∧ _ ∧ _ := ⟨N5.out.s.1 0 _ rfl, N5.out.s.1 1 _ rfl, N5.out.s.1 2 _ rfl, N5.out.s.1 3 _ rfl⟩
                have K6 := Lib.hid (show Keep (fun i => i = db) w5 w6 from (Keep.refl _ _).only O6.out (fun _ => rfl))
                have A6 := Lib.hid (A5.out.keep K6.out (fun i hi e => by
                  subst e
                  rcases hi with e | e | e
                  · exact N5.out.e.1 e
                  · exact N5.out.e.2.1 e
                  · exact N5.out.e.2.2 e))
                have N6 := Lib.hid (show Nw w6 a3 jb db bit on ((f, r) :: m2) from ⟨K6.out.blk N5.out.s N5.out.ne, M6.out, N5.out.j, N5.out.e⟩)
                have T6 := Lib.hid (T5.out.trans (show Tr (fun i => i = db) w5 a3 w6 a3 from ⟨K6.out.mono (fun i _ e => Or.inr e), Mv.refl _ _⟩))
                go_wp2
                go_ret2
                exact ⟨rfl, a3, A6.out, N6.out, T6.out⟩
end Go.Proofs.Yteiemcnjcdjglaa
