/- Add of a new rule. -/
import Derived.Test.YtgcbngephokegaaT2
import Derived.Deep.RegionWith
namespace Go.Proofs.Ytgcbngephokegaa
open Go.RowKit Go.Maps Go.MapKept Go.ChangeMaps Go.WideElems Go.Joins
set_option linter.unusedVariables false
set_option linter.unusedSimpArgs false

theorem Tri.pre1 {Z : Nat → Prop} {p : Nat} {x : Value} {w : World} {E : List Ent} (h : Tri Z p [x] w E) (y : Value) : Tri Z p [y] (w.setCell ⟨p, 0, none⟩ y) E := by
  obtain ⟨a, N, rfl, h1, h2, h3, h4⟩ := h
  exact ⟨a, N, rfl, h1.pre1 y, h2, h3, fun k hk => by have := h4 k hk; simpa [World.setCell] using this⟩
theorem rmap_eq (m : Option Nat) (w : World) : (binOp .eql 106 (.map m) (.map none)).run Try.prog w = .ok (.bool m.isNone) w := by cases m <;> kernel_rfl
/-- What Add has before the rule is put. -/
structure TA (Z : Nat → Prop) (p : Nat) (W w : World) (R : List Ru) (E : List Ent) (r : Ru) (nb : Nat) : Prop where
  t : Tri (fun k => Z k ∨ some nb = some k) p [.map (some nb)] w E
  m : RMap w (some nb) R
  z : ¬ Z nb
  b : Blk w W.heap.size r.cells
  n : nb ≠ W.heap.size
  h : Hold Z W w
theorem ta_new {Z : Nat → Prop} {p : Nat} {W w : World} {E : List Ent} {r : Ru} (t : Tri (fun k => Z k ∨ none = some k) p [.map none] w E) (b : Blk w W.heap.size r.cells) (h : Hold Z W w) (hp : ¬ Z p) (hpB : p ≠ W.heap.size) :
    TA Z p W ((w.alloc (.map #[] 0)).setCell ⟨p, 0, none⟩ (.map (some w.heap.size))) [] E r w.heap.size := by
  have hb := bel_al (Below.refl w.heap.size w) (.map #[] 0)
  have hz : ¬ Z w.heap.size := fun q => Nat.lt_irrefl _ (t.low _ (Or.inl q))
  have hpl : p < w.heap.size := by
    have := t.pre0.1
    exact cell_lt (o := 0) (by rw [this]; rfl)
  have t2 := Tri.grow t hb (Y := fun k => some w.heap.size = some k) (fun k e => by cases e; exact ⟨Nat.le_refl _, by rw [World.size_alloc]; omega⟩)
  have t3 := t2.less (Z' := fun k => Z k ∨ some w.heap.size = some k) (fun k q => q.elim (fun q => Or.inl (Or.inl q)) Or.inr)
  refine ⟨t3.pre1 _, ?_, hz, (b.on hb).far _ _ (fun e => hpB e), fun e => ?_, ?_⟩
  · refine MapV.same (MapV.made w) ?_
    exact Below.heap_setCell _ _ _ _ (fun e => by have e : w.heap.size = p := e; omega)
  · have := b.lt; omega
  · exact (Keep.set (h.trans (Hold.of hb)) _ _ (fun _ => hp))
theorem ta_some {Z : Nat → Prop} {p : Nat} {W w : World} {R : List Ru} {E : List Ent} {r : Ru} {nb : Nat} (t : Tri (fun k => Z k ∨ some nb = some k) p [.map (some nb)] w E) (m : RMap w (some nb) R) (b : Blk w W.heap.size r.cells) (h : Hold Z W w) (hz : ¬ Z nb) (hn : nb < W.heap.size) : TA Z p W w R E r nb :=
  ⟨t, m, hz, b, Nat.ne_of_lt hn, h⟩
theorem TA.put {Z : Nat → Prop} {p : Nat} {W w w' : World} {R R' : List Ru} {E : List Ent} {r : Ru} {nb : Nat} (h : TA Z p W w R E r nb) (ho : Only nb w w') (hm : RMap w' (some nb) R') : TA Z p W w' R' E r nb := by
  have k : Keep (fun i => i = nb) w w' := (Keep.refl _ w).only ho (fun _ => rfl)
  exact ⟨h.t.keep k (fun i _ e => Or.inr (by rw [e])), hm, h.z, Keep.blk k h.b (fun e => h.n e.symm), h.n, h.h.trans (k.mono (fun i _ e => by rw [e]; exact h.z))⟩
theorem TA.on {Z : Nat → Prop} {p : Nat} {W w w' : World} {R : List Ru} {E : List Ent} {r : Ru} {nb : Nat} (h : TA Z p W w R E r nb) (hb : Below w.heap.size w w') : TA Z p W w' R E r nb :=
  ⟨h.t.on hb, h.m.on hb, h.z, Blk.on h.b hb, h.n, h.h.trans (Hold.of hb)⟩
theorem TabP.new {R : List Ru} {E : List Ent} (h : TabP R E) {r : Ru} (hr : rightB r.a r.n = true) (ho : r.Ok) (hn : r.id ∉ R.map Ru.id) : re r ∉ E ∧ TabP (r :: R) (addE E (re r)) := by
  have h1 : re r ∉ E := fun q => by
    obtain ⟨s, hs, e⟩ := (h.m _).1 q
    exact hn (List.mem_map.2 ⟨s, hs, (congrArg Prod.snd e).symm⟩)
  refine ⟨h1, fun y => ?_, List.nodup_cons.2 ⟨hn, h.n⟩, fun s hs => ?_⟩
  · rw [mem_addE, h.m y]
    constructor
    · rintro (e | ⟨s, hs, e⟩)
      · exact ⟨r, List.mem_cons_self, e⟩
      · exact ⟨s, List.mem_cons_of_mem _ hs, e⟩
    · rintro ⟨s, hs, e⟩
      rcases List.mem_cons.1 hs with rfl | q
      · exact Or.inl e
      · exact Or.inr ⟨s, q, e⟩
  · rcases List.mem_cons.1 hs with rfl | q
    · exact ⟨hr, ho⟩
    · exact h.r s q
set_option maxRecDepth 100000 in
set_option maxHeartbeats 1000000 in
theorem tab_add_new {Z : Nat → Prop} {p : Nat} {W : World} {R : List Ru} (h : Tab Z p W R) (r : Ru) (hr : rightB r.a r.n = true) (ho : r.Ok) (hn : r.id ∉ R.map Ru.id) (hR : R.length ≤ 100000) :
    Calls Try.prog 26 #[.pointer (some ⟨p, 0, none⟩), rv r] W fun e w' => e = .returned (.int .i64 0) ∧ Tab Z p w' (r :: R) ∧ Hold Z W w' := by
  have hz : Hid (¬ Z p) := Lib.hid (by obtain ⟨m, E, t, -⟩ := h; exact fun q => t.mine (Or.inl q))
  obtain ⟨m, E, t, hm, hp, hl, hmz⟩ := h
  have hpl : p < W.heap.size := cell_lt (o := 0) (by rw [t.pre0.1]; rfl)
  have hC := Lib.hid (cright_any r.a r.n ho.1)
  rw [hr] at hC
  have HN := Lib.hid (hp.new hr ho hn)
  have HI := Lib.hid ho.2
  have HX := Lib.hid hn
  have HL := Lib.hid hl
  have HE := Lib.hid (show E.length ≤ 100000 by omega)
  have HR := Lib.hid hR
  have HA := Lib.hid ho.1
  have HP := Lib.hid hr
  have HM := Lib.hid hmz
  have HT := Lib.hid t
  have HMM := Lib.hid hm
  clear hm hp hl hmz t hn hR hr
  go_enter Try.func26, Try.ntmps26
  go_upto_region 1 with fail
  refine at_code (S := fun w1 => Blk w1 W.heap.size r.cells ∧ Below W.heap.size W w1) ⟨Blk.new _ _ _, bel_al (Below.refl _ _) _⟩ (fun W1 hW => ?_)
  have X1 := Lib.hid hW.1
  have B1 := Lib.hid hW.2
  have x_2 := hW.1.1 2 _ rfl
  have x_3 := hW.1.1 3 _ rfl
  clear hW ho
  go_wp2_with fail
  refine (hC.out W1).mono ?_
  rintro e w2 ⟨rfl, hb⟩
  have X2 := Lib.hid (X1.out.on hb)
  have B2 := Lib.hid (bel_on' B1.out hb)
  clear hb x_2 x_3 X1 B1 hC
  have x_0 := X2.out.1 0 _ rfl
  have HB2 : Hid (Hold Z W W) := Lib.hid (Keep.refl _ _)
  have T2 := Lib.hid (HT.out.on B2.out)
  have M2 := Lib.hid (HMM.out.on B2.out)
  obtain ⟨p0, f0⟩ := T2.out.pre0
  have HS : Hid (∀ w', Below w2.heap.size w2 w' → (Below w2.heap.size w2 w' ∧ ∀ b o, (w2.cell? ⟨b, o, none⟩).isSome = true → w'.cell? ⟨b, o, none⟩ = w2.cell? ⟨b, o, none⟩) ∧ (Instr.lookup 106 (.map m) (.int .i64 r.id) true).run Try.prog w' = .ok (.tuple #[rv ru0, .bool false]) w') := Lib.hid (fun w' hb => ⟨ckeep hb, rm_none (M2.out.on hb) true r.id HI.out HX.out⟩)
  go_upto_region 5 with fail
  go_region_held3 (fun w' => (Below w2.heap.size w2 w' ∧ ∀ b o, (w2.cell? ⟨b, o, none⟩).isSome = true → w'.cell? ⟨b, o, none⟩ = w2.cell? ⟨b, o, none⟩) ∧ (Instr.lookup 106 (.map m) (.int .i64 r.id) true).run Try.prog w' = .ok (.tuple #[rv ru0, .bool false]) w')
    ((refine HS.out _ ?_; repeat (first | exact Below.refl _ _ | assumption | refine Below.drew ?_ | refine cbelow_al ?_ _ | (refine Below.setCell ?_ (by simp; omega) _))))
    (fail)
  all_goals
    go_upto_region 8 with fail
    refine at_code (S := fun w => Below w2.heap.size w2 w) (by repeat (first | exact Below.refl _ _ | assumption | refine Below.drew ?_ | refine cbelow_al ?_ _ | (refine Below.setCell ?_ (by simp; omega) _))) (fun W3 h3 => ?_)
    have B3 := Lib.hid (bel_on' B2.out h3)
    have X3 := Lib.hid (X2.out.on h3)
    have T3 := Lib.hid (T2.out.on h3)
    have M3 := Lib.hid (M2.out.on h3)
    clear h3 x_0 p0 f0 HS T2 M2 X2 B2
    obtain ⟨p0, f0⟩ := T3.out.pre0
    have HS3 := Lib.hid (HB2.out.trans (Hold.of B3.out))
    cases m with
    | none =>
      have hR0 : R = [] := M3.out
      subst hR0
      have q0 : p ≠ W.heap.size := Nat.ne_of_lt hpl
      have A0 := Lib.hid (ta_new T3.out X3.out HS3.out hz.out q0)
      have e0 := fun w => rmap_eq none w
      have hmm := @run_makeMap Try.prog
      have q1 : p < W3.heap.size := by have := B3.out.size; omega
      have q2 : p ≠ W3.heap.size := Nat.ne_of_lt q1
      try rw [World.setCell_alloc_past (w := W3) _ _ _ _ q1] at A0
      go_upto_region 10 with fail
      refine at_code (S := fun w => ∃ nb, TA Z p W w [] E r nb) ⟨_, A0.out⟩ (fun W4 hA => ?_)
      clear hmm A0 q0 q1 q2 e0 M3 T3 X3 HS3 B3 p0 f0
      obtain ⟨nb, hA⟩ := hA
      have TA1 := Lib.hid hA
      clear hA
      obtain ⟨p0, f0⟩ := TA1.out.t.pre0
      have x_0 := TA1.out.b.1 0 _ rfl
      have x_1 := TA1.out.b.1 1 _ rfl
      have x_2 := TA1.out.b.1 2 _ rfl
      have x_3 := TA1.out.b.1 3 _ rfl
      have x_4 := TA1.out.b.1 4 _ rfl
      have x_5 := TA1.out.b.1 5 _ rfl
      have TD := Lib.hid (TA1.out.on (Below.drew (Below.refl _ _)))
      obtain ⟨W5, hu, hm5, ho5⟩ := rm_put TD.out.m (Nat.le_trans HR.out (by decide)) r HI.out HX.out
      have TA2 := Lib.hid (TD.out.put ho5 hm5)
      clear hm5 ho5
      go_region
      go_upto_region 11 with fail
      refine at_code (S := fun w => TA Z p W w (r :: []) E r nb) (TA2.out) (fun W6 h6 => ?_)
      have TA3 := Lib.hid h6
      clear h6 TD TA1 TA2 hu p0 f0 x_0 x_1 x_2 x_3 x_4 x_5
      have x_0 := TA3.out.b.1 0 _ rfl
      have x_2 := TA3.out.b.1 2 _ rfl
      have x_3 := TA3.out.b.1 3 _ rfl
      have TA4 := Lib.hid (TA3.out.on (Below.drew (Below.refl _ _)))
      have CA := Lib.hid (tAdd TA4.out.t r.a r.n r.id HA.out HI.out HE.out)
      have hc : addC E r.a r.n r.id = 0 := by unfold addC; rw [HP.out, if_pos rfl]; exact if_neg HN.out.1
      have hf : addF E r.a r.n r.id = addE E (re r) := by unfold addF; rw [HP.out, if_pos rfl]; rfl
      rw [hc, hf] at CA
      have GO : ∀ w7, Tri (fun k => Z k ∨ some nb = some k) p [.map (some nb)] w7 (addE E (re r)) → Hold (fun k => Z k ∨ some nb = some k) W6.drew w7 → Tab Z p w7 (r :: []) ∧ Hold Z W w7 := fun w7 ht hh => ⟨⟨some nb, _, ht, TA4.out.m.keep hh (fun k e q => q (Or.inr e)), HN.out.2, by unfold addE; rw [if_neg HN.out.1, List.length_cons, List.length_cons, HL.out], fun k e => by cases e; exact TA4.out.z⟩, TA4.out.h.trans (hh.less (fun k q => Or.inl q))⟩
      go_upto_region 11 with fail
      go_region_with (go_at_call 11; refine CA.out.mono ?_; rintro e w7 ⟨rfl, ht, hh⟩; have FIN := Lib.hid (GO w7 ht hh); clear ht hh)
      all_goals (rename_i w7 FIN; clear GO CA TA3 TA4 x_0 x_2 x_3 hc hf; go_wp2; go_ret; exact ⟨rfl, FIN.out⟩)
    | some b =>
      have A0 : Hid (TA Z p W W3 R E r b) := Lib.hid (ta_some T3.out M3.out X3.out HS3.out (HM.out b rfl) (HMM.out.lt))
      have e0 := fun w => rmap_eq (some b) w
      go_upto_region 10 with fail
      refine at_code (S := fun w => ∃ nb, TA Z p W w R E r nb) ⟨_, A0.out⟩ (fun W4 hA => ?_)
      clear A0 e0 M3 T3 X3 HS3 B3 p0 f0
      obtain ⟨nb, hA⟩ := hA
      have TA1 := Lib.hid hA
      clear hA
      obtain ⟨p0, f0⟩ := TA1.out.t.pre0
      have x_0 := TA1.out.b.1 0 _ rfl
      have x_1 := TA1.out.b.1 1 _ rfl
      have x_2 := TA1.out.b.1 2 _ rfl
      have x_3 := TA1.out.b.1 3 _ rfl
      have x_4 := TA1.out.b.1 4 _ rfl
      have x_5 := TA1.out.b.1 5 _ rfl
      have TD := Lib.hid (TA1.out.on (Below.drew (Below.refl _ _)))
      obtain ⟨W5, hu, hm5, ho5⟩ := rm_put TD.out.m (Nat.le_trans HR.out (by decide)) r HI.out HX.out
      have TA2 := Lib.hid (TD.out.put ho5 hm5)
      clear hm5 ho5
      go_region
      go_upto_region 11 with fail
      refine at_code (S := fun w => TA Z p W w (r :: R) E r nb) (TA2.out) (fun W6 h6 => ?_)
      have TA3 := Lib.hid h6
      clear h6 TD TA1 TA2 hu p0 f0 x_0 x_1 x_2 x_3 x_4 x_5
      have x_0 := TA3.out.b.1 0 _ rfl
      have x_2 := TA3.out.b.1 2 _ rfl
      have x_3 := TA3.out.b.1 3 _ rfl
      have TA4 := Lib.hid (TA3.out.on (Below.drew (Below.refl _ _)))
      have CA := Lib.hid (tAdd TA4.out.t r.a r.n r.id HA.out HI.out HE.out)
      have hc : addC E r.a r.n r.id = 0 := by unfold addC; rw [HP.out, if_pos rfl]; exact if_neg HN.out.1
      have hf : addF E r.a r.n r.id = addE E (re r) := by unfold addF; rw [HP.out, if_pos rfl]; rfl
      rw [hc, hf] at CA
      have GO : ∀ w7, Tri (fun k => Z k ∨ some nb = some k) p [.map (some nb)] w7 (addE E (re r)) → Hold (fun k => Z k ∨ some nb = some k) W6.drew w7 → Tab Z p w7 (r :: R) ∧ Hold Z W w7 := fun w7 ht hh => ⟨⟨some nb, _, ht, TA4.out.m.keep hh (fun k e q => q (Or.inr e)), HN.out.2, by unfold addE; rw [if_neg HN.out.1, List.length_cons, List.length_cons, HL.out], fun k e => by cases e; exact TA4.out.z⟩, TA4.out.h.trans (hh.less (fun k q => Or.inl q))⟩
      go_upto_region 11 with fail
      go_region_with (go_at_call 11; refine CA.out.mono ?_; rintro e w7 ⟨rfl, ht, hh⟩; have FIN := Lib.hid (GO w7 ht hh); clear ht hh)
      all_goals (rename_i w7 FIN; clear GO CA TA3 TA4 x_0 x_2 x_3 hc hf; go_wp2; go_ret; exact ⟨rfl, FIN.out⟩)
end Go.Proofs.Ytgcbngephokegaa
