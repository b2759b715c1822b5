/- Texts joined, in their order: BG, Kept, Blk, MG, PostB, Law. -/
import Derived.Test.YtgcbngephokegabGa443d5132f
import Derived.Below
import Derived.Lib.Hide
import Derived.Laws.OwnMore
import Derived.Deep.RegionHeld3
import Derived.Deep.DeepCutAuto
import Derived.Maps.Own
import Derived.Maps.Range
import Derived.WideKeyEntry
import Derived.DeepKeys4
import Derived.MapViews
import Derived.Lib.SmallJoins
import Derived.ChangeSame
import Derived.Test.YtgcbngephokegabProg
import Derived.Carry
import Derived.ProofKit
import Derived.OpenShut
/- A bit held, some bits so, as functions of lists; what they come to. No program in sight. -/
namespace Go.Proofs.Ytgcbngephokegab
set_option linter.unusedVariables false

abbrev Memo1 := List (Nat × Nat)
def look1 (k : Nat) : Memo1 → Option Nat
  | [] => none
  | x :: r => if x.1 = k then some x.2 else look1 k r
theorem look1_some {k : Nat} : ∀ {m : Memo1} {r : Nat}, look1 k m = some r → (k, r) ∈ m
  | [], r, h => by cases h
  | x :: m, r, h => by
    unfold look1 at h
    split at h
    · rename_i e; cases h; subst e; simp
    · exact List.mem_cons_of_mem _ (look1_some h)
theorem look1_none {k : Nat} : ∀ {m : Memo1}, look1 k m = none → k ∉ m.map (·.1)
  | [], h => by simp
  | x :: m, h => by
    unfold look1 at h
    split at h
    · cases h
    · rename_i e
      simp only [List.map_cons, List.mem_cons, not_or]
      exact ⟨fun q => e q.symm, look1_none h⟩
/-- A set with a bit held. -/
def setF (bit : Nat) (on : Bool) (most : Nat) : Nat → List Nd → Memo1 → Nat → Option Nat × List Nd × Memo1
  | 0, ns, m, f => (none, ns, m)
  | k + 1, ns, m, f =>
    if bit < lv ns f then (some f, ns, m) else
    if lv ns f = bit then (some (if on then (ns.getD f bot).h else (ns.getD f bot).l), ns, m) else
    match look1 f m with
    | some r => (some r, ns, m)
    | none =>
      match setF bit on most k ns m (ns.getD f bot).l with
      | (none, ns1, m1) => (none, ns1, m1)
      | (some lo, ns1, m1) =>
        match setF bit on most k ns1 m1 (ns.getD f bot).h with
        | (none, ns2, m2) => (none, ns2, m2)
        | (some hi, ns2, m2) =>
          match numF most ns2 ⟨lv ns f, lo, hi⟩ with
          | (none, ns3) => (none, ns3, m2)
          | (some r, ns3) => (some r, ns3, (f, r) :: m2)
structure MV1 (bit : Nat) (on : Bool) (ns : List Nd) (m : Memo1) : Prop where
  ok : ∀ p ∈ m, p.1 < ns.length ∧ p.2 < ns.length ∧ ∀ e, ev ns e p.2 = ev ns (hld e bit on) p.1
  one : (m.map (·.1)).Nodup
theorem MV1.ext {bit : Nat} {on : Bool} {ns ns' : List Nd} {m : Memo1} (h : MV1 bit on ns m) (hx : Ext ns ns') (hw : WF ns) (hw' : WF ns') : MV1 bit on ns' m :=
  ⟨fun p hp => by
    obtain ⟨a, b, d⟩ := h.ok p hp
    have := hx.len
    exact ⟨by omega, by omega, fun e => by rw [hx.ev hw hw' e _ b, hx.ev hw hw' _ _ a, d]⟩, h.one⟩
theorem hld_comm (e : Nat → Bool) {i k : Nat} (h : i ≠ k) (b c : Bool) : hld (hld e i b) k c = hld (hld e k c) i b := by
  funext z; unfold hld; (repeat' split) <;> simp_all
theorem hld_upd (e : Nat → Bool) (i : Nat) (b c : Bool) : hld (hld e i b) i c = hld e i c := by
  funext z; unfold hld; split <;> simp_all
theorem setF_made (bit : Nat) (on : Bool) (most : Nat) (hbit : bit < 104) : ∀ (k : Nat) (ns : List Nd) (m : Memo1) (f : Nat), WF ns → MV1 bit on ns m → f < ns.length → 105 ≤ k + lv ns f →
    Made most ns (setF bit on most k ns m f).2.1 (fun e => ev ns (hld e bit on) f) (setF bit on most k ns m f).1 (lv ns f) ∧ MV1 bit on (setF bit on most k ns m f).2.1 (setF bit on most k ns m f).2.2 ∧
    ∀ p ∈ (setF bit on most k ns m f).2.2, p ∈ m ∨ lv ns f ≤ lv (setF bit on most k ns m f).2.1 p.1 := by
  intro k
  induction k with
  | zero => intro ns m f h _ hf hk; have := lv_le h (f := f); omega
  | succ k ih =>
    intro ns m f h hm hf hk
    have h2 := h.len
    by_cases c1 : bit < lv ns f
    · have e : setF bit on most (k + 1) ns m f = (some f, ns, m) := by unfold setF; rw [if_pos c1]
      rw [e]
      exact ⟨made_id h hf (fun e => (ev_hld h e on hf c1).symm), hm, fun p hp => Or.inl hp⟩
    by_cases c2 : lv ns f = bit
    · have e : setF bit on most (k + 1) ns m f = (some (if on then (ns.getD f bot).h else (ns.getD f bot).l), ns, m) := by unfold setF; rw [if_neg c1, if_pos c2]
      rw [e]
      clear e
      have hf2 := lv_two h hf (by omega)
      obtain ⟨a, b, -⟩ := h.parts hf2 hf
      refine ⟨made_id h (by split <;> omega) (fun e => ?_), hm, fun p hp => Or.inl hp⟩
      cases on
      · simp only [Bool.false_eq_true, if_false]; rw [ev_low h e hf2 hf, c2]
      · simp only [if_true]; rw [ev_high h e hf2 hf, c2]
    cases hl : look1 f m with
    | some r =>
      have e : setF bit on most (k + 1) ns m f = (some r, ns, m) := by unfold setF; rw [if_neg c1, if_neg c2, hl]
      rw [e]
      obtain ⟨-, a, b⟩ := hm.ok _ (look1_some hl)
      exact ⟨made_id h a b, hm, fun p hp => Or.inl hp⟩
    | none =>
      obtain ⟨L, hL⟩ : ∃ L, lv ns f = L := ⟨_, rfl⟩
      have hLb : L < bit := by omega
      have hf2 := lv_two h hf (by omega)
      obtain ⟨xl, xh, -, xvl, xvh, -⟩ := h.parts hf2 hf
      rw [hL] at xvl xvh
      have xel : ∀ e, ev ns e (ns.getD f bot).l = ev ns (hld e L false) f := fun e => by rw [ev_low h e hf2 hf, hL]
      have xeh : ∀ e, ev ns e (ns.getD f bot).h = ev ns (hld e L true) f := fun e => by rw [ev_high h e hf2 hf, hL]
      generalize hgl : (ns.getD f bot).l = fl at xl xvl xel
      generalize hgh : (ns.getD f bot).h = fh at xh xvh xeh
      have hfree : ∀ e i b, i < L → ev ns (hld (hld e i b) bit on) f = ev ns (hld e bit on) f := fun e i b hi => by
        rw [hld_comm e (by omega), ev_hld h _ b hf (by omega)]
      have hBL : ∀ B, Bits B ns → B L = true := fun B hB => by rw [← hL]; exact hB f _ hf2 (get_of_lt hf)
      have hpow : ∀ B, Bits B ns → 2 ^ cB B L = 2 ^ cB B (L + 1) + 2 ^ cB B (L + 1) := fun B hB => by rw [cB_step (by omega) (hBL B hB), Nat.pow_succ]; omega
      have I1 := ih ns m fl h hm (by omega) (by omega)
      obtain ⟨r1, ns1, m1, e1⟩ : ∃ r1 ns1 m1, setF bit on most k ns m fl = (r1, ns1, m1) := ⟨_, _, _, rfl⟩
      rw [e1] at I1
      obtain ⟨M1, V1, N1⟩ := I1
      simp only at M1 V1 N1
      have old1 : (∃ q, q < ns.length ∧ ∀ e, ev ns e q = ev ns (hld e bit on) f) → ns1 = ns ∧ r1 ≠ none := fun ⟨q, hq, he⟩ => by
        obtain ⟨p, hp1, hp2⟩ := cof h hq (by omega) he hfree false
        exact M1.old ⟨p, hp1, fun e => by rw [hp2, xel, hld_comm e (by omega)]⟩
      have few1 : ∀ B, Bits B ns → Bits B ns1 ∧ ns1.length + 1 ≤ ns.length + 2 ^ cB B (L + 1) := fun B hB => by
        obtain ⟨a, b⟩ := M1.few B hB
        exact ⟨a, Nat.le_trans b (Nat.add_le_add_left (Nat.pow_le_pow_right (by omega) (cB_mono (by omega))) _)⟩
      have new1 : ∀ p ∈ m1, p ∈ m ∨ L < lv ns1 p.1 := fun p hp => (N1 p hp).imp id (fun q => by omega)
      cases r1 with
      | none =>
        have e : setF bit on most (k + 1) ns m f = (none, ns1, m1) := by unfold setF; rw [if_neg c1, if_neg c2, hl]; simp only; rw [hgl, e1]
        rw [e, hL]
        refine ⟨⟨M1.wf, M1.ext, M1.room, M1.full, fun q hq => (by cases hq), fun q => absurd rfl (old1 q).2, fun B hB => ⟨(few1 B hB).1, ?_⟩⟩, V1, fun p hp => (new1 p hp).imp id Nat.le_of_lt⟩
        have := (few1 B hB).2; have := hpow B hB; have := Nat.two_pow_pos (cB B (L + 1)); show ns1.length + 1 ≤ _; omega
      | some lo =>
        obtain ⟨hlo, elo⟩ := M1.set lo rfl
        have hx1 := M1.ext
        have hl1 := hx1.len
        have xh1 : lv ns1 fh = lv ns fh := hx1.lv (by omega)
        have I2 := ih ns1 m1 fh M1.wf V1 (by omega) (by omega)
        obtain ⟨r2, ns2, m2, e2⟩ : ∃ r2 ns2 m2, setF bit on most k ns1 m1 fh = (r2, ns2, m2) := ⟨_, _, _, rfl⟩
        rw [e2] at I2
        obtain ⟨M2, V2, N2⟩ := I2
        simp only at M2 V2 N2
        have evx : ∀ e, ev ns1 e fh = ev ns (hld e L true) f := fun e => by rw [hx1.ev h M1.wf e _ (by omega), xeh]
        have old2 : (∃ q, q < ns.length ∧ ∀ e, ev ns e q = ev ns (hld e bit on) f) → ns2 = ns ∧ r2 ≠ none := fun hq0 => by
          obtain ⟨a, -⟩ := old1 hq0
          subst a
          obtain ⟨q, hq, he⟩ := hq0
          obtain ⟨p, hp1, hp2⟩ := cof h hq (by omega) he hfree true
          exact M2.old ⟨p, hp1, fun e => by rw [hp2, evx, hld_comm e (by omega)]⟩
        have few2 : ∀ B, Bits B ns → Bits B ns2 ∧ ns2.length + 2 ≤ ns.length + 2 ^ cB B L := fun B hB => by
          obtain ⟨a, b⟩ := few1 B hB
          obtain ⟨c, d⟩ := M2.few B a
          have d' : ns2.length + 1 ≤ ns1.length + 2 ^ cB B (L + 1) := Nat.le_trans d (Nat.add_le_add_left (Nat.pow_le_pow_right (by omega) (cB_mono (by omega))) _)
          have := hpow B hB
          have := Nat.two_pow_pos (cB B (L + 1))
          exact ⟨c, by omega⟩
        have new2 : ∀ p ∈ m2, p ∈ m ∨ L < lv ns2 p.1 := fun p hp => by
          rcases N2 p hp with q | q
          · rcases new1 p q with r | r
            · exact Or.inl r
            · obtain ⟨a, -⟩ := V1.ok p q
              exact Or.inr (by rw [M2.ext.lv a]; exact r)
          · exact Or.inr (by omega)
        have hnot : f ∉ m2.map (·.1) := fun hq => by
          obtain ⟨p, hp1, hp2⟩ := List.mem_map.1 hq
          rcases new2 p hp1 with r | r
          · exact look1_none hl (List.mem_map.2 ⟨p, r, hp2⟩)
          · rw [hp2, (hx1.trans M2.ext).lv hf] at r; omega
        have room2 : ns2.length ≤ max most ns.length := by have a := M1.room; have b := M2.room; omega
        cases r2 with
        | none =>
          have e : setF bit on most (k + 1) ns m f = (none, ns2, m2) := by unfold setF; rw [if_neg c1, if_neg c2, hl]; simp only; rw [hgl, e1]; simp only; rw [hgh, e2]
          rw [e, hL]
          refine ⟨⟨M2.wf, hx1.trans M2.ext, room2, M2.full, fun q hq => (by cases hq), fun q => absurd rfl (old2 q).2, fun B hB => ⟨(few2 B hB).1, ?_⟩⟩, V2, fun p hp => (new2 p hp).imp id Nat.le_of_lt⟩
          have := (few2 B hB).2; show ns2.length + 1 ≤ _; omega
        | some hi =>
          obtain ⟨hhi, ehi⟩ := M2.set hi rfl
          have hx2 := M2.ext
          have hl2 := hx2.len
          have hx12 := hx1.trans hx2
          have elo2 : ∀ e, ev ns2 e lo = ev ns (hld (hld e L false) bit on) f := fun e => by rw [hx2.ev M1.wf M2.wf e _ hlo, elo, xel, hld_comm e (by omega)]
          have ehi2 : ∀ e, ev ns2 e hi = ev ns (hld (hld e L true) bit on) f := fun e => by rw [ehi, evx, hld_comm e (by omega)]
          have free' : ∀ (b : Bool) e i c, i < L + 1 → ev ns (hld (hld (hld e i c) L b) bit on) f = ev ns (hld (hld e L b) bit on) f := fun b e i c hi => by
            rcases Nat.lt_or_ge i L with q | q
            · rw [hld_comm e (by omega) c b, hfree _ _ _ q]
            · have : i = L := by omega
              subst this
              rw [hld_upd]
          have vlo : L < lv ns2 lo := lv_ge M2.wf (L := L + 1) (by omega) (by omega) (fun e i b hi => by rw [elo2, elo2]; exact free' false e i b hi)
          have vhi : L < lv ns2 hi := lv_ge M2.wf (L := L + 1) hhi (by omega) (fun e i b hi => by rw [ehi2, ehi2]; exact free' true e i b hi)
          have heq : ∀ e, ev ns (hld e bit on) f = if e L then ev ns2 e hi else ev ns2 e lo := fun e => by
            rw [elo2, ehi2]
            have := hld_self e L
            split
            · rename_i q; rw [q] at this; rw [this]
            · rename_i q; rw [Bool.not_eq_true] at q; rw [q] at this; rw [this]
          obtain ⟨nw, nx, nr, nf, nset, nold, nlen, nb⟩ := num_made (most := most) M2.wf (n := ⟨L, lo, hi⟩) (by show lo < _; omega) hhi vlo vhi (φ := fun e => ev ns (hld e bit on) f) heq
          obtain ⟨r3, ns3, e3⟩ : ∃ r3 ns3, numF most ns2 ⟨L, lo, hi⟩ = (r3, ns3) := ⟨_, _, rfl⟩
          rw [e3] at nw nx nr nf nset nold nlen nb
          simp only at nw nx nr nf nset nold nlen nb
          have old3 : (∃ q, q < ns.length ∧ ∀ e, ev ns e q = ev ns (hld e bit on) f) → ns3 = ns ∧ r3 ≠ none := fun hq0 => by
            obtain ⟨a, -⟩ := old2 hq0
            obtain ⟨q, hq, he⟩ := hq0
            obtain ⟨b, c⟩ := nold ⟨q, by rw [a]; exact hq, fun e => by rw [a]; exact he e⟩
            exact ⟨b.trans a, c⟩
          have few3 : ∀ B, Bits B ns → Bits B ns3 ∧ ns3.length + 1 ≤ ns.length + 2 ^ cB B L := fun B hB => by
            obtain ⟨a, b⟩ := few2 B hB
            exact ⟨nb B a (hBL B hB), by omega⟩
          cases r3 with
          | none =>
            have e : setF bit on most (k + 1) ns m f = (none, ns3, m2) := by unfold setF; rw [if_neg c1, if_neg c2, hl]; simp only; rw [hgl, e1]; simp only; rw [hgh, e2]; simp only; rw [hL, e3]
            rw [e, hL]
            refine ⟨⟨nw, hx12.trans nx, by show ns3.length ≤ _; omega, fun q => (nf q).1, fun q hq => (by cases hq), old3, few3⟩, V2.ext nx M2.wf nw, fun p hp => ?_⟩
            rcases new2 p hp with q | q
            · exact Or.inl q
            · obtain ⟨a, -⟩ := V2.ok p hp
              exact Or.inr (by show _ ≤ lv ns3 _; rw [nx.lv a]; omega)
          | some r =>
            have e : setF bit on most (k + 1) ns m f = (some r, ns3, (f, r) :: m2) := by unfold setF; rw [if_neg c1, if_neg c2, hl]; simp only; rw [hgl, e1]; simp only; rw [hgh, e2]; simp only; rw [hL, e3]
            rw [e, hL]
            obtain ⟨s1, s2⟩ := nset r rfl
            have hx3 := hx12.trans nx
            have hl3 := hx3.len
            have W3 := V2.ext nx M2.wf nw
            refine ⟨⟨nw, hx3, by show ns3.length ≤ _; omega, fun q => (by cases q), fun q hq => (by cases hq; exact ⟨s1, s2⟩), old3, few3⟩, ⟨fun p hp => ?_, ?_⟩, fun p hp => ?_⟩
            · rcases List.mem_cons.1 hp with rfl | hp
              · exact ⟨by show f < ns3.length; omega, s1, fun e => by rw [s2, hx3.ev h nw _ _ hf]⟩
              · exact W3.ok p hp
            · exact List.nodup_cons.2 ⟨hnot, W3.one⟩
            · rcases List.mem_cons.1 hp with rfl | hp
              · exact Or.inr (by show _ ≤ lv ns3 f; rw [hx3.lv hf]; omega)
              · rcases new2 p hp with q | q
                · exact Or.inl q
                · obtain ⟨a, -⟩ := V2.ok p hp
                  exact Or.inr (by show _ ≤ lv ns3 _; rw [nx.lv a]; omega)
/-- The headers that have some bits so. -/
def cubeF (most : Nat) (ns : List Nd) : List (Nat × Bool) → Option Nat × List Nd
  | [] => (some 1, ns)
  | p :: r =>
    match cubeF most ns r with
    | (none, ns1) => (none, ns1)
    | (some f, ns1) => numF most ns1 (if p.2 then ⟨p.1, 0, f⟩ else ⟨p.1, f, 0⟩)
def allB (l : List (Nat × Bool)) (e : Nat → Bool) : Bool := l.all fun p => e p.1 == p.2
theorem cubeF_made (most : Nat) {ns : List Nd} (h : WF ns) : ∀ (l : List (Nat × Bool)), l.Pairwise (fun a b => a.1 < b.1) → (∀ p ∈ l, p.1 < 104) →
    WF (cubeF most ns l).2 ∧ Ext ns (cubeF most ns l).2 ∧ (cubeF most ns l).2.length ≤ max most ns.length ∧ ((cubeF most ns l).1 = none → most ≤ (cubeF most ns l).2.length) ∧
    (∀ q, (cubeF most ns l).1 = some q → q < (cubeF most ns l).2.length ∧ q ≠ 0 ∧ ∀ e, ev (cubeF most ns l).2 e q = allB l e) ∧ ((∃ q, q < ns.length ∧ ∀ e, ev ns e q = allB l e) → (cubeF most ns l).2 = ns ∧ (cubeF most ns l).1 ≠ none) ∧
    (cubeF most ns l).2.length ≤ ns.length + l.length ∧ ∀ B, Bits B ns → (∀ p ∈ l, B p.1 = true) → Bits B (cubeF most ns l).2
  | [], _, _ => by
    have := h.len
    exact ⟨h, Ext.refl _, by show ns.length ≤ _; omega, fun q => (by cases q), fun q hq => (by cases hq; exact ⟨by show 1 < ns.length; omega, by decide, fun e => rfl⟩), fun _ => ⟨rfl, by simp [cubeF]⟩, Nat.le_refl _, fun B hB _ => hB⟩
  | p :: r, hr, h104 => by
    obtain ⟨hr1, hr2⟩ := List.pairwise_cons.1 hr
    have I := cubeF_made most h r hr2 (fun q hq => h104 q (List.mem_cons_of_mem _ hq))
    obtain ⟨r1, ns1, e1⟩ : ∃ r1 ns1, cubeF most ns r = (r1, ns1) := ⟨_, _, rfl⟩
    rw [e1] at I
    obtain ⟨w1, x1, room1, full1, set1, old1, len1, bits1⟩ := I
    simp only at w1 x1 room1 full1 set1 old1 len1 bits1
    have hp104 : p.1 < 104 := h104 p (List.mem_cons_self ..)
    have hfr : ∀ e i b, i ≤ p.1 → allB r (hld e i b) = allB r e := fun e i b hi => by
      unfold allB
      rw [Bool.eq_iff_iff, List.all_eq_true, List.all_eq_true]
      exact forall_congr' fun q => forall_congr' fun hq => by rw [hld_ne e b (by have := hr1 q hq; omega)]
    have hfree : ∀ e i b, i < p.1 → allB (p :: r) (hld e i b) = allB (p :: r) e := fun e i b hi => by
      have := hfr e i b (by omega)
      unfold allB at this ⊢
      rw [List.all_cons, List.all_cons, this, hld_ne e b (by omega)]
    have oldr : (∃ q, q < ns.length ∧ ∀ e, ev ns e q = allB (p :: r) e) → ns1 = ns ∧ r1 ≠ none := fun ⟨q, hq, he⟩ => by
      obtain ⟨z, hz1, hz2⟩ := cof h hq hp104 he hfree p.2
      refine old1 ⟨z, hz1, fun e => ?_⟩
      rw [hz2]
      have := hfr e p.1 p.2 (Nat.le_refl _)
      unfold allB at this ⊢
      rw [List.all_cons, this, hld_same]
      simp
    cases r1 with
    | none =>
      have e : cubeF most ns (p :: r) = (none, ns1) := by unfold cubeF; rw [e1]
      rw [e]
      exact ⟨w1, x1, room1, full1, fun q hq => (by cases hq), fun q => absurd rfl (oldr q).2, by simp only [List.length_cons]; omega, fun B hB hb => bits1 B hB (fun q hq => hb q (List.mem_cons_of_mem _ hq))⟩
    | some f =>
      obtain ⟨hf, hf0, ef⟩ := set1 f rfl
      have hlen := w1.len
      have vf : p.1 < lv ns1 f := lv_ge w1 (L := p.1 + 1) hf (by omega) (fun e i b hi => by rw [ef, ef]; exact hfr e i b (by omega))
      have v0 : p.1 < lv ns1 0 := by rw [lv_end w1 (by omega)]; exact hp104
      obtain ⟨n, hn⟩ : ∃ n, (if p.2 then (⟨p.1, 0, f⟩ : Nd) else ⟨p.1, f, 0⟩) = n := ⟨_, rfl⟩
      have e : cubeF most ns (p :: r) = numF most ns1 n := by rw [← hn]; conv => lhs; unfold cubeF
                                                              rw [e1]
      have hnv : n.v = p.1 := by rw [← hn]; split <;> rfl
      have hnl : n.l < ns1.length ∧ n.h < ns1.length ∧ n.v < lv ns1 n.l ∧ n.v < lv ns1 n.h := by
        rw [← hn]
        split
        · exact ⟨by show 0 < _; omega, hf, v0, vf⟩
        · exact ⟨hf, by show 0 < _; omega, vf, v0⟩
      have heq : ∀ e, allB (p :: r) e = if e n.v then ev ns1 e n.h else ev ns1 e n.l := fun e => by
        rw [hnv, ← hn]
        have er := ef e
        unfold allB at er ⊢
        rw [List.all_cons]
        cases hp2 : p.2 <;> cases he : e p.1 <;> simp [er, ev_zero]
      obtain ⟨nw, nx, nr, nf, nset, nold, nlen, nb⟩ := num_made (most := most) w1 hnl.1 hnl.2.1 hnl.2.2.1 hnl.2.2.2 (φ := allB (p :: r)) heq
      rw [e]
      refine ⟨nw, x1.trans nx, by omega, fun q => (nf q).1, fun q hq => ?_, fun q0 => ?_, by simp only [List.length_cons]; omega, fun B hB hb => nb B (bits1 B hB (fun q hq => hb q (List.mem_cons_of_mem _ hq))) (by rw [hnv]; exact hb p (List.mem_cons_self ..))⟩
      · obtain ⟨a, b⟩ := nset q hq
        refine ⟨a, fun q0 => ?_, b⟩
        subst q0
        have hbad := b (fun i => ((p :: r).find? (fun z => z.1 == i)).elim false (·.2))
        rw [ev_zero] at hbad
        have hgood : allB (p :: r) (fun i => ((p :: r).find? (fun z => z.1 == i)).elim false (·.2)) = true := by
          unfold allB
          rw [List.all_eq_true]
          intro z hz
          show (((p :: r).find? (fun y => y.1 == z.1)).elim false (·.2) == z.2) = true
          cases hfi : (p :: r).find? (fun y => y.1 == z.1) with
          | none => have := List.find?_eq_none.1 hfi z hz; simp at this
          | some y =>
            have h1 := List.mem_of_find?_eq_some hfi
            have h2 := List.find?_some hfi
            simp at h2
            have : y = z := by
              rcases List.mem_iff_getElem.1 h1 with ⟨i, hi, rfl⟩
              rcases List.mem_iff_getElem.1 hz with ⟨j, hj, rfl⟩
              rcases Nat.lt_trichotomy i j with c | c | c
              · have := List.pairwise_iff_getElem.1 hr i j hi hj c; omega
              · subst c; rfl
              · have := List.pairwise_iff_getElem.1 hr j i hj hi c; omega
            subst this
            simp
        rw [hgood] at hbad; cases hbad
      · obtain ⟨a, -⟩ := oldr q0
        obtain ⟨q, hq, he⟩ := q0
        obtain ⟨b, c⟩ := nold ⟨q, by rw [a]; exact hq, fun e => by rw [a]; exact he e⟩
        exact ⟨b.trans a, c⟩
end Go.Proofs.Ytgcbngephokegab
/- What was there stays, behind calls that turn nothing old. No program in sight. -/
namespace Go.Proofs.Ytgcbngephokegab
open Go.RowKit
set_option linter.unusedVariables false

theorem cell_lt {w : World} {b o : Nat} (h : (w.cell? ⟨b, o, none⟩).isSome = true) : b < w.heap.size := by
  rcases Nat.lt_or_ge b w.heap.size with hb | hb
  · exact hb
  · have e : w.heap[b]? = none := Array.getElem?_eq_none hb
    simp [World.cell?, e] at h
/-- What is there stays, behind a call that turns nothing old. -/
theorem bsome {W w1 : World} (hb : Below W.heap.size W w1) : (∀ b o, (W.cell? ⟨b, o, none⟩).isSome = true → w1.cell? ⟨b, o, none⟩ = W.cell? ⟨b, o, none⟩) ∧ (∀ b o, (W.cell? ⟨b, o, none⟩).isSome = true → w1.frozen? ⟨b, o, none⟩ = W.frozen? ⟨b, o, none⟩) :=
  ⟨fun b o h => hb.cell (p := ⟨b, o, none⟩) (cell_lt h), fun b o h => hb.frozen (p := ⟨b, o, none⟩) (cell_lt h)⟩
theorem below_kb {W w : World} (h : Below W.heap.size W w) : Below W.heap.size W w ∧ ∀ b o, (W.cell? ⟨b, o, none⟩).isSome = true → w.cell? ⟨b, o, none⟩ = W.cell? ⟨b, o, none⟩ := ⟨h, (bsome h).1⟩
theorem hinfo_parts {o : Option TypeInfo} {z : Option Value} {s b : Nat} (h : o.map (fun i => (i.zero, i.size, i.bytes)) = some (z, s, b)) : ∃ i, o = some i ∧ i.zero = z ∧ i.size = s ∧ i.bytes = b := by
  cases o with
  | none => cases h
  | some i => simp at h; exact ⟨i, rfl, h.1, h.2.1, h.2.2⟩
end Go.Proofs.Ytgcbngephokegab
/- Blocks by the list of their cells. No program in sight. -/
namespace Go.Proofs.Ytgcbngephokegab
open Go.RowKit
set_option linter.unusedVariables false

/-- Block b holds these cells, from its first on. -/
def Cel (w : World) (b : Nat) (cs : List Value) : Prop := ∀ i v, cs[i]? = some v → w.cell? ⟨b, i, none⟩ = some v
theorem Cel.on {w w' : World} {b : Nat} {cs : List Value} (h : Cel w b cs) (hb : Below w.heap.size w w') : Cel w' b cs := fun i v hv => by
  have e := h i v hv
  exact (hb.cell (p := ⟨b, i, none⟩) (cell_lt (o := i) (by rw [e]; rfl))).trans e
theorem Cel.far {w : World} {b : Nat} {cs : List Value} (h : Cel w b cs) (p : Addr) (y : Value) (hp : p.block ≠ b) : Cel (w.setCell p y) b cs := fun i v hv => by
  rw [World.cell?_setCell_far _ _ _ _ (by exact hp)]; exact h i v hv
theorem Cel.drew {w : World} {b : Nat} {cs : List Value} (h : Cel w b cs) : Cel w.drew b cs := h
/-- .. and is free to be written. -/
def Blk (w : World) (b : Nat) (cs : List Value) : Prop := Cel w b cs ∧ ∀ i v, cs[i]? = some v → w.frozen? ⟨b, i, none⟩ = false
theorem Blk.on {w w' : World} {b : Nat} {cs : List Value} (h : Blk w b cs) (hb : Below w.heap.size w w') : Blk w' b cs := ⟨h.1.on hb, fun i v hv => by
  have e := h.1 i v hv
  exact (hb.frozen (p := ⟨b, i, none⟩) (cell_lt (o := i) (by rw [e]; rfl))).trans (h.2 i v hv)⟩
theorem Blk.far {w : World} {b : Nat} {cs : List Value} (h : Blk w b cs) (p : Addr) (y : Value) (hp : p.block ≠ b) : Blk (w.setCell p y) b cs := ⟨h.1.far p y hp, fun i v hv => by simp [h.2 i v hv]⟩
theorem Blk.drew {w : World} {b : Nat} {cs : List Value} (h : Blk w b cs) : Blk w.drew b cs := h
theorem Blk.lt {w : World} {b : Nat} {c : Value} {cs : List Value} (h : Blk w b (c :: cs)) : b < w.heap.size := cell_lt (o := 0) (by rw [h.1 0 c rfl]; rfl)
theorem Blk.set {w : World} {b : Nat} {cs : List Value} (h : Blk w b cs) (j : Nat) (y : Value) (hj : j < cs.length) : Blk (w.setCell ⟨b, j, none⟩ y) b (cs.set j y) := by
  have hc := h.1 j cs[j] (List.getElem?_eq_getElem hj)
  refine ⟨fun i v hv => ?_, fun i v hv => ?_⟩
  · by_cases e : i = j
    · subst e
      rw [List.getElem?_set_self hj] at hv
      cases hv
      exact World.cell?_setCell_same _ _ _ hc
    · rw [List.getElem?_set_ne (fun q => e q.symm)] at hv
      rw [World.cell?_setCell_other _ _ _ _ (by simp <;> omega)]; exact h.1 i v hv
  · have : ∃ u, cs[i]? = some u := by
      by_cases e : i = j
      · subst e; exact ⟨_, List.getElem?_eq_getElem hj⟩
      · rw [List.getElem?_set_ne (fun q => e q.symm)] at hv; exact ⟨v, hv⟩
    obtain ⟨u, hu⟩ := this
    simp [h.2 i u hu]
theorem Blk.new (w : World) (t : TypeId) (cs : List Value) : Blk (w.alloc (Obj.cells cs.toArray t)) w.heap.size cs :=
  ⟨fun i v hv => by simp [go_sem, hv], fun i v hv => by simp [go_sem]⟩
/-- A goal at a world of which no more is wanted than some blocks and what lies below. -/
theorem at_b1 {Q : World → Prop} {W w : World} {n b : Nat} {cs : List Value} (h : Blk W b cs) (hb : Below n w W) (k : ∀ W, Blk W b cs → Below n w W → Q W) : Q W := k W h hb
theorem at_b2 {Q : World → Prop} {W w : World} {n b b' : Nat} {cs cs' : List Value} (h : Blk W b cs) (h' : Blk W b' cs') (hb : Below n w W) (k : ∀ W, Blk W b cs → Blk W b' cs' → Below n w W → Q W) : Q W := k W h h' hb
theorem at_p {Q : World → Prop} {W : World} {R : World → Prop} (h : R W) (k : ∀ W, R W → Q W) : Q W := k W h
end Go.Proofs.Ytgcbngephokegab
/- Maps with integer elements that a call made, by the list of what they hold; a world that is another but for one block. No program in sight. -/
namespace Go.Proofs.Ytgcbngephokegab
open Go.RowKit Go.Maps Go.MapKept Go.ChangeMaps Go.WideElems Go.Joins
open Go.WideMaps (KeyLaw)
set_option linter.unusedVariables false

theorem nodup_sub {α : Type} : ∀ (l r : List α), l.Nodup → (∀ x ∈ l, x ∈ r) → l.length ≤ r.length
  | [], r, _, _ => Nat.zero_le _
  | a :: l, r, hn, hs => by
    haveI : DecidableEq α := fun a b => Classical.propDecidable _
    obtain ⟨h1, h2⟩ := List.nodup_cons.1 hn
    have ha := hs a (List.mem_cons_self ..)
    have := nodup_sub l (r.erase a) h2 (fun x hx => by
      refine (List.mem_erase_of_ne (fun e : x = a => h1 (by rw [← e]; exact hx))).2 (hs x (List.mem_cons_of_mem _ hx)))
    rw [List.length_erase_of_mem ha] at this
    have := List.length_pos_of_mem ha
    simp only [List.length_cons]; omega
/-- w' is w but for block b. -/
structure Only (b : Nat) (w w' : World) : Prop where
  os : w'.os = w.os
  tape : w'.tape = w.tape
  out : w'.output = w.output
  size : w'.heap.size = w.heap.size
  blk : ∀ i, i ≠ b → w'.heap[i]? = w.heap[i]?
theorem Only.refl (b : Nat) (w : World) : Only b w w := ⟨rfl, rfl, rfl, rfl, fun _ _ => rfl⟩
theorem Only.set {w : World} {b : Nat} {es : Array MapEntry} {clock : Nat} {o' : Obj} (h : w.heap[b]? = some (.map es clock)) : Only b w (setBlock w b o') :=
  ⟨rfl, rfl, rfl, by simp [setBlock], fun i hi => heap_setBlock_other h _ (fun e => hi (by rw [e]))⟩
theorem Only.below {w w' W : World} {n b : Nat} (h : Only b w w') (hb : Below n W w) (hn : n ≤ b) : Below n W w' := by
  refine ⟨by rw [h.os]; exact hb.os, by rw [h.tape]; exact hb.tape, by rw [h.out]; exact hb.output, by rw [h.size]; exact hb.size, fun i hi => ?_⟩
  rw [h.blk i (by omega)]; exact hb.block i hi
theorem Only.cell {w w' : World} {b : Nat} {es : Array MapEntry} {clock : Nat} (h : Only b w w') (hb : w.heap[b]? = some (.map es clock)) (i o : Nat) (hc : (w.cell? ⟨i, o, none⟩).isSome = true) : w'.cell? ⟨i, o, none⟩ = w.cell? ⟨i, o, none⟩ := by
  have hi : i ≠ b := fun e => by subst e; simp [World.cell?, hb] at hc
  simp only [World.cell?, h.blk i hi]
section
variable {κ : Type} {P : Program} {tk te t : TypeId} {kv : κ → Value}
/-- Block b is a map of just these, each key once. -/
def MapG (P : Program) (tk te : TypeId) (kv : κ → Value) (w : World) (b : Nat) (m : List (κ × Nat)) : Prop :=
  ∃ es clock, w.heap[b]? = some (.map es clock) ∧ Fit (H := Unit) P tk (plainElem P te) es clock ∧ (∀ x ∈ es.toList, ∃ p ∈ m, x.key = kv p.1 ∧ x.val = .int .i64 (p.2 : Nat)) ∧ (∀ p ∈ m, ∃ x ∈ es.toList, x.key = kv p.1 ∧ x.val = .int .i64 (p.2 : Nat))
theorem MapG.lt {w : World} {b : Nat} {m : List (κ × Nat)} (h : MapG P tk te kv w b m) : b < w.heap.size := by
  obtain ⟨es, clock, h1, -⟩ := h
  rcases Nat.lt_or_ge b w.heap.size with q | q
  · exact q
  · rw [Array.getElem?_eq_none q] at h1; cases h1
theorem MapG.isMap {w : World} {b : Nat} {m : List (κ × Nat)} (h : MapG P tk te kv w b m) : ∃ es clock, w.heap[b]? = some (.map es clock) := by
  obtain ⟨es, clock, h1, -⟩ := h
  exact ⟨es, clock, h1⟩
theorem MapG.drew {w : World} {b : Nat} {m : List (κ × Nat)} (h : MapG P tk te kv w b m) : MapG P tk te kv w.drew b m := h
theorem MapG.same {w w' : World} {b : Nat} {m : List (κ × Nat)} (h : MapG P tk te kv w b m) (hb : w'.heap[b]? = w.heap[b]?) : MapG P tk te kv w' b m := by
  obtain ⟨es, clock, h1, h2⟩ := h
  exact ⟨es, clock, hb.trans h1, h2⟩
theorem MapG.perm {w : World} {b : Nat} {m m' : List (κ × Nat)} (h : MapG P tk te kv w b m) (hm : ∀ p, p ∈ m ↔ p ∈ m') : MapG P tk te kv w b m' := by
  obtain ⟨es, clock, h1, h2, h3, h4⟩ := h
  exact ⟨es, clock, h1, h2, fun x hx => by obtain ⟨p, hp, e⟩ := h3 x hx; exact ⟨p, (hm p).1 hp, e⟩, fun p hp => h4 p ((hm p).2 hp)⟩
theorem MapG.made (w : World) : MapG P tk te kv (w.alloc (.map #[] 0)) w.heap.size [] := by
  obtain ⟨es, clock, h1, h2, h3, h4⟩ := World.ownsMap_made (H := Unit) w P tk (plainElem P te)
  have h5 : es = #[] := by
    have k := (MapKept.heap_alloc w (.map #[] 0)).1
    rw [k] at h1; cases h1; rfl
  subst h5
  exact ⟨#[], clock, h1, h2, by simp, by simp⟩
theorem MapG.size {w : World} {b : Nat} {m : List (κ × Nat)} {es : Array MapEntry} {clock : Nat} (F : Fit (H := Unit) P tk (plainElem P te) es clock) (h : ∀ x ∈ es.toList, ∃ p ∈ m, x.key = kv p.1 ∧ x.val = .int .i64 (p.2 : Nat)) : es.size ≤ m.length := by
  have := nodup_sub (es.toList.map (·.key)) (m.map (fun p => kv p.1)) F.stamped.2.2 (fun v hv => by
    obtain ⟨x, hx, rfl⟩ := List.mem_map.1 hv
    obtain ⟨p, hp, e, -⟩ := h x hx
    exact List.mem_map.2 ⟨p, hp, e.symm⟩)
  simpa using this
theorem mapG_none (K : Keyed P tk) (ht : P.underlying t = some (.map tk te)) (hz : ∀ w, (zeroValue te).run P w = .ok (.int .i64 0) w) (hi : ∀ a b, kv a = kv b → a = b) (c : Bool) {w : World} {b : Nat} {m : List (κ × Nat)} (h : MapG P tk te kv w b m) {k : κ} {l : Lit} (hk : keyOf P tk (kv k) = some l) (hn : k ∉ m.map (·.1)) :
    (Instr.lookup t (.map (some b)) (kv k) c).run P w = .ok (if c then .tuple #[.int .i64 0, .bool false] else .int .i64 0) w := by
  obtain ⟨es, clock, hb, F, h1, h2⟩ := h
  rcases fit_look c K ht (hz w) hb F hk with ⟨hr, -⟩ | ⟨e0, y, hm, hk', -⟩
  · exact hr
  · obtain ⟨p, hp, e, -⟩ := h1 e0 hm
    exact absurd (List.mem_map.2 ⟨p, hp, hi _ _ (e.symm.trans hk')⟩) hn
theorem mapG_some (K : Keyed P tk) (ht : P.underlying t = some (.map tk te)) (hz : ∀ w, (zeroValue te).run P w = .ok (.int .i64 0) w) (hi : ∀ a b, kv a = kv b → a = b) (c : Bool) {w : World} {b : Nat} {m : List (κ × Nat)} (h : MapG P tk te kv w b m) {k : κ} {v : Nat} {l : Lit} (hk : keyOf P tk (kv k) = some l) (hm : (k, v) ∈ m) (hone : (m.map (·.1)).Nodup) :
    (Instr.lookup t (.map (some b)) (kv k) c).run P w = .ok (if c then .tuple #[.int .i64 v, .bool true] else .int .i64 v) w := by
  obtain ⟨es, clock, hb, F, h1, h2⟩ := h
  rcases fit_look c K ht (hz w) hb F hk with ⟨-, hn, -⟩ | ⟨e0, y, hme, hk', hr, -⟩
  · obtain ⟨x, hx, e, -⟩ := h2 _ hm
    exact absurd e (hn x hx)
  · obtain ⟨p, hp, e, ev⟩ := h1 e0 hme
    have e1 : p.1 = k := hi _ _ (e.symm.trans hk')
    have e2 : p.2 = v := by
      clear h1 h2 ht
      induction m with
      | nil => cases hp
      | cons q r ih =>
        obtain ⟨n1, n2⟩ := List.nodup_cons.1 hone
        rcases List.mem_cons.1 hp with hp1 | hp1
        · rcases List.mem_cons.1 hm with hm1 | hm1
          · rw [hp1, ← hm1]
          · exact absurd (List.mem_map.2 ⟨_, hm1, by show k = q.1; rw [← hp1, e1]⟩) n1
        · rcases List.mem_cons.1 hm with hm1 | hm1
          · exact absurd (List.mem_map.2 ⟨_, hp1, by show p.1 = q.1; rw [← hm1, e1]⟩) n1
          · exact ih hm1 n2 hp1
    rw [ev, e2] at hr
    exact hr
theorem mapG_store (K : Keyed P tk) (ht : P.underlying t = some (.map tk te)) (he : P.underlying te = some (.int .i64)) (hi : ∀ a b, kv a = kv b → a = b) {w : World} {b : Nat} {m : List (κ × Nat)} (h : MapG P tk te kv w b m) {k : κ} {v : Nat} {l : Lit} (hk : keyOf P tk (kv k) = some l) (hn : k ∉ m.map (·.1)) (hv : v ≤ 9223372036854775807) (hlen : m.length < maxLen) :
    ∃ w', (Instr.mapUpdate t (.map (some b)) (kv k) (.int .i64 v)).run P w = .ok () w' ∧ MapG P tk te kv w' b ((k, v) :: m) ∧ Only b w w' := by
  obtain ⟨es, clock, hb, F, h1, h2⟩ := h
  have hno : ∀ x ∈ es.toList, x.key ≠ kv k := fun x hx hk' => by
    obtain ⟨p, hp, e, -⟩ := h1 x hx
    exact hn (List.mem_map.2 ⟨p, hp, hi _ _ (e.symm.trans hk')⟩)
  have hfind : (Instr.findKey tk (kv k) es.toList).run P w = .ok none w := by
    rcases K.find w hk es.toList F.keys with ⟨k1, -⟩ | ⟨j, e0, -, k2, k3⟩
    · exact k1
    · exact absurd k3 (hno e0 (List.mem_of_getElem? k2))
  have hsz := MapG.size (w := w) (b := b) F h1
  obtain ⟨es', clock', hrun, F', -⟩ := fit_store (R' := plainElem P te) K ht hb F (by omega) (fun _ _ _ _ hz => hz) hk (plainElem_int (H := Unit) he (show (Lit.int .i64 (v : Int)).wf = true by rw [Lit.wf, Bool.and_eq_true, decide_eq_true_eq, decide_eq_true_eq, show IntKind.i64.min = -9223372036854775808 from rfl, show IntKind.i64.max = 9223372036854775807 from rfl]; omega))
  have hrun2 : (Instr.mapUpdate t (.map (some b)) (kv k) (.int .i64 v)).run P w = .ok () (setBlock w b (.map (es.push ⟨kv k, .int .i64 v, clock⟩) (clock + 1))) := by
    simp [Instr.mapUpdate, run_underlying ht, MapKept.run_getObj_map hb, K.check w false hk, hfind, MapKept.run_setObj_map _ hb, Result.andThen, setBlock]
  have heq : es' = es.push ⟨kv k, .int .i64 v, clock⟩ ∧ clock' = clock + 1 := by
    rw [hrun] at hrun2
    have q := (Result.ok.inj hrun2).2
    have k1 := heap_setBlock_same hb (.map es' clock')
    rw [q, heap_setBlock_same hb] at k1
    cases k1; exact ⟨rfl, rfl⟩
  obtain ⟨rfl, rfl⟩ := heq
  refine ⟨_, hrun, ⟨_, _, heap_setBlock_same hb _, F', fun x hx => ?_, fun p hp => ?_⟩, Only.set hb⟩
  · rw [Array.toList_push, List.mem_append, List.mem_singleton] at hx
    rcases hx with hx | rfl
    · obtain ⟨p, hp, e⟩ := h1 x hx
      exact ⟨p, List.mem_cons_of_mem _ hp, e⟩
    · exact ⟨(k, v), List.mem_cons_self .., rfl, rfl⟩
  · rcases List.mem_cons.1 hp with rfl | hp
    · exact ⟨⟨kv k, .int .i64 v, clock⟩, by simp, rfl, rfl⟩
    · obtain ⟨x, k1, k2⟩ := h2 p hp
      exact ⟨x, by simp [k1], k2⟩
theorem mapG_del (K : Keyed P tk) (ht : P.underlying t = some (.map tk te)) (hi : ∀ a b, kv a = kv b → a = b) {ty : TypeId} {w : World} {b : Nat} {m m' : List (κ × Nat)} (h : MapG P tk te kv w b m) {k : κ} {l : Lit} (hk : keyOf P tk (kv k) = some l) (hm : ∀ p, p ∈ m' ↔ p ∈ m ∧ p.1 ≠ k) :
    ∃ w', (Builtin.delete_ #[t, tk] ty #[.map (some b), kv k]).run P w = .ok (.tuple #[]) w' ∧ MapG P tk te kv w' b m' ∧ Only b w w' := by
  obtain ⟨es, clock, hb, F, h1, h2⟩ := h
  obtain ⟨es', hrun, F', -, -, -, hwho⟩ := fit_drop_who (ty := ty) K ht hb F hk
  refine ⟨_, hrun, ⟨_, _, heap_setBlock_same hb _, F', fun x hx => ?_, fun p hp => ?_⟩, Only.set hb⟩
  · obtain ⟨q1, q2⟩ := (hwho x).1 hx
    obtain ⟨p, hp, e⟩ := h1 x q1
    exact ⟨p, (hm p).2 ⟨hp, fun e1 => q2 (by rw [e.1, e1])⟩, e⟩
  · obtain ⟨q1, q2⟩ := (hm p).1 hp
    obtain ⟨x, k1, k2⟩ := h2 p q1
    exact ⟨x, (hwho x).2 ⟨k1, fun e1 => q2 (hi _ _ (k2.1.symm.trans e1))⟩, k2⟩
end
end Go.Proofs.Ytgcbngephokegab
/- From a walk that turns nothing old ('Below') to what a row asks behind the call: the results read, the arguments and the named variables read as they did. No program in sight. -/
namespace Go.Proofs.Ytgcbngephokegab
open Go.RowKit Go.WideShapes Go.ChangeShapes
theorem post_below {H : Type} {enc : TypeId × Value → H} {P : Program} {f : Func} {s : ChangeSpec} {b1 b2 b3 b4 : Bool} {W W' : World} {args : Array Value} {v : Value} {ds gs : List (DataW H)} {met pa pv : List MemPlace}
    (hW : DataW.Whole enc P f.params.toList s.vars b1 W args.toList ds gs met) (hm : met = pa ++ pv) (hb : Below W.heap.size W W')
    (rR : ∀ (b : Nat) (sp : Nat → Bool) (hd : Bool), DataW.TrodAll enc P W' b sp hd f.resultTypes.toList (v.resultList f.resultTypes.size) (s.fn H (ds ++ gs)).results [])
    (rA : ∀ sp : Nat → Bool, (∀ p ∈ met, sp p.block = true) → DataW.TrodAll enc P W' 0 sp true f.params.toList args.toList (s.fn H (ds ++ gs)).args pa)
    (rV : ∀ sp : Nat → Bool, (∀ p ∈ met, sp p.block = true) → DataW.TrodVars enc P W' sp s.vars (s.fn H (ds ++ gs)).vars pv)
    (ok : ∀ (j : Nat) (t : TypeId) (r : Value), f.resultTypes[j]? = some t → (v.resultList f.resultTypes.size)[j]? = some r → Value.okWide P W' .any 0 t r) :
    s.post enc P f b1 b2 b3 b4 W args v W' := by
  subst hm
  have low : ∀ p ∈ pa ++ pv, p.block < W.heap.size := hW.lt
  have lowB : ∀ p ∈ pa ++ pv, (fun b => decide (b < W.heap.size)) p.block = true := fun p hp => decide_eq_true (low p hp)
  have again : ∀ p ∈ pa ++ pv, (fun _ : Nat => true) p.block = true := fun _ _ => rfl
  have hN := hW
  obtain ⟨_, _, _, _, _, hz, hn⟩ := hN
  refine ⟨ds, gs, pa ++ pv, [], pa, pv, hW, rR _ _ _, rA _ lowB, rV _ lowB, World.keptBut_mono (fun p hp => ⟨hp, Or.inr (List.mem_append.1 hp)⟩) (hb.frame (· ∈ pa ++ pv)), fun _ => ⟨ok, _, _, ([] ++ pa) ++ pv, ⟨[] ++ pa, pv, trodAll_append (rA _ again) (rR _ _ _), rV _ again, rfl, fun b off hp => ?_, fun ha => ?_⟩, fun p hp _ => by simpa using hp⟩⟩
  · have hp' : MemPlace.cell b off ∈ pa ++ pv := by simpa using hp
    exact (hb.frozen (p := ⟨b, off, none⟩) (low _ hp')).trans (hz b off hp')
  · simpa using hn ha
end Go.Proofs.Ytgcbngephokegab
/- A law that answers true and turns nothing old: what its row asks behind the call, whatever its arguments are. -/
namespace Go.Proofs.Ytgcbngephokegab
open Go.ChangeShapes Go.WideShapes Go.ChangeAt Go.RowKit

theorem laidOutA : laidOutB Try.prog = true := by kernel_rfl
theorem trodAll_stays {H : Type} {enc : TypeId × Value → H} {P : Program} (hl : laidOutB P = true) {W W' : World} (hb : Below W.heap.size W W') {sp : Nat → Bool} :
    ∀ {ts : List TypeId} {vs : List Value} {ds : List (DataW H)} {ps : List MemPlace}, (∀ t ∈ ts, P.readableRec t = true ∧ t < P.types.size) → DataW.TrodAll enc P W 0 (fun _ => true) true ts vs ds ps →
      (∀ x ∈ ps, x.block < W.heap.size) → (∀ x ∈ ps, sp x.block = true) → DataW.TrodAll enc P W' 0 sp true ts vs ds ps
  | [], [], [], _, _, h, _, _ => h
  | t :: _, _ :: _, _ :: _, _, hT, ⟨p, q, h1, h2, e⟩, hlt, hs =>
    ⟨p, q, WideElems.Trod_stays hl (hT t (List.mem_cons.2 (Or.inl rfl))).1 (hT t (List.mem_cons.2 (Or.inl rfl))).2 h1 (fun x hx => hb.same (hlt x (by rw [e]; exact List.mem_append_left _ hx))) (fun x hx => hs x (by rw [e]; exact List.mem_append_left _ hx)),
      trodAll_stays hl hb (fun t ht => hT t (List.mem_cons.2 (Or.inr ht))) h2 (fun x hx => hlt x (by rw [e]; exact List.mem_append_right _ hx)) (fun x hx => hs x (by rw [e]; exact List.mem_append_right _ hx)), e⟩
set_option maxRecDepth 100000 in
theorem law_post {H : Type} {enc : TypeId × Value → H} {f : Func} {s : ChangeSpec} {W W' : World} {args : Array Value} {ds : List (DataW H)} {p : List MemPlace}
    (hf : f.resultTypes = #[4]) (hts : f.params.toList.all (fun t => Try.prog.readableRec t && decide (t < Try.prog.types.size)) = true)
    (hW : DataW.Whole enc Try.prog f.params.toList s.vars false W args.toList ds [] p) (hA : DataW.TrodAll enc Try.prog W 0 (fun _ => true) true f.params.toList args.toList ds p)
    (hvars : s.vars = []) (e1 : (s.fn H (ds ++ [])).results = [.lit (.bool true)]) (e2 : (s.fn H (ds ++ [])).args = ds) (e3 : (s.fn H (ds ++ [])).vars = []) (hb : Below W.heap.size W W') :
    s.post enc Try.prog f false true false false W args (.bool true) W' := by
  have low := hW.lt
  refine post_below (pa := p) (pv := []) hW (by simp) hb (fun _ _ _ => ?_) (fun sp hsp => ?_) (fun _ _ => ?_) ?_
  · rw [hf, e1]; exact trodAll_mk1 (shut_bool Try.underlying4 _)
  · rw [e2]
    refine trodAll_stays laidOutA hb (fun t ht => ?_) hA low hsp
    have := List.all_eq_true.1 hts t ht
    rw [Bool.and_eq_true, decide_eq_true_eq] at this
    exact this
  · rw [hvars, e3]; rfl
  · exact ok_one hf rfl (okWide_bool_mk Try.underlying4 _)
end Go.Proofs.Ytgcbngephokegab
