/- A bit held, some bits so, as functions of lists; what they come to. No program in sight. -/
import Derived.Test.YtioanjpeddipmacBF
namespace Go.Proofs.Ytioanjpeddipmac
set_option linter.unusedVariables false

abbrev Memo1 := List (Nat × Nat)
def look1 (k : Nat) : Memo1 → Option Nat
  | [] => none
  | x :: r => if x.1 = k then some x.2 else look1 k r
theorem look1_some {k : Nat} : ∀ {m : Memo1} {r : Nat}, look1 k m = some r → (k, r) ∈ m
  | [], r, h => by cases h
  | x :: m, r, h => by
    unfold look1 at h
    split at h
    · rename_i e; cases h; subst e; simp
    · exact List.mem_cons_of_mem _ (look1_some h)
theorem look1_none {k : Nat} : ∀ {m : Memo1}, look1 k m = none → k ∉ m.map (·.1)
  | [], h => by simp
  | x :: m, h => by
    unfold look1 at h
    split at h
    · cases h
    · rename_i e
      simp only [List.map_cons, List.mem_cons, not_or]
      exact ⟨fun q => e q.symm, look1_none h⟩
/-- A set with a bit held. -/
def setF (bit : Nat) (on : Bool) (most : Nat) : Nat → List Nd → Memo1 → Nat → Option Nat × List Nd × Memo1
  | 0, ns, m, f => (none, ns, m)
  | k + 1, ns, m, f =>
    if bit < lv ns f then (some f, ns, m) else
    if lv ns f = bit then (some (if on then (ns.getD f bot).h else (ns.getD f bot).l), ns, m) else
    match look1 f m with
    | some r => (some r, ns, m)
    | none =>
      match setF bit on most k ns m (ns.getD f bot).l with
      | (none, ns1, m1) => (none, ns1, m1)
      | (some lo, ns1, m1) =>
        match setF bit on most k ns1 m1 (ns.getD f bot).h with
        | (none, ns2, m2) => (none, ns2, m2)
        | (some hi, ns2, m2) =>
          match numF most ns2 ⟨lv ns f, lo, hi⟩ with
          | (none, ns3) => (none, ns3, m2)
          | (some r, ns3) => (some r, ns3, (f, r) :: m2)
structure MV1 (bit : Nat) (on : Bool) (ns : List Nd) (m : Memo1) : Prop where
  ok : ∀ p ∈ m, p.1 < ns.length ∧ p.2 < ns.length ∧ ∀ e, ev ns e p.2 = ev ns (hld e bit on) p.1
  one : (m.map (·.1)).Nodup
theorem MV1.ext {bit : Nat} {on : Bool} {ns ns' : List Nd} {m : Memo1} (h : MV1 bit on ns m) (hx : Ext ns ns') (hw : WF ns) (hw' : WF ns') : MV1 bit on ns' m :=
  ⟨fun p hp => by
    obtain ⟨a, b, d⟩ := h.ok p hp
    have := hx.len
    exact ⟨by omega, by omega, fun e => by rw [hx.ev hw hw' e _ b, hx.ev hw hw' _ _ a, d]⟩, h.one⟩
theorem hld_comm (e : Nat → Bool) {i k : Nat} (h : i ≠ k) (b c : Bool) : hld (hld e i b) k c = hld (hld e k c) i b := by
  funext z; unfold hld; (repeat' split) <;> simp_all
theorem hld_upd (e : Nat → Bool) (i : Nat) (b c : Bool) : hld (hld e i b) i c = hld e i c := by
  funext z; unfold hld; split <;> simp_all
theorem setF_made (bit : Nat) (on : Bool) (most : Nat) (hbit : bit < 104) : ∀ (k : Nat) (ns : List Nd) (m : Memo1) (f : Nat), WF ns → MV1 bit on ns m → f < ns.length → 105 ≤ k + lv ns f →
    Made most ns (setF bit on most k ns m f).2.1 (fun e => ev ns (hld e bit on) f) (setF bit on most k ns m f).1 (lv ns f) ∧ MV1 bit on (setF bit on most k ns m f).2.1 (setF bit on most k ns m f).2.2 ∧
    ∀ p ∈ (setF bit on most k ns m f).2.2, p ∈ m ∨ lv ns f ≤ lv (setF bit on most k ns m f).2.1 p.1 := by
  intro k
  induction k with
  | zero => intro ns m f h _ hf hk; have := lv_le h (f := f); omega
  | succ k ih =>
    intro ns m f h hm hf hk
    have h2 := h.len
    by_cases c1 : bit < lv ns f
    · have e : setF bit on most (k + 1) ns m f = (some f, ns, m) := by unfold setF; rw [if_pos c1]
      rw [e]
      exact ⟨made_id h hf (fun e => (ev_hld h e on hf c1).symm), hm, fun p hp => Or.inl hp⟩
    by_cases c2 : lv ns f = bit
    · have e : setF bit on most (k + 1) ns m f = (some (if on then (ns.getD f bot).h else (ns.getD f bot).l), ns, m) := by unfold setF; rw [if_neg c1, if_pos c2]
      rw [e]
      clear e
      have hf2 := lv_two h hf (by omega)
      obtain ⟨a, b, -⟩ := h.parts hf2 hf
      refine ⟨made_id h (by split <;> omega) (fun e => ?_), hm, fun p hp => Or.inl hp⟩
      cases on
      · simp only [Bool.false_eq_true, if_false]; rw [ev_low h e hf2 hf, c2]
      · simp only [if_true]; rw [ev_high h e hf2 hf, c2]
    cases hl : look1 f m with
    | some r =>
      have e : setF bit on most (k + 1) ns m f = (some r, ns, m) := by unfold setF; rw [if_neg c1, if_neg c2, hl]
      rw [e]
      obtain ⟨-, a, b⟩ := hm.ok _ (look1_some hl)
      exact ⟨made_id h a b, hm, fun p hp => Or.inl hp⟩
    | none =>
      obtain ⟨L, hL⟩ : ∃ L, lv ns f = L := ⟨_, rfl⟩
      have hLb : L < bit := by omega
      have hf2 := lv_two h hf (by omega)
      obtain ⟨xl, xh, -, xvl, xvh, -⟩ := h.parts hf2 hf
      rw [hL] at xvl xvh
      have xel : ∀ e, ev ns e (ns.getD f bot).l = ev ns (hld e L false) f := fun e => by rw [ev_low h e hf2 hf, hL]
      have xeh : ∀ e, ev ns e (ns.getD f bot).h = ev ns (hld e L true) f := fun e => by rw [ev_high h e hf2 hf, hL]
      generalize hgl : (ns.getD f bot).l = fl at xl xvl xel
      generalize hgh : (ns.getD f bot).h = fh at xh xvh xeh
      have hfree : ∀ e i b, i < L → ev ns (hld (hld e i b) bit on) f = ev ns (hld e bit on) f := fun e i b hi => by
        rw [hld_comm e (by omega), ev_hld h _ b hf (by omega)]
      have hBL : ∀ B, Bits B ns → B L = true := fun B hB => by rw [← hL]; exact hB f _ hf2 (get_of_lt hf)
      have hpow : ∀ B, Bits B ns → 2 ^ cB B L = 2 ^ cB B (L + 1) + 2 ^ cB B (L + 1) := fun B hB => by rw [cB_step (by omega) (hBL B hB), Nat.pow_succ]; omega
      have I1 := ih ns m fl h hm (by omega) (by omega)
      obtain ⟨r1, ns1, m1, e1⟩ : ∃ r1 ns1 m1, setF bit on most k ns m fl = (r1, ns1, m1) := ⟨_, _, _, rfl⟩
      rw [e1] at I1
      obtain ⟨M1, V1, N1⟩ := I1
      simp only at M1 V1 N1
      have old1 : (∃ q, q < ns.length ∧ ∀ e, ev ns e q = ev ns (hld e bit on) f) → ns1 = ns ∧ r1 ≠ none := fun ⟨q, hq, he⟩ => by
        obtain ⟨p, hp1, hp2⟩ := cof h hq (by omega) he hfree false
        exact M1.old ⟨p, hp1, fun e => by rw [hp2, xel, hld_comm e (by omega)]⟩
      have few1 : ∀ B, Bits B ns → Bits B ns1 ∧ ns1.length + 1 ≤ ns.length + 2 ^ cB B (L + 1) := fun B hB => by
        obtain ⟨a, b⟩ := M1.few B hB
        exact ⟨a, Nat.le_trans b (Nat.add_le_add_left (Nat.pow_le_pow_right (by omega) (cB_mono (by omega))) _)⟩
      have new1 : ∀ p ∈ m1, p ∈ m ∨ L < lv ns1 p.1 := fun p hp => (N1 p hp).imp id (fun q => by omega)
      cases r1 with
      | none =>
        have e : setF bit on most (k + 1) ns m f = (none, ns1, m1) := by unfold setF; rw [if_neg c1, if_neg c2, hl]; simp only; rw [hgl, e1]
        rw [e, hL]
        refine ⟨⟨M1.wf, M1.ext, M1.room, M1.full, fun q hq => (by cases hq), fun q => absurd rfl (old1 q).2, fun B hB => ⟨(few1 B hB).1, ?_⟩⟩, V1, fun p hp => (new1 p hp).imp id Nat.le_of_lt⟩
        have := (few1 B hB).2; have := hpow B hB; have := Nat.two_pow_pos (cB B (L + 1)); show ns1.length + 1 ≤ _; omega
      | some lo =>
        obtain ⟨hlo, elo⟩ := M1.set lo rfl
        have hx1 := M1.ext
        have hl1 := hx1.len
        have xh1 : lv ns1 fh = lv ns fh := hx1.lv (by omega)
        have I2 := ih ns1 m1 fh M1.wf V1 (by omega) (by omega)
        obtain ⟨r2, ns2, m2, e2⟩ : ∃ r2 ns2 m2, setF bit on most k ns1 m1 fh = (r2, ns2, m2) := ⟨_, _, _, rfl⟩
        rw [e2] at I2
        obtain ⟨M2, V2, N2⟩ := I2
        simp only at M2 V2 N2
        have evx : ∀ e, ev ns1 e fh = ev ns (hld e L true) f := fun e => by rw [hx1.ev h M1.wf e _ (by omega), xeh]
        have old2 : (∃ q, q < ns.length ∧ ∀ e, ev ns e q = ev ns (hld e bit on) f) → ns2 = ns ∧ r2 ≠ none := fun hq0 => by
          obtain ⟨a, -⟩ := old1 hq0
          subst a
          obtain ⟨q, hq, he⟩ := hq0
          obtain ⟨p, hp1, hp2⟩ := cof h hq (by omega) he hfree true
          exact M2.old ⟨p, hp1, fun e => by rw [hp2, evx, hld_comm e (by omega)]⟩
        have few2 : ∀ B, Bits B ns → Bits B ns2 ∧ ns2.length + 2 ≤ ns.length + 2 ^ cB B L := fun B hB => by
          obtain ⟨a, b⟩ := few1 B hB
          obtain ⟨c, d⟩ := M2.few B a
          have d' : ns2.length + 1 ≤ ns1.length + 2 ^ cB B (L + 1) := Nat.le_trans d (Nat.add_le_add_left (Nat.pow_le_pow_right (by omega) (cB_mono (by omega))) _)
          have := hpow B hB
          have := Nat.two_pow_pos (cB B (L + 1))
          exact ⟨c, by omega⟩
        have new2 : ∀ p ∈ m2, p ∈ m ∨ L < lv ns2 p.1 := fun p hp => by
          rcases N2 p hp with q | q
          · rcases new1 p q with r | r
            · exact Or.inl r
            · obtain ⟨a, -⟩ := V1.ok p q
              exact Or.inr (by rw [M2.ext.lv a]; exact r)
          · exact Or.inr (by omega)
        have hnot : f ∉ m2.map (·.1) := fun hq => by
          obtain ⟨p, hp1, hp2⟩ := List.mem_map.1 hq
          rcases new2 p hp1 with r | r
          · exact look1_none hl (List.mem_map.2 ⟨p, r, hp2⟩)
          · rw [hp2, (hx1.trans M2.ext).lv hf] at r; omega
        have room2 : ns2.length ≤ max most ns.length := by have a := M1.room; have b := M2.room; omega
        cases r2 with
        | none =>
          have e : setF bit on most (k + 1) ns m f = (none, ns2, m2) := by unfold setF; rw [if_neg c1, if_neg c2, hl]; simp only; rw [hgl, e1]; simp only; rw [hgh, e2]
          rw [e, hL]
          refine ⟨⟨M2.wf, hx1.trans M2.ext, room2, M2.full, fun q hq => (by cases hq), fun q => absurd rfl (old2 q).2, fun B hB => ⟨(few2 B hB).1, ?_⟩⟩, V2, fun p hp => (new2 p hp).imp id Nat.le_of_lt⟩
          have := (few2 B hB).2; show ns2.length + 1 ≤ _; omega
        | some hi =>
          obtain ⟨hhi, ehi⟩ := M2.set hi rfl
          have hx2 := M2.ext
          have hl2 := hx2.len
          have hx12 := hx1.trans hx2
          have elo2 : ∀ e, ev ns2 e lo = ev ns (hld (hld e L false) bit on) f := fun e => by rw [hx2.ev M1.wf M2.wf e _ hlo, elo, xel, hld_comm e (by omega)]
          have ehi2 : ∀ e, ev ns2 e hi = ev ns (hld (hld e L true) bit on) f := fun e => by rw [ehi, evx, hld_comm e (by omega)]
          have free' : ∀ (b : Bool) e i c, i < L + 1 → ev ns (hld (hld (hld e i c) L b) bit on) f = ev ns (hld (hld e L b) bit on) f := fun b e i c hi => by
            rcases Nat.lt_or_ge i L with q | q
            · rw [hld_comm e (by omega) c b, hfree _ _ _ q]
            · have : i = L := by omega
              subst this
              rw [hld_upd]
          have vlo : L < lv ns2 lo := lv_ge M2.wf (L := L + 1) (by omega) (by omega) (fun e i b hi => by rw [elo2, elo2]; exact free' false e i b hi)
          have vhi : L < lv ns2 hi := lv_ge M2.wf (L := L + 1) hhi (by omega) (fun e i b hi => by rw [ehi2, ehi2]; exact free' true e i b hi)
          have heq : ∀ e, ev ns (hld e bit on) f = if e L then ev ns2 e hi else ev ns2 e lo := fun e => by
            rw [elo2, ehi2]
            have := hld_self e L
            split
            · rename_i q; rw [q] at this; rw [this]
            · rename_i q; rw [Bool.not_eq_true] at q; rw [q] at this; rw [this]
          obtain ⟨nw, nx, nr, nf, nset, nold, nlen, nb⟩ := num_made (most := most) M2.wf (n := ⟨L, lo, hi⟩) (by show lo < _; omega) hhi vlo vhi (φ := fun e => ev ns (hld e bit on) f) heq
          obtain ⟨r3, ns3, e3⟩ : ∃ r3 ns3, numF most ns2 ⟨L, lo, hi⟩ = (r3, ns3) := ⟨_, _, rfl⟩
          rw [e3] at nw nx nr nf nset nold nlen nb
          simp only at nw nx nr nf nset nold nlen nb
          have old3 : (∃ q, q < ns.length ∧ ∀ e, ev ns e q = ev ns (hld e bit on) f) → ns3 = ns ∧ r3 ≠ none := fun hq0 => by
            obtain ⟨a, -⟩ := old2 hq0
            obtain ⟨q, hq, he⟩ := hq0
            obtain ⟨b, c⟩ := nold ⟨q, by rw [a]; exact hq, fun e => by rw [a]; exact he e⟩
            exact ⟨b.trans a, c⟩
          have few3 : ∀ B, Bits B ns → Bits B ns3 ∧ ns3.length + 1 ≤ ns.length + 2 ^ cB B L := fun B hB => by
            obtain ⟨a, b⟩ := few2 B hB
            exact ⟨nb B a (hBL B hB), by omega⟩
          cases r3 with
          | none =>
            have e : setF bit on most (k + 1) ns m f = (none, ns3, m2) := by unfold setF; rw [if_neg c1, if_neg c2, hl]; simp only; rw [hgl, e1]; simp only; rw [hgh, e2]; simp only; rw [hL, e3]
            rw [e, hL]
            refine ⟨⟨nw, hx12.trans nx, by show ns3.length ≤ _; omega, fun q => (nf q).1, fun q hq => (by cases hq), old3, few3⟩, V2.ext nx M2.wf nw, fun p hp => ?_⟩
            rcases new2 p hp with q | q
            · exact Or.inl q
            · obtain ⟨a, -⟩ := V2.ok p hp
              exact Or.inr (by show _ ≤ lv ns3 _; rw [nx.lv a]; omega)
          | some r =>
            have e : setF bit on most (k + 1) ns m f = (some r, ns3, (f, r) :: m2) := by unfold setF; rw [if_neg c1, if_neg c2, hl]; simp only; rw [hgl, e1]; simp only; rw [hgh, e2]; simp only; rw [hL, e3]
            rw [e, hL]
            obtain ⟨s1, s2⟩ := nset r rfl
            have hx3 := hx12.trans nx
            have hl3 := hx3.len
            have W3 := V2.ext nx M2.wf nw
            refine ⟨⟨nw, hx3, by show ns3.length ≤ _; omega, fun q => (by cases q), fun q hq => (by cases hq; exact ⟨s1, s2⟩), old3, few3⟩, ⟨fun p hp => ?_, ?_⟩, fun p hp => ?_⟩
            · rcases List.mem_cons.1 hp with rfl | hp
              · exact ⟨by show f < ns3.length; omega, s1, fun e => by rw [s2, hx3.ev h nw _ _ hf]⟩
              · exact W3.ok p hp
            · exact List.nodup_cons.2 ⟨hnot, W3.one⟩
            · rcases List.mem_cons.1 hp with rfl | hp
              · exact Or.inr (by show _ ≤ lv ns3 f; rw [hx3.lv hf]; omega)
              · rcases new2 p hp with q | q
                · exact Or.inl q
                · obtain ⟨a, -⟩ := V2.ok p hp
                  exact Or.inr (by show _ ≤ lv ns3 _; rw [nx.lv a]; omega)
/-- The headers that have some bits so. -/
def cubeF (most : Nat) (ns : List Nd) : List (Nat × Bool) → Option Nat × List Nd
  | [] => (some 1, ns)
  | p :: r =>
    match cubeF most ns r with
    | (none, ns1) => (none, ns1)
    | (some f, ns1) => numF most ns1 (if p.2 then ⟨p.1, 0, f⟩ else ⟨p.1, f, 0⟩)
def allB (l : List (Nat × Bool)) (e : Nat → Bool) : Bool := l.all fun p => e p.1 == p.2
theorem cubeF_made (most : Nat) {ns : List Nd} (h : WF ns) : ∀ (l : List (Nat × Bool)), l.Pairwise (fun a b => a.1 < b.1) → (∀ p ∈ l, p.1 < 104) →
    WF (cubeF most ns l).2 ∧ Ext ns (cubeF most ns l).2 ∧ (cubeF most ns l).2.length ≤ max most ns.length ∧ ((cubeF most ns l).1 = none → most ≤ (cubeF most ns l).2.length) ∧
    (∀ q, (cubeF most ns l).1 = some q → q < (cubeF most ns l).2.length ∧ q ≠ 0 ∧ ∀ e, ev (cubeF most ns l).2 e q = allB l e) ∧ ((∃ q, q < ns.length ∧ ∀ e, ev ns e q = allB l e) → (cubeF most ns l).2 = ns ∧ (cubeF most ns l).1 ≠ none) ∧
    (cubeF most ns l).2.length ≤ ns.length + l.length ∧ ∀ B, Bits B ns → (∀ p ∈ l, B p.1 = true) → Bits B (cubeF most ns l).2
  | [], _, _ => by
    have := h.len
    exact ⟨h, Ext.refl _, by show ns.length ≤ _; omega, fun q => (by cases q), fun q hq => (by cases hq; exact ⟨by show 1 < ns.length; omega, by decide, fun e => rfl⟩), fun _ => ⟨rfl, by simp [cubeF]⟩, Nat.le_refl _, fun B hB _ => hB⟩
  | p :: r, hr, h104 => by
    obtain ⟨hr1, hr2⟩ := List.pairwise_cons.1 hr
    have I := cubeF_made most h r hr2 (fun q hq => h104 q (List.mem_cons_of_mem _ hq))
    obtain ⟨r1, ns1, e1⟩ : ∃ r1 ns1, cubeF most ns r = (r1, ns1) := ⟨_, _, rfl⟩
    rw [e1] at I
    obtain ⟨w1, x1, room1, full1, set1, old1, len1, bits1⟩ := I
    simp only at w1 x1 room1 full1 set1 old1 len1 bits1
    have hp104 : p.1 < 104 := h104 p (List.mem_cons_self ..)
    have hfr : ∀ e i b, i ≤ p.1 → allB r (hld e i b) = allB r e := fun e i b hi => by
      unfold allB
      rw [Bool.eq_iff_iff, List.all_eq_true, List.all_eq_true]
      exact forall_congr' fun q => forall_congr' fun hq => by rw [hld_ne e b (by have := hr1 q hq; omega)]
    have hfree : ∀ e i b, i < p.1 → allB (p :: r) (hld e i b) = allB (p :: r) e := fun e i b hi => by
      have := hfr e i b (by omega)
      unfold allB at this ⊢
      rw [List.all_cons, List.all_cons, this, hld_ne e b (by omega)]
    have oldr : (∃ q, q < ns.length ∧ ∀ e, ev ns e q = allB (p :: r) e) → ns1 = ns ∧ r1 ≠ none := fun ⟨q, hq, he⟩ => by
      obtain ⟨z, hz1, hz2⟩ := cof h hq hp104 he hfree p.2
      refine old1 ⟨z, hz1, fun e => ?_⟩
      rw [hz2]
      have := hfr e p.1 p.2 (Nat.le_refl _)
      unfold allB at this ⊢
      rw [List.all_cons, this, hld_same]
      simp
    cases r1 with
    | none =>
      have e : cubeF most ns (p :: r) = (none, ns1) := by unfold cubeF; rw [e1]
      rw [e]
      exact ⟨w1, x1, room1, full1, fun q hq => (by cases hq), fun q => absurd rfl (oldr q).2, by simp only [List.length_cons]; omega, fun B hB hb => bits1 B hB (fun q hq => hb q (List.mem_cons_of_mem _ hq))⟩
    | some f =>
      obtain ⟨hf, hf0, ef⟩ := set1 f rfl
      have hlen := w1.len
      have vf : p.1 < lv ns1 f := lv_ge w1 (L := p.1 + 1) hf (by omega) (fun e i b hi => by rw [ef, ef]; exact hfr e i b (by omega))
      have v0 : p.1 < lv ns1 0 := by rw [lv_end w1 (by omega)]; exact hp104
      obtain ⟨n, hn⟩ : ∃ n, (if p.2 then (⟨p.1, 0, f⟩ : Nd) else ⟨p.1, f, 0⟩) = n := ⟨_, rfl⟩
      have e : cubeF most ns (p :: r) = numF most ns1 n := by rw [← hn]; conv => lhs; unfold cubeF
                                                              rw [e1]
      have hnv : n.v = p.1 := by rw [← hn]; split <;> rfl
      have hnl : n.l < ns1.length ∧ n.h < ns1.length ∧ n.v < lv ns1 n.l ∧ n.v < lv ns1 n.h := by
        rw [← hn]
        split
        · exact ⟨by show 0 < _; omega, hf, v0, vf⟩
        · exact ⟨hf, by show 0 < _; omega, vf, v0⟩
      have heq : ∀ e, allB (p :: r) e = if e n.v then ev ns1 e n.h else ev ns1 e n.l := fun e => by
        rw [hnv, ← hn]
        have er := ef e
        unfold allB at er ⊢
        rw [List.all_cons]
        cases hp2 : p.2 <;> cases he : e p.1 <;> simp [er, ev_zero]
      obtain ⟨nw, nx, nr, nf, nset, nold, nlen, nb⟩ := num_made (most := most) w1 hnl.1 hnl.2.1 hnl.2.2.1 hnl.2.2.2 (φ := allB (p :: r)) heq
      rw [e]
      refine ⟨nw, x1.trans nx, by omega, fun q => (nf q).1, fun q hq => ?_, fun q0 => ?_, by simp only [List.length_cons]; omega, fun B hB hb => nb B (bits1 B hB (fun q hq => hb q (List.mem_cons_of_mem _ hq))) (by rw [hnv]; exact hb p (List.mem_cons_self ..))⟩
      · obtain ⟨a, b⟩ := nset q hq
        refine ⟨a, fun q0 => ?_, b⟩
        subst q0
        have hbad := b (fun i => ((p :: r).find? (fun z => z.1 == i)).elim false (·.2))
        rw [ev_zero] at hbad
        have hgood : allB (p :: r) (fun i => ((p :: r).find? (fun z => z.1 == i)).elim false (·.2)) = true := by
          unfold allB
          rw [List.all_eq_true]
          intro z hz
          show (((p :: r).find? (fun y => y.1 == z.1)).elim false (·.2) == z.2) = true
          cases hfi : (p :: r).find? (fun y => y.1 == z.1) with
          | none => have := List.find?_eq_none.1 hfi z hz; simp at this
          | some y =>
            have h1 := List.mem_of_find?_eq_some hfi
            have h2 := List.find?_some hfi
            simp at h2
            have : y = z := by
              rcases List.mem_iff_getElem.1 h1 with ⟨i, hi, rfl⟩
              rcases List.mem_iff_getElem.1 hz with ⟨j, hj, rfl⟩
              rcases Nat.lt_trichotomy i j with c | c | c
              · have := List.pairwise_iff_getElem.1 hr i j hi hj c; omega
              · subst c; rfl
              · have := List.pairwise_iff_getElem.1 hr j i hj hi c; omega
            subst this
            simp
        rw [hgood] at hbad; cases hbad
      · obtain ⟨a, -⟩ := oldr q0
        obtain ⟨q, hq, he⟩ := q0
        obtain ⟨b, c⟩ := nold ⟨q, by rw [a]; exact hq, fun e => by rw [a]; exact he e⟩
        exact ⟨b.trans a, c⟩
end Go.Proofs.Ytioanjpeddipmac
