/- Texts joined, in their order: BH, BL, P1, P2. -/
import Derived.Test.YtggcbklififcgabG6d25d1a07d
/- Calls on arenas as functions of lists: whole or not at all; sets made of each other, one behind the other. No program in sight. -/
namespace Go.Proofs.Ytggcbklififcgab
set_option linter.unusedVariables false

abbrev Env := Nat → Bool
/-- A set that there is. -/
def Is (ns : List Nd) (φ : Env → Bool) : Prop := ∃ q, q < ns.length ∧ ∀ e, ev ns e q = φ e
theorem Is.ext {ns ns' : List Nd} {φ : Env → Bool} (h : Is ns φ) (hx : Ext ns ns') (hw : WF ns) (hw' : WF ns') : Is ns' φ := by
  obtain ⟨q, hq, he⟩ := h
  exact ⟨q, by have := hx.len; omega, fun e => by rw [hx.ev hw hw' e q hq, he]⟩
/-- What a call that makes the set φ leaves; Φ: all sets that it makes on its way; bd: how many nodes at most. -/
structure Got (most : Nat) (ns ns' : List Nd) (φ : Env → Bool) (r : Option Nat) (Φ : List (Env → Bool)) (D : (Nat → Bool) → Prop) (bd : (Nat → Bool) → Nat) : Prop where
  wf : WF ns'
  ext : Ext ns ns'
  room : ns'.length ≤ max most ns.length
  nil : r = none → ns' = ns
  set : ∀ q, r = some q → q < ns'.length ∧ ∀ e, ev ns' e q = φ e
  made : r ≠ none → ∀ ψ ∈ Φ, Is ns' ψ
  old : (∀ ψ ∈ Φ, Is ns ψ) → ns' = ns ∧ r ≠ none
  few : ∀ B, Bits B ns → D B → Bits B ns' ∧ ns'.length ≤ ns.length + bd B ∧ (r = none → most ≤ ns.length + bd B)
/-- Whole or not at all. -/
def wholeF (ns : List Nd) (R : Option Nat × List Nd) : Option Nat × List Nd := (R.1, if R.1 = none then ns else R.2)
def pw (B : Nat → Bool) : Nat := 2 ^ cB B 0
theorem pw_le {B : Nat → Bool} (L : Nat) : 2 ^ cB B L ≤ pw B := Nat.pow_le_pow_right (by omega) (cB_mono (Nat.zero_le _))
theorem pw_pos (B : Nat → Bool) : 1 ≤ pw B := Nat.two_pow_pos _
theorem got_made {most : Nat} {ns : List Nd} (hw : WF ns) {φ : Env → Bool} {R : Option Nat × List Nd} {L : Nat} (h : Made most ns R.2 φ R.1 L) :
    Got most ns (wholeF ns R).2 φ (wholeF ns R).1 [φ] (fun _ => True) pw := by
  obtain ⟨r, ns'⟩ := R
  simp only at h
  cases r with
  | none =>
    refine ⟨hw, Ext.refl _, ?_, fun _ => rfl, fun q hq => (by cases hq), fun q => absurd rfl q, fun q => ?_, fun B hB _ => ⟨hB, ?_, fun _ => ?_⟩⟩
    · show ns.length ≤ _; omega
    · exact absurd rfl (h.old (q φ (List.mem_singleton.2 rfl))).2
    · show ns.length ≤ _; omega
    · have a := h.full rfl
      have b := (h.few B hB).2
      have c := pw_le (B := B) L
      omega
  | some q =>
    refine ⟨h.wf, h.ext, h.room, fun e => (by cases e), h.set, fun _ ψ hψ => ?_, fun q0 => h.old (q0 φ (List.mem_singleton.2 rfl)), fun B hB _ => ⟨(h.few B hB).1, ?_, fun e => (by cases e)⟩⟩
    · rw [List.mem_singleton.1 hψ]; exact ⟨q, h.set q rfl⟩
    · have b := (h.few B hB).2
      have c := pw_le (B := B) L
      show ns'.length ≤ _
      omega
/-- Two sets joined. -/
def joinF (kind most : Nat) (ns : List Nd) (f g : Nat) : Option Nat × List Nd := ((pairF kind most 105 ns [] f g).1, (pairF kind most 105 ns [] f g).2.1)
theorem joinF_made (kind most : Nat) {ns : List Nd} {f g : Nat} (h : WF ns) (hf : f < ns.length) (hg : g < ns.length) :
    Made most ns (joinF kind most ns f g).2 (fun e => opB kind (ev ns e f) (ev ns e g)) (joinF kind most ns f g).1 (min (lv ns f) (lv ns g)) :=
  (pairF_made kind most 105 ns [] f g h ⟨fun p hp => (by cases hp), List.nodup_nil⟩ hf hg (by omega)).1
def jF (kind most : Nat) (ns : List Nd) (f g : Nat) : Option Nat × List Nd := wholeF ns (joinF kind most ns f g)
theorem got_join (kind most : Nat) {ns : List Nd} {f g : Nat} (h : WF ns) (hf : f < ns.length) (hg : g < ns.length) :
    Got most ns (jF kind most ns f g).2 (fun e => opB kind (ev ns e f) (ev ns e g)) (jF kind most ns f g).1 [fun e => opB kind (ev ns e f) (ev ns e g)] (fun _ => True) pw :=
  got_made h (joinF_made kind most h hf hg)
/-- A bit held. -/
def heldF (bit : Nat) (on : Bool) (most : Nat) (ns : List Nd) (f : Nat) : Option Nat × List Nd := ((setF bit on most 105 ns [] f).1, (setF bit on most 105 ns [] f).2.1)
def rF (bit : Nat) (on : Bool) (most : Nat) (ns : List Nd) (f : Nat) : Option Nat × List Nd := wholeF ns (heldF bit on most ns f)
theorem got_held (bit : Nat) (on : Bool) (most : Nat) (hbit : bit < 104) {ns : List Nd} {f : Nat} (h : WF ns) (hf : f < ns.length) :
    Got most ns (rF bit on most ns f).2 (fun e => ev ns (hld e bit on) f) (rF bit on most ns f).1 [fun e => ev ns (hld e bit on) f] (fun _ => True) pw :=
  got_made h (setF_made bit on most hbit 105 ns [] f h ⟨fun p hp => (by cases hp), List.nodup_nil⟩ hf (by omega)).1
/-- Some bits so. -/
def cF (most : Nat) (ns : List Nd) (l : List (Nat × Bool)) : Option Nat × List Nd := wholeF ns (cubeF most ns l)
theorem got_cube (most : Nat) {ns : List Nd} (h : WF ns) (l : List (Nat × Bool)) (hr : l.Pairwise (fun a b => a.1 < b.1)) (h104 : ∀ p ∈ l, p.1 < 104) :
    Got most ns (cF most ns l).2 (allB l) (cF most ns l).1 [allB l] (fun B => ∀ p ∈ l, B p.1 = true) (fun _ => l.length) := by
  have H := cubeF_made most h l hr h104
  unfold cF
  obtain ⟨r, ns', e⟩ : ∃ r ns', cubeF most ns l = (r, ns') := ⟨_, _, rfl⟩
  rw [e] at H ⊢
  obtain ⟨w, x, room, full, set, old, len, bits⟩ := H
  simp only at w x room full set old len bits
  cases r with
  | none =>
    refine ⟨h, Ext.refl _, ?_, fun _ => rfl, fun q hq => (by cases hq), fun q => absurd rfl q, fun q => ?_, fun B hB _ => ⟨hB, ?_, fun _ => ?_⟩⟩
    · show ns.length ≤ _; omega
    · exact absurd rfl (old (q _ (List.mem_singleton.2 rfl))).2
    · show ns.length ≤ _; omega
    · have a := full rfl; omega
  | some q =>
    refine ⟨w, x, room, fun e => (by cases e), fun p hp => ⟨(set p hp).1, (set p hp).2.2⟩, fun _ ψ hψ => ?_, fun q0 => old (q0 _ (List.mem_singleton.2 rfl)), fun B hB hD => ⟨bits B hB hD, len, fun e => (by cases e)⟩⟩
    rw [List.mem_singleton.1 hψ]; exact ⟨q, (set q rfl).1, (set q rfl).2.2⟩
/-- Three joins, one behind the other. -/
def iteR (most : Nat) (ns : List Nd) (f g h : Nat) : Option Nat × List Nd :=
  match joinF 0 most ns f g with
  | (none, ns1) => (none, ns1)
  | (some x, ns1) =>
    match joinF 3 most ns1 h f with
    | (none, ns2) => (none, ns2)
    | (some y, ns2) => joinF 1 most ns2 x y
def iF (most : Nat) (ns : List Nd) (f g h : Nat) : Option Nat × List Nd := wholeF ns (iteR most ns f g h)
def iteB (a b c : Bool) : Bool := a && b || c && !a
theorem got_ite (most : Nat) {ns : List Nd} {f g h : Nat} (hw : WF ns) (hf : f < ns.length) (hg : g < ns.length) (hh : h < ns.length) :
    Got most ns (iF most ns f g h).2 (fun e => iteB (ev ns e f) (ev ns e g) (ev ns e h)) (iF most ns f g h).1
      [fun e => ev ns e f && ev ns e g, fun e => ev ns e h && !ev ns e f, fun e => iteB (ev ns e f) (ev ns e g) (ev ns e h)] (fun _ => True) (fun B => 3 * pw B) ∧
    WF (iteR most ns f g h).2 ∧ Ext ns (iteR most ns f g h).2 := by
  have o0 : ∀ a b, opB 0 a b = (a && b) := fun _ _ => rfl
  have o1 : ∀ a b, opB 1 a b = (a || b) := fun _ _ => rfl
  have o3 : ∀ a b, opB 3 a b = (a && !b) := fun _ _ => rfl
  have M1 := joinF_made 0 most hw hf hg
  obtain ⟨r1, ns1, e1⟩ : ∃ r ns', joinF 0 most ns f g = (r, ns') := ⟨_, _, rfl⟩
  rw [e1] at M1
  simp only at M1
  have few1 : ∀ B, Bits B ns → Bits B ns1 ∧ ns1.length ≤ ns.length + pw B := fun B hB => by
    obtain ⟨a, b⟩ := M1.few B hB
    have c := pw_le (B := B) (min (lv ns f) (lv ns g))
    exact ⟨a, by omega⟩
  cases r1 with
  | none =>
    have e : iteR most ns f g h = (none, ns1) := by unfold iteR; rw [e1]
    unfold iF
    rw [e]
    refine ⟨⟨hw, Ext.refl _, ?_, fun _ => rfl, fun q hq => (by cases hq), fun q => absurd rfl q, fun q => ?_, fun B hB _ => ⟨hB, ?_, fun _ => ?_⟩⟩, M1.wf, M1.ext⟩
    · show ns.length ≤ _; omega
    · exact absurd rfl (M1.old (q (fun e => ev ns e f && ev ns e g) (List.mem_cons_self ..))).2
    · show ns.length ≤ _; omega
    · have a := M1.full rfl
      have b := (few1 B hB).2
      have := pw_pos B
      omega
  | some x =>
    obtain ⟨hx, ex⟩ := M1.set x rfl
    have l1 := M1.ext.len
    have M2 := joinF_made 3 most (ns := ns1) (f := h) (g := f) M1.wf (by omega) (by omega)
    obtain ⟨r2, ns2, e2⟩ : ∃ r ns', joinF 3 most ns1 h f = (r, ns') := ⟨_, _, rfl⟩
    rw [e2] at M2
    simp only at M2
    have few2 : ∀ B, Bits B ns → Bits B ns2 ∧ ns2.length ≤ ns.length + 2 * pw B := fun B hB => by
      obtain ⟨a0, b0⟩ := few1 B hB
      obtain ⟨a, b⟩ := M2.few B a0
      have c := pw_le (B := B) (min (lv ns1 h) (lv ns1 f))
      exact ⟨a, by omega⟩
    have s2 : ∀ e, opB 3 (ev ns1 e h) (ev ns1 e f) = (ev ns e h && !ev ns e f) := fun e => by
      rw [M1.ext.ev hw M1.wf e _ hh, M1.ext.ev hw M1.wf e _ hf, o3]
    have old2 : (∀ ψ ∈ [fun e => ev ns e f && ev ns e g, fun e => ev ns e h && !ev ns e f, fun e => iteB (ev ns e f) (ev ns e g) (ev ns e h)], Is ns ψ) → ns2 = ns ∧ r2 ≠ none := fun q => by
      obtain ⟨a, -⟩ := M1.old (q (fun e => ev ns e f && ev ns e g) (List.mem_cons_self ..))
      obtain ⟨b, c⟩ := M2.old (by
        obtain ⟨z, hz, ez⟩ := q (fun e => ev ns e h && !ev ns e f) (by simp)
        exact ⟨z, by rw [a]; exact hz, fun e => (by have := ez e; rw [s2, a]; exact this)⟩)
      exact ⟨b.trans a, c⟩
    cases r2 with
    | none =>
      have e : iteR most ns f g h = (none, ns2) := by unfold iteR; rw [e1]; simp only; rw [e2]
      unfold iF
      rw [e]
      refine ⟨⟨hw, Ext.refl _, ?_, fun _ => rfl, fun q hq => (by cases hq), fun q => absurd rfl q, fun q => ?_, fun B hB _ => ⟨hB, ?_, fun _ => ?_⟩⟩, M2.wf, M1.ext.trans M2.ext⟩
      · show ns.length ≤ _; omega
      · exact absurd rfl (old2 q).2
      · show ns.length ≤ _; omega
      · have a := M2.full rfl
        have b := (few2 B hB).2
        have := pw_pos B
        omega
    | some y =>
      obtain ⟨hy, ey⟩ := M2.set y rfl
      have l2 := M2.ext.len
      have M3 := joinF_made 1 most (ns := ns2) (f := x) (g := y) M2.wf (by omega) hy
      obtain ⟨r3, ns3, e3⟩ : ∃ r ns', joinF 1 most ns2 x y = (r, ns') := ⟨_, _, rfl⟩
      rw [e3] at M3
      simp only at M3
      have few3 : ∀ B, Bits B ns → Bits B ns3 ∧ ns3.length ≤ ns.length + 3 * pw B := fun B hB => by
        obtain ⟨a0, b0⟩ := few2 B hB
        obtain ⟨a, b⟩ := M3.few B a0
        have c := pw_le (B := B) (min (lv ns2 x) (lv ns2 y))
        exact ⟨a, by omega⟩
      have x2 : ∀ e, ev ns2 e x = (ev ns e f && ev ns e g) := fun e => by rw [M2.ext.ev M1.wf M2.wf e _ hx, ex, o0]
      have y2 : ∀ e, ev ns2 e y = (ev ns e h && !ev ns e f) := fun e => by rw [ey, s2]
      have s3 : ∀ e, opB 1 (ev ns2 e x) (ev ns2 e y) = iteB (ev ns e f) (ev ns e g) (ev ns e h) := fun e => by
        rw [x2, y2, o1]; rfl
      have old3 : (∀ ψ ∈ [fun e => ev ns e f && ev ns e g, fun e => ev ns e h && !ev ns e f, fun e => iteB (ev ns e f) (ev ns e g) (ev ns e h)], Is ns ψ) → ns3 = ns ∧ r3 ≠ none := fun q => by
        obtain ⟨a, -⟩ := old2 q
        obtain ⟨b, c⟩ := M3.old (by
          obtain ⟨z, hz, ez⟩ := q (fun e => iteB (ev ns e f) (ev ns e g) (ev ns e h)) (by simp)
          exact ⟨z, by rw [a]; exact hz, fun e => (by have := ez e; rw [s3, a]; exact this)⟩)
        exact ⟨b.trans a, c⟩
      have e : iteR most ns f g h = (r3, ns3) := by unfold iteR; rw [e1]; simp only; rw [e2]; simp only; rw [e3]
      have room1 := M1.room
      have room2 := M2.room
      have room3 := M3.room
      unfold iF
      rw [e]
      have hx3 := (M1.ext.trans M2.ext).trans M3.ext
      cases r3 with
      | none =>
        refine ⟨⟨hw, Ext.refl _, ?_, fun _ => rfl, fun q hq => (by cases hq), fun q => absurd rfl q, fun q => ?_, fun B hB _ => ⟨hB, ?_, fun _ => ?_⟩⟩, M3.wf, hx3⟩
        · show ns.length ≤ _; omega
        · exact absurd rfl (old3 q).2
        · show ns.length ≤ _; omega
        · have a := M3.full rfl
          have b := (few3 B hB).2
          omega
      | some z =>
        obtain ⟨hz, ez⟩ := M3.set z rfl
        have l3 := M3.ext.len
        refine ⟨⟨M3.wf, hx3, ?_, fun q => (by cases q), fun q hq => ?_, fun _ ψ hψ => ?_, old3, fun B hB _ => ⟨(few3 B hB).1, (few3 B hB).2, fun q => (by cases q)⟩⟩, M3.wf, hx3⟩
        · show ns3.length ≤ _; omega
        · cases hq; exact ⟨hz, fun e => by rw [← s3]; exact ez e⟩
        · show Is ns3 ψ
          simp only [List.mem_cons, List.not_mem_nil, or_false] at hψ
          rcases hψ with rfl | rfl | rfl
          · exact ⟨x, by omega, fun e => by rw [M3.ext.ev M2.wf M3.wf e _ (by omega), x2]⟩
          · exact ⟨y, by omega, fun e => by rw [M3.ext.ev M2.wf M3.wf e _ hy, y2]⟩
          · exact ⟨z, hz, fun e => (by have := ez e; rw [s3] at this; exact this)⟩
/-- How a set is made of ones ahead. -/
structure Ex where
  k : Int
  a : Int
  b : Int
  c : Int
  v : Int
  on : Bool
/-- May it be, as the i-th. -/
def Ex.Ok (x : Ex) (i : Nat) : Prop := 0 ≤ x.k ∧ x.k ≤ 9 ∧ (3 ≤ x.k → 0 ≤ x.a ∧ x.a < i ∧ 0 ≤ x.b ∧ x.b < i ∧ 0 ≤ x.c ∧ x.c < i) ∧ 0 ≤ x.v ∧ x.v < 104
def stepF (most : Nat) (ns : List Nd) (o : List Nat) (x : Ex) : Option Nat × List Nd :=
  if x.k = 1 then (some 1, ns) else
  if x.k = 2 then cF most ns [(x.v.toNat, x.on)] else
  if 3 ≤ x.k ∧ x.k ≤ 6 then jF (x.k - 3).toNat most ns (o.getD x.a.toNat 0) (o.getD x.b.toNat 0) else
  if x.k = 7 then jF 3 most ns 1 (o.getD x.a.toNat 0) else
  if x.k = 8 then rF x.v.toNat x.on most ns (o.getD x.a.toNat 0) else
  if x.k = 9 then iF most ns (o.getD x.a.toNat 0) (o.getD x.b.toNat 0) (o.getD x.c.toNat 0) else (some 0, ns)
abbrev Sem := List (Env → Bool)
def nth (s : Sem) (i : Int) : Env → Bool := s.getD i.toNat (fun _ => false)
/-- Which headers it has. -/
def semE (s : Sem) (x : Ex) : Env → Bool :=
  if x.k = 1 then fun _ => true else
  if x.k = 2 then fun e => e x.v.toNat == x.on else
  if 3 ≤ x.k ∧ x.k ≤ 6 then fun e => opB (x.k - 3).toNat (nth s x.a e) (nth s x.b e) else
  if x.k = 7 then fun e => !nth s x.a e else
  if x.k = 8 then fun e => nth s x.a (hld e x.v.toNat x.on) else
  if x.k = 9 then fun e => iteB (nth s x.a e) (nth s x.b e) (nth s x.c e) else fun _ => false
/-- All sets that are made on the way. -/
def wayE (s : Sem) (x : Ex) : List (Env → Bool) :=
  if x.k = 9 then [fun e => nth s x.a e && nth s x.b e, fun e => nth s x.c e && !nth s x.a e, semE s x] else [semE s x]
/-- The sets that were made stand for these. -/
structure Stand (ns : List Nd) (o : List Nat) (s : Sem) : Prop where
  len : o.length = s.length
  at' : ∀ i, i < s.length → o.getD i 0 < ns.length ∧ ∀ e, ev ns e (o.getD i 0) = s.getD i (fun _ => false) e
theorem Stand.ext {ns ns' : List Nd} {o : List Nat} {s : Sem} (h : Stand ns o s) (hx : Ext ns ns') (hw : WF ns) (hw' : WF ns') : Stand ns' o s :=
  ⟨h.len, fun i hi => by
    obtain ⟨a, b⟩ := h.at' i hi
    exact ⟨by have := hx.len; omega, fun e => by rw [hx.ev hw hw' e _ a, b]⟩⟩
theorem Stand.nil (ns : List Nd) : Stand ns [] [] := ⟨rfl, fun i hi => by simp at hi⟩
theorem Stand.push {ns : List Nd} {o : List Nat} {s : Sem} (h : Stand ns o s) {q : Nat} {φ : Env → Bool} (hq : q < ns.length) (he : ∀ e, ev ns e q = φ e) : Stand ns (o ++ [q]) (s ++ [φ]) := by
  refine ⟨by simp [h.len], fun i hi => ?_⟩
  rcases Nat.lt_or_ge i s.length with r | r
  · have e1 : (o ++ [q]).getD i 0 = o.getD i 0 := by rw [List.getD_eq_getElem?_getD, List.getD_eq_getElem?_getD, List.getElem?_append_left (by rw [h.len]; exact r)]
    have e2 : (s ++ [φ]).getD i (fun _ => false) = s.getD i (fun _ => false) := by rw [List.getD_eq_getElem?_getD, List.getD_eq_getElem?_getD, List.getElem?_append_left r]
    rw [e1, e2]; exact h.at' i r
  · have hi' : i = s.length := by simp at hi; omega
    subst hi'
    have e1 : (o ++ [q]).getD s.length 0 = q := by rw [List.getD_eq_getElem?_getD, ← h.len, List.getElem?_append_right (Nat.le_refl _)]; simp
    have e2 : (s ++ [φ]).getD s.length (fun _ => false) = φ := by rw [List.getD_eq_getElem?_getD, List.getElem?_append_right (Nat.le_refl _)]; simp
    rw [e1, e2]; exact ⟨hq, he⟩
theorem Got.id {most : Nat} {ns : List Nd} (h : WF ns) {φ : Env → Bool} {q : Nat} {D : (Nat → Bool) → Prop} {bd : (Nat → Bool) → Nat} (hq : q < ns.length) (he : ∀ e, ev ns e q = φ e) : Got most ns ns φ (some q) [φ] D bd :=
  ⟨h, Ext.refl _, (by omega), fun e => (by cases e), fun p hp => (by cases hp; exact ⟨hq, he⟩), fun _ ψ hψ => (by rw [List.mem_singleton.1 hψ]; exact ⟨q, hq, he⟩), fun _ => ⟨rfl, (by simp)⟩, fun B hB _ => ⟨hB, (by omega), fun e => (by cases e)⟩⟩
theorem Got.mono {most : Nat} {ns ns' : List Nd} {φ : Env → Bool} {r : Option Nat} {Φ : List (Env → Bool)} {D D' : (Nat → Bool) → Prop} {bd bd' : (Nat → Bool) → Nat} (h : Got most ns ns' φ r Φ D bd) (hD : ∀ B, D' B → D B) (hb : ∀ B, bd B ≤ bd' B) : Got most ns ns' φ r Φ D' bd' :=
  ⟨h.wf, h.ext, h.room, h.nil, h.set, h.made, h.old, fun B hB hd => by
    obtain ⟨a, b, c⟩ := h.few B hB (hD B hd)
    have := hb B
    exact ⟨a, by omega, fun e => by have := c e; omega⟩⟩
theorem Got.cast {most : Nat} {ns ns' : List Nd} {φ φ' : Env → Bool} {r : Option Nat} {Φ Φ' : List (Env → Bool)} {D : (Nat → Bool) → Prop} {bd : (Nat → Bool) → Nat} (h : Got most ns ns' φ r Φ D bd) (e : φ = φ') (e' : Φ = Φ') : Got most ns ns' φ' r Φ' D bd := by
  subst e; subst e'; exact h
/-- What one expression leaves. -/
theorem step_got {most : Nat} {ns : List Nd} {o : List Nat} {s : Sem} (h : WF ns) (hs : Stand ns o s) {x : Ex} (hx : x.Ok s.length) :
    Got most ns (stepF most ns o x).2 (semE s x) (stepF most ns o x).1 (wayE s x) (fun B => x.k = 2 → B x.v.toNat = true) (fun B => 3 * pw B) := by
  obtain ⟨k0, k9, hk, v0, v1⟩ := hx
  have h2 := h.len
  have at_ : ∀ i : Int, 0 ≤ i → i < s.length → o.getD i.toNat 0 < ns.length ∧ (fun e => ev ns e (o.getD i.toNat 0)) = nth s i := fun i h0 h1 => by
    obtain ⟨p, q⟩ := hs.at' i.toNat (by omega)
    exact ⟨p, funext q⟩
  have pp : ∀ B, pw B ≤ 3 * pw B := fun B => by omega
  unfold stepF semE wayE
  by_cases c1 : x.k = 1
  · have : ¬ x.k = 9 := by omega
    unfold semE
    simp only [if_pos c1, if_neg this]
    exact Got.id h (by omega) (fun e => rfl)
  by_cases c2 : x.k = 2
  · have n9 : ¬ x.k = 9 := by omega
    unfold semE
    simp only [if_neg c1, if_pos c2, if_neg n9]
    have G := got_cube most h [(x.v.toNat, x.on)] (by simp) (fun p hp => by rw [List.mem_singleton.1 hp]; show x.v.toNat < 104; omega)
    have ea : allB [(x.v.toNat, x.on)] = fun e => e x.v.toNat == x.on := by funext e; simp [allB]
    refine (G.mono (fun B hB p hp => ?_) (fun B => ?_)).cast ea (by rw [ea])
    · rw [List.mem_singleton.1 hp]; exact hB c2
    · have := pw_pos B; show 1 ≤ _; omega
  by_cases c3 : 3 ≤ x.k ∧ x.k ≤ 6
  · have n9 : ¬ x.k = 9 := by omega
    obtain ⟨a0, a1, b0, b1, -⟩ := hk c3.1
    unfold semE
    simp only [if_neg c1, if_neg c2, if_pos c3, if_neg n9]
    obtain ⟨p, p'⟩ := at_ x.a a0 a1
    obtain ⟨q, q'⟩ := at_ x.b b0 b1
    have ea : (fun e => opB (x.k - 3).toNat (ev ns e (o.getD x.a.toNat 0)) (ev ns e (o.getD x.b.toNat 0))) = fun e => opB (x.k - 3).toNat (nth s x.a e) (nth s x.b e) := by
      funext e; rw [← congrFun p' e, ← congrFun q' e]
    exact ((got_join (x.k - 3).toNat most h p q).mono (fun _ _ => trivial) pp).cast ea (by rw [ea])
  by_cases c7 : x.k = 7
  · have n9 : ¬ x.k = 9 := by omega
    obtain ⟨a0, a1, -⟩ := hk (by omega)
    unfold semE
    simp only [if_neg c1, if_neg c2, if_neg c3, if_pos c7, if_neg n9]
    obtain ⟨p, p'⟩ := at_ x.a a0 a1
    have ea : (fun e => opB 3 (ev ns e 1) (ev ns e (o.getD x.a.toNat 0))) = fun e => !nth s x.a e := by
      funext e; rw [← congrFun p' e, ev_one]; simp [opB]
    exact ((got_join 3 most h (f := 1) (by omega) p).mono (fun _ _ => trivial) pp).cast ea (by rw [ea])
  by_cases c8 : x.k = 8
  · have n9 : ¬ x.k = 9 := by omega
    obtain ⟨a0, a1, -⟩ := hk (by omega)
    unfold semE
    simp only [if_neg c1, if_neg c2, if_neg c3, if_neg c7, if_pos c8, if_neg n9]
    obtain ⟨p, p'⟩ := at_ x.a a0 a1
    have ea : (fun e => ev ns (hld e x.v.toNat x.on) (o.getD x.a.toNat 0)) = fun e => nth s x.a (hld e x.v.toNat x.on) := by
      funext e; rw [← congrFun p' _]
    exact ((got_held x.v.toNat x.on most (by omega) h p).mono (fun _ _ => trivial) pp).cast ea (by rw [ea])
  by_cases c9 : x.k = 9
  · obtain ⟨a0, a1, b0, b1, d0, d1⟩ := hk (by omega)
    unfold semE
    simp only [if_neg c1, if_neg c2, if_neg c3, if_neg c7, if_neg c8, if_pos c9]
    obtain ⟨p, p'⟩ := at_ x.a a0 a1
    obtain ⟨q, q'⟩ := at_ x.b b0 b1
    obtain ⟨r, r'⟩ := at_ x.c d0 d1
    have ea : ∀ e, ev ns e (o.getD x.a.toNat 0) = nth s x.a e := fun e => congrFun p' e
    have eb : ∀ e, ev ns e (o.getD x.b.toNat 0) = nth s x.b e := fun e => congrFun q' e
    have ec : ∀ e, ev ns e (o.getD x.c.toNat 0) = nth s x.c e := fun e => congrFun r' e
    refine ((got_ite most h p q r).1.mono (fun _ _ => trivial) (fun _ => Nat.le_refl _)).cast ?_ ?_
    · funext e; rw [ea, eb, ec]
    · simp only [ea, eb, ec]
  · have n9 : ¬ x.k = 9 := c9
    unfold semE
    simp only [if_neg c1, if_neg c2, if_neg c3, if_neg c7, if_neg c8, if_neg c9]
    exact Got.id h (by omega) (fun e => rfl)
/-- All of them, one behind the other. -/
def mkF (most : Nat) : List Nd → List Nat → List Ex → List Nat × Bool × List Nd
  | ns, o, [] => (o, true, ns)
  | ns, o, x :: r =>
    match stepF most ns o x with
    | (none, ns1) => (o, false, ns1)
    | (some q, ns1) => mkF most ns1 (o ++ [q]) r
def semL : Sem → List Ex → Sem
  | s, [] => s
  | s, x :: r => semL (s ++ [semE s x]) r
theorem semL_len : ∀ (l : List Ex) (s : Sem), (semL s l).length = s.length + l.length
  | [], s => rfl
  | x :: r, s => by rw [semL, semL_len r]; simp; omega
/-- May they be, from the i-th on. -/
def OkL : Nat → List Ex → Prop
  | _, [] => True
  | i, x :: r => x.Ok i ∧ OkL (i + 1) r
/-- All sets that are made on the way are there. -/
def HaveL (ns : List Nd) : Sem → List Ex → Prop
  | _, [] => True
  | s, x :: r => (∀ ψ ∈ wayE s x, Is ns ψ) ∧ HaveL ns (s ++ [semE s x]) r
theorem HaveL.ext {ns ns' : List Nd} (hx : Ext ns ns') (hw : WF ns) (hw' : WF ns') : ∀ {l : List Ex} {s : Sem}, HaveL ns s l → HaveL ns' s l
  | [], _, h => trivial
  | x :: r, s, h => ⟨fun ψ hψ => (h.1 ψ hψ).ext hx hw hw', HaveL.ext hx hw hw' h.2⟩
/-- What they leave, in whatever room. -/
theorem mk_any (most : Nat) : ∀ (l : List Ex) (ns : List Nd) (o : List Nat) (s : Sem), WF ns → Stand ns o s → OkL s.length l →
    WF (mkF most ns o l).2.2 ∧ Ext ns (mkF most ns o l).2.2 ∧ (mkF most ns o l).2.2.length ≤ max most ns.length ∧
    ((mkF most ns o l).2.1 = true → Stand (mkF most ns o l).2.2 (mkF most ns o l).1 (semL s l) ∧ HaveL (mkF most ns o l).2.2 s l) ∧ (HaveL ns s l → (mkF most ns o l).2.2 = ns ∧ (mkF most ns o l).2.1 = true) ∧
    (mkF most ns o l).1.length ≤ o.length + l.length ∧
    ∀ B c, Bits B ns → (∀ x ∈ l, x.k = 2 → B x.v.toNat = true) → pw B ≤ c → Bits B (mkF most ns o l).2.2 ∧ (mkF most ns o l).2.2.length ≤ ns.length + l.length * (3 * c) ∧ (ns.length + l.length * (3 * c) < most → (mkF most ns o l).2.1 = true)
  | [], ns, o, s, hw, hs, _ => by
    refine ⟨hw, Ext.refl _, ?_, fun _ => ⟨hs, trivial⟩, fun _ => ⟨rfl, rfl⟩, Nat.le_refl _, fun B c hB _ _ => ⟨hB, ?_, fun _ => rfl⟩⟩
    · show ns.length ≤ _; omega
    · show ns.length ≤ _; omega
  | x :: r, ns, o, s, hw, hs, hok => by
    have G := step_got (most := most) hw hs hok.1
    obtain ⟨q, ns1, e1⟩ : ∃ q ns1, stepF most ns o x = (q, ns1) := ⟨_, _, rfl⟩
    rw [e1] at G
    simp only at G
    cases q with
    | none =>
      have e : mkF most ns o (x :: r) = (o, false, ns1) := by unfold mkF; rw [e1]
      rw [e]
      refine ⟨G.wf, G.ext, G.room, fun q => (by cases q), fun q => absurd rfl (G.old q.1).2, by simp, fun B c hB hl hc => ?_⟩
      obtain ⟨a, b, d⟩ := G.few B hB (hl x (List.mem_cons_self ..))
      have := d rfl
      have e2 : (x :: r).length * (3 * c) = 3 * c + r.length * (3 * c) := by rw [List.length_cons, Nat.add_mul, Nat.one_mul, Nat.add_comm]
      rw [e2]
      refine ⟨a, ?_, fun q => ?_⟩
      · show ns1.length ≤ _; omega
      · exfalso; omega
    | some q =>
      have e : mkF most ns o (x :: r) = mkF most ns1 (o ++ [q]) r := by
        rw [mkF.eq_2, e1]
      obtain ⟨hq, eq⟩ := G.set q rfl
      have S1 := (hs.ext G.ext hw G.wf).push hq eq
      obtain ⟨i1, i2, i3, i4, i5, i6, i7⟩ := mk_any most r ns1 (o ++ [q]) (s ++ [semE s x]) G.wf S1 (by simpa using hok.2)
      rw [e]
      have l1 := G.ext.len
      have room := G.room
      refine ⟨i1, G.ext.trans i2, by omega, fun t => ?_, fun t => ?_, by simp at i6 ⊢; omega, fun B c hB hl hc => ?_⟩
      · obtain ⟨a, b⟩ := i4 t
        exact ⟨a, fun ψ hψ => (G.made (by simp) ψ hψ).ext i2 G.wf i1, b⟩
      · obtain ⟨a, -⟩ := G.old t.1
        subst a
        exact i5 t.2
      · obtain ⟨a, b, d⟩ := G.few B hB (hl x (List.mem_cons_self ..))
        obtain ⟨a', b', d'⟩ := i7 B c a (fun y hy => hl y (List.mem_cons_of_mem _ hy)) hc
        have e2 : (x :: r).length * (3 * c) = 3 * c + r.length * (3 * c) := by rw [List.length_cons, Nat.add_mul, Nat.one_mul, Nat.add_comm]
        rw [e2]
        exact ⟨a', by omega, fun t => d' (by omega)⟩
end Go.Proofs.Ytggcbklififcgab
/- Calls on an arena with room enough, in a form for use one behind the other; when two numbers are one. No program in sight. -/
namespace Go.Proofs.Ytggcbklififcgab
set_option linter.unusedVariables false

/-- A number stands for a set. -/
def St (ns : List Nd) (q : Nat) (φ : Env → Bool) : Prop := q < ns.length ∧ ∀ e, ev ns e q = φ e
theorem St.ext {ns ns' : List Nd} {q : Nat} {φ : Env → Bool} (h : St ns q φ) (hx : Ext ns ns') (hw : WF ns) (hw' : WF ns') : St ns' q φ :=
  ⟨by have := hx.len; have := h.1; omega, fun e => by rw [hx.ev hw hw' e q h.1, h.2]⟩
theorem St.one {ns : List Nd} {f g : Nat} {φ ψ : Env → Bool} (hw : WF ns) (hf : St ns f φ) (hg : St ns g ψ) (e : ∀ e, φ e = ψ e) : f = g :=
  one_number hw hf.1 hg.1 (fun x => by rw [hf.2, hg.2, e])
theorem St.ne {ns : List Nd} {f g : Nat} {φ ψ : Env → Bool} (hf : St ns f φ) (hg : St ns g ψ) (h : f = g) : ∀ e, φ e = ψ e := fun e => by
  subst h; rw [← hf.2, ← hg.2]
theorem St.zero {ns : List Nd} (h : WF ns) : St ns 0 (fun _ => false) := ⟨by have := h.len; omega, fun _ => rfl⟩
theorem St.top {ns : List Nd} (h : WF ns) : St ns 1 (fun _ => true) := ⟨by have := h.len; omega, fun _ => rfl⟩
/-- Nodes behind others, of these bits, so many at most. -/
structure On (B : Nat → Bool) (ns ns' : List Nd) (k : Nat) : Prop where
  wf : WF ns'
  ext : Ext ns ns'
  bits : Bits B ns'
  len : ns'.length ≤ ns.length + k
theorem big_of {most : Nat} {ns : List Nd} {φ : Env → Bool} {R : Option Nat × List Nd} {Φ : List (Env → Bool)} {D : (Nat → Bool) → Prop} {bd : (Nat → Bool) → Nat} (G : Got most ns R.2 φ R.1 Φ D bd) {B : Nat → Bool} (hB : Bits B ns) (hD : D B) {k : Nat} (hk : bd B ≤ k) (hm : ns.length + k < most) :
    ∃ q ns', R = (some q, ns') ∧ On B ns ns' k ∧ St ns' q φ := by
  obtain ⟨r, ns'⟩ := R
  simp only at G
  obtain ⟨a, b, c⟩ := G.few B hB hD
  cases r with
  | none => have := c rfl; omega
  | some q => exact ⟨q, ns', rfl, ⟨G.wf, G.ext, a, by omega⟩, G.set q rfl⟩
theorem jF_big {kind most : Nat} {ns : List Nd} {f g : Nat} {φ ψ : Env → Bool} (h : WF ns) (hf : St ns f φ) (hg : St ns g ψ) {B : Nat → Bool} (hB : Bits B ns) {k : Nat} (hk : pw B ≤ k) (hm : ns.length + k < most) :
    ∃ q ns', jF kind most ns f g = (some q, ns') ∧ On B ns ns' k ∧ St ns' q (fun e => opB kind (φ e) (ψ e)) := by
  obtain ⟨q, ns', e, o, s⟩ := big_of (got_join kind most h hf.1 hg.1) hB trivial hk hm
  exact ⟨q, ns', e, o, s.1, fun x => by rw [s.2]; show opB kind (ev ns x f) (ev ns x g) = _; rw [hf.2, hg.2]⟩
theorem rF_big {bit most : Nat} {on : Bool} (hbit : bit < 104) {ns : List Nd} {f : Nat} {φ : Env → Bool} (h : WF ns) (hf : St ns f φ) {B : Nat → Bool} (hB : Bits B ns) {k : Nat} (hk : pw B ≤ k) (hm : ns.length + k < most) :
    ∃ q ns', rF bit on most ns f = (some q, ns') ∧ On B ns ns' k ∧ St ns' q (fun e => φ (hld e bit on)) := by
  obtain ⟨q, ns', e, o, s⟩ := big_of (got_held bit on most hbit h hf.1) hB trivial hk hm
  exact ⟨q, ns', e, o, s.1, fun x => by rw [s.2]; show ev ns (hld x bit on) f = _; rw [hf.2]⟩
theorem iF_big {most : Nat} {ns : List Nd} {f g h : Nat} {φ ψ χ : Env → Bool} (hw : WF ns) (hf : St ns f φ) (hg : St ns g ψ) (hh : St ns h χ) {B : Nat → Bool} (hB : Bits B ns) {k : Nat} (hk : 3 * pw B ≤ k) (hm : ns.length + k < most) :
    ∃ q ns', iF most ns f g h = (some q, ns') ∧ On B ns ns' k ∧ St ns' q (fun e => iteB (φ e) (ψ e) (χ e)) := by
  obtain ⟨q, ns', e, o, s⟩ := big_of (got_ite most hw hf.1 hg.1 hh.1).1 hB trivial hk hm
  exact ⟨q, ns', e, o, s.1, fun x => by rw [s.2]; show iteB (ev ns x f) (ev ns x g) (ev ns x h) = _; rw [hf.2, hg.2, hh.2]⟩
theorem cF_big {most : Nat} {ns : List Nd} (h : WF ns) {l : List (Nat × Bool)} (hr : l.Pairwise (fun a b => a.1 < b.1)) (h104 : ∀ p ∈ l, p.1 < 104) {B : Nat → Bool} (hB : Bits B ns) (hl : ∀ p ∈ l, B p.1 = true) {k : Nat} (hk : l.length ≤ k) (hm : ns.length + k < most) :
    ∃ q ns', cF most ns l = (some q, ns') ∧ On B ns ns' k ∧ St ns' q (allB l) :=
  big_of (got_cube most h l hr h104) hB hl hk hm
/-- One alone has nothing just if the two are one. -/
theorem xor_zero {most : Nat} {ns ns' : List Nd} {f g q : Nat} (h : WF ns) (hf : f < ns.length) (hg : g < ns.length) (e : jF 2 most ns f g = (some q, ns')) : q = 0 ↔ f = g := by
  have G := got_join 2 most h hf hg
  rw [e] at G
  obtain ⟨s1, s2⟩ := G.set q rfl
  have o2 : ∀ a b, opB 2 a b = (a != b) := fun _ _ => rfl
  constructor
  · intro q0
    subst q0
    refine one_number h hf hg (fun e => ?_)
    have := s2 e
    rw [ev_zero, o2] at this
    cases h1 : ev ns e f <;> cases h2 : ev ns e g <;> simp [h1, h2] at this ⊢
  · intro q0
    subst q0
    have hl : 2 ≤ ns'.length := G.wf.len
    refine one_number G.wf s1 (by show 0 < ns'.length; omega) (fun e => ?_)
    have := s2 e
    simp only at this
    rw [this, ev_zero, o2]; simp
/-- A bit that a set's number doesn't ask. -/
theorem cB_add (B : Nat → Bool) (k : Nat) : ∀ L n, cnt (fun i => B i || decide (i = k)) L n ≤ cnt B L n + (if L ≤ k ∧ k < L + n then 1 else 0)
  | L, 0 => by simp [cnt]
  | L, n + 1 => by
    have := cB_add B k L n
    unfold cnt
    by_cases e : L + n = k
    · subst e
      rw [if_neg (show ¬ (L ≤ L + n ∧ L + n < L + n) by omega)] at this
      rw [if_pos (show L ≤ L + n ∧ L + n < L + (n + 1) by omega), if_pos (show (B (L + n) || decide (L + n = L + n)) = true by simp)]
      omega
    · have e1 : (B (L + n) || decide (L + n = k)) = B (L + n) := by simp [e]
      rw [e1]
      by_cases r : L ≤ k ∧ k < L + n
      · rw [if_pos r] at this
        rw [if_pos (show L ≤ k ∧ k < L + (n + 1) by omega)]
        omega
      · rw [if_neg r] at this
        rw [if_neg (show ¬ (L ≤ k ∧ k < L + (n + 1)) by omega)]
        omega
theorem pw_add (B : Nat → Bool) (k : Nat) : pw (fun i => B i || decide (i = k)) ≤ 2 * pw B := by
  unfold pw cB
  have := cB_add B k 0 (104 - 0)
  rw [← Nat.pow_succ']
  refine Nat.pow_le_pow_right (by omega) ?_
  split at this <;> omega
theorem Bits.mono {B B' : Nat → Bool} {ns : List Nd} (h : Bits B ns) (hb : ∀ i, B i = true → B' i = true) : Bits B' ns := fun f n h2 hf => hb _ (h f n h2 hf)
theorem bits_new (B : Nat → Bool) : Bits B [bot, top] := fun f n h2 hf => by have := lt_of_get hf; simp at this; omega
/-- How many bits: no more than there are in a list that has all of them. -/
theorem cnt_le (B : Nat → Bool) (l : List Nat) (h : ∀ i, B i = true → i ∈ l) : ∀ L n, cnt B L n ≤ (l.filter (fun i => decide (L ≤ i) && decide (i < L + n))).length
  | L, 0 => by simp [cnt]
  | L, n + 1 => by
    have ih := cnt_le B l h L n
    unfold cnt
    have hsub : ∀ (l : List Nat), (l.filter (fun i => decide (L ≤ i) && decide (i < L + n))).length + (if L + n ∈ l then 1 else 0) ≤ (l.filter (fun i => decide (L ≤ i) && decide (i < L + (n + 1)))).length := by
      intro l
      induction l with
      | nil => simp
      | cons x r ih =>
        by_cases e : x = L + n
        · subst e
          have h1 : (decide (L ≤ L + n) && decide (L + n < L + n)) = false := by simp
          have h2 : (decide (L ≤ L + n) && decide (L + n < L + (n + 1))) = true := by simp
          have h0 : (r.filter (fun i => decide (L ≤ i) && decide (i < L + n))).length ≤ (r.filter (fun i => decide (L ≤ i) && decide (i < L + (n + 1)))).length := by omega
          simp only [List.filter_cons, h1, h2, List.mem_cons, true_or, if_true, List.length_cons]
          simp only [Bool.false_eq_true, if_false]
          omega
        · have h1 : (decide (L ≤ x) && decide (x < L + (n + 1))) = (decide (L ≤ x) && decide (x < L + n)) := by
            rw [Bool.eq_iff_iff]; simp; omega
          have h3 : (L + n ∈ x :: r) ↔ L + n ∈ r := by simp [show ¬ L + n = x by omega]
          simp only [List.filter_cons, h1, h3]
          split <;> (try simp only [List.length_cons]) <;> omega
    have := hsub l
    by_cases e : B (L + n) = true
    · rw [if_pos e]; rw [if_pos (h _ e)] at this; omega
    · rw [if_neg e]; omega
theorem pw_few {B : Nat → Bool} {l : List Nat} (h : ∀ i, B i = true → i ∈ l) {k : Nat} (hk : l.length ≤ k) : pw B ≤ 2 ^ k := by
  refine Nat.pow_le_pow_right (by omega) ?_
  have := cnt_le B l h 0 (104 - 0)
  have := List.length_filter_le (fun i => decide (0 ≤ i) && decide (i < 0 + (104 - 0))) l
  unfold cB
  omega
end Go.Proofs.Ytggcbklififcgab
/- How many nodes a join makes, and which ones its set has: no more than there are pairs that it comes to. No program in sight. -/
namespace Go.Proofs.Ytggcbklififcgab
set_option linter.unusedVariables false

/-- False, True, or one of a list. -/
def In1 (L : List Nat) (f : Nat) : Prop := f ≤ 1 ∨ f ∈ L
theorem In1.mono {L L' : List Nat} {f : Nat} (h : In1 L f) (hs : ∀ x ∈ L, x ∈ L') : In1 L' f := h.imp id (hs f)
/-- A list of nodes that has all that they lead to; their bits lie ahead of hi. -/
def Clo (hi : Nat) (ns : List Nd) (L : List Nat) : Prop := ∀ f ∈ L, f < ns.length ∧ In1 L (ns.getD f bot).l ∧ In1 L (ns.getD f bot).h ∧ (2 ≤ f → lv ns f < hi)
theorem Clo.nil (hi : Nat) (ns : List Nd) : Clo hi ns [] := fun f hf => by cases hf
theorem Clo.ext {hi : Nat} {ns ns' : List Nd} {L : List Nat} (h : Clo hi ns L) (hx : Ext ns ns') : Clo hi ns' L := fun f hf => by
  obtain ⟨a, b, c, d⟩ := h f hf
  have := hx.len
  rw [hx.getD a, hx.lv a]
  exact ⟨by omega, b, c, d⟩
theorem Clo.mono {hi hi' : Nat} {ns : List Nd} {L : List Nat} (h : Clo hi ns L) (hh : hi ≤ hi') : Clo hi' ns L := fun f hf => by
  obtain ⟨a, b, c, d⟩ := h f hf
  exact ⟨a, b, c, fun q => by have := d q; omega⟩
theorem Clo.append {hi : Nat} {ns : List Nd} {L M : List Nat} (h : Clo hi ns L) (k : Clo hi ns M) : Clo hi ns (L ++ M) := fun f hf => by
  rcases List.mem_append.1 hf with q | q
  · obtain ⟨a, b, c, d⟩ := h f q
    exact ⟨a, b.mono (fun x hx => List.mem_append_left _ hx), c.mono (fun x hx => List.mem_append_left _ hx), d⟩
  · obtain ⟨a, b, c, d⟩ := k f q
    exact ⟨a, b.mono (fun x hx => List.mem_append_right _ hx), c.mono (fun x hx => List.mem_append_right _ hx), d⟩
theorem Clo.cons {hi : Nat} {ns : List Nd} {L : List Nat} {q : Nat} (h : Clo hi ns L) (hq : q < ns.length) (hl : In1 L (ns.getD q bot).l) (hh : In1 L (ns.getD q bot).h) (hv : 2 ≤ q → lv ns q < hi) : Clo hi ns (q :: L) := fun f hf => by
  rcases List.mem_cons.1 hf with rfl | r
  · exact ⟨hq, hl.mono (fun x hx => List.mem_cons_of_mem _ hx), hh.mono (fun x hx => List.mem_cons_of_mem _ hx), hv⟩
  · obtain ⟨a, b, c, d⟩ := h f r
    exact ⟨a, b.mono (fun x hx => List.mem_cons_of_mem _ hx), c.mono (fun x hx => List.mem_cons_of_mem _ hx), d⟩
/-- False and True stand first. -/
def Zo (ns : List Nd) : Prop := ns[0]? = some bot ∧ ns[1]? = some top
theorem WF.zo {ns : List Nd} (h : WF ns) : Zo ns := ⟨h.z, h.o⟩
theorem Zo.ext {ns ns' : List Nd} (h : Zo ns) (hx : Ext ns ns') : Zo ns' := by
  have a := lt_of_get h.1
  have b := lt_of_get h.2
  exact ⟨by rw [hx.get a]; exact h.1, by rw [hx.get b]; exact h.2⟩
theorem In1.lt {hi : Nat} {ns : List Nd} {L : List Nat} {f : Nat} (h : In1 L f) (hz : Zo ns) (hL : Clo hi ns L) : f < ns.length := by
  rcases h with q | q
  · have := lt_of_get hz.2; omega
  · exact (hL f q).1
theorem In1.parts {hi : Nat} {ns : List Nd} {L : List Nat} {f : Nat} (h : In1 L f) (hz : Zo ns) (hL : Clo hi ns L) : In1 L (ns.getD f bot).l ∧ In1 L (ns.getD f bot).h ∧ (2 ≤ f → lv ns f < hi) := by
  rcases h with q | q
  · have : f = 0 ∨ f = 1 := by omega
    rcases this with rfl | rfl
    · rw [getD_some hz.1]; exact ⟨Or.inl (by decide), Or.inl (by decide), fun h => by omega⟩
    · rw [getD_some hz.2]; exact ⟨Or.inl (by decide), Or.inl (by decide), fun h => by omega⟩
  · exact (hL f q).2
/-- A node's number, with room or without. -/
theorem num_size {hi most : Nat} {ns : List Nd} {n : Nd} {L : List Nat} (hz : Zo ns) (hL : Clo hi ns L) (hl : In1 L n.l) (hh : In1 L n.h) (hv : n.v < hi) :
    Ext ns (numF most ns n).2 ∧ (numF most ns n).2.length ≤ ns.length + 1 ∧ ∀ r, (numF most ns n).1 = some r → r < (numF most ns n).2.length ∧ In1 L ((numF most ns n).2.getD r bot).l ∧ In1 L ((numF most ns n).2.getD r bot).h ∧ (2 ≤ r → lv (numF most ns n).2 r < hi) := by
  unfold numF
  by_cases e : n.l = n.h
  · rw [if_pos e]
    refine ⟨Ext.refl _, by show ns.length ≤ _; omega, fun r hr => ?_⟩
    cases hr
    exact ⟨hl.lt hz hL, hl.parts hz hL⟩
  · rw [if_neg e]
    cases hn : lookN n ns with
    | some f =>
      refine ⟨Ext.refl _, by show ns.length ≤ _; omega, fun r hr => ?_⟩
      cases hr
      have h1 := lookN_some hn
      refine ⟨lt_of_get h1, ?_⟩
      unfold lv
      rw [getD_some h1]
      exact ⟨hl, hh, fun _ => hv⟩
    | none =>
      by_cases hm : most ≤ ns.length
      · simp only [if_pos hm]
        exact ⟨Ext.refl _, by omega, fun r hr => by cases hr⟩
      · simp only [if_neg hm]
        have hx : Ext ns (ns ++ [n]) := ⟨[n], rfl⟩
        refine ⟨hx, by simp, fun r hr => ?_⟩
        cases hr
        have h1 : (ns ++ [n])[ns.length]? = some n := by rw [List.getElem?_append_right (Nat.le_refl _)]; simp
        refine ⟨by simp, ?_⟩
        unfold lv
        rw [getD_some h1]
        exact ⟨hl, hh, fun _ => hv⟩
/-- A pair that is plain, its set one of L, or one of P. -/
def OkP (kind : Nat) (P : List (Nat × Nat)) (L : List Nat) (f g : Nat) : Prop := (∃ r, plainF kind f g = some r ∧ In1 L r) ∨ (plainF kind f g = none ∧ (f, g) ∈ P)
/-- Pairs that have all that they lead to. -/
def PC (kind hi : Nat) (ns : List Nd) (P : List (Nat × Nat)) (L : List Nat) : Prop := ∀ x y, (x, y) ∈ P → plainF kind x y = none → x < ns.length ∧ y < ns.length ∧ min (lv ns x) (lv ns y) < hi ∧
  OkP kind P L (partF ns x (min (lv ns x) (lv ns y))).l (partF ns y (min (lv ns x) (lv ns y))).l ∧ OkP kind P L (partF ns x (min (lv ns x) (lv ns y))).h (partF ns y (min (lv ns x) (lv ns y))).h
theorem partF_ext {ns ns' : List Nd} (hx : Ext ns ns') {f : Nat} (hf : f < ns.length) (L : Nat) : partF ns' f L = partF ns f L := by
  unfold partF; rw [hx.getD hf]
theorem PC.ext {kind hi : Nat} {ns ns' : List Nd} {P : List (Nat × Nat)} {L : List Nat} (h : PC kind hi ns P L) (hx : Ext ns ns') : PC kind hi ns' P L := fun x y hxy hp => by
  obtain ⟨a, b, c, d, e⟩ := h x y hxy hp
  have := hx.len
  rw [hx.lv a, hx.lv b, partF_ext hx a, partF_ext hx b]
  exact ⟨by omega, by omega, c, d, e⟩
def vals (m : Memo) : List Nat := m.map (·.2)
structure Sz (hi : Nat) (P : List (Nat × Nat)) (L : List Nat) (ns : List Nd) (m : Memo) (R : Option Nat × List Nd × Memo) : Prop where
  ext : Ext ns R.2.1
  clo : Clo hi R.2.1 (L ++ vals R.2.2)
  key : ∀ e ∈ R.2.2, e.1 ∈ P
  few : R.2.1.length + m.length ≤ ns.length + R.2.2.length
  grow : ∀ x ∈ vals m, x ∈ vals R.2.2
  res : ∀ r, R.1 = some r → In1 (L ++ vals R.2.2) r
theorem pairF_size (kind most hi : Nat) (P : List (Nat × Nat)) (L : List Nat) : ∀ (k : Nat) (ns : List Nd) (m : Memo) (f g : Nat), Zo ns → PC kind hi ns P L → Clo hi ns (L ++ vals m) → (∀ e ∈ m, e.1 ∈ P) → OkP kind P L f g → Sz hi P L ns m (pairF kind most k ns m f g) := by
  intro k
  induction k with
  | zero =>
    intro ns m f g hz hP hL hk ho
    exact ⟨Ext.refl _, hL, hk, Nat.le_refl _, fun x hx => hx, fun r hr => by cases hr⟩
  | succ k ih =>
    intro ns m f g hz hP hL hk ho
    cases hp : plainF kind f g with
    | some r =>
      have e : pairF kind most (k + 1) ns m f g = (some r, ns, m) := by unfold pairF; rw [hp]
      rw [e]
      refine ⟨Ext.refl _, hL, hk, Nat.le_refl _, fun x hx => hx, fun q hq => ?_⟩
      cases hq
      rcases ho with ⟨r', h1, h2⟩ | ⟨h1, -⟩
      · rw [hp] at h1; cases h1; exact h2.mono (fun x hx => List.mem_append_left _ hx)
      · rw [hp] at h1; cases h1
    | none =>
      cases hl : lookM (f, g) m with
      | some r =>
        have e : pairF kind most (k + 1) ns m f g = (some r, ns, m) := by unfold pairF; rw [hp]; simp only; rw [hl]
        rw [e]
        refine ⟨Ext.refl _, hL, hk, Nat.le_refl _, fun x hx => hx, fun q hq => ?_⟩
        cases hq
        exact Or.inr (List.mem_append_right _ (List.mem_map.2 ⟨_, lookM_some hl, rfl⟩))
      | none =>
        have hin : (f, g) ∈ P := by
          rcases ho with ⟨r', h1, -⟩ | ⟨-, h2⟩
          · rw [hp] at h1; cases h1
          · exact h2
        obtain ⟨hf, hg, hv, ol, oh⟩ := hP f g hin hp
        obtain ⟨Lv, hLv⟩ : ∃ Lv, min (lv ns f) (lv ns g) = Lv := ⟨_, rfl⟩
        rw [hLv] at hv ol oh
        have I1 := ih ns m _ _ hz hP hL hk ol
        obtain ⟨r1, ns1, m1, e1⟩ : ∃ r1 ns1 m1, pairF kind most k ns m (partF ns f Lv).l (partF ns g Lv).l = (r1, ns1, m1) := ⟨_, _, _, rfl⟩
        rw [e1] at I1
        obtain ⟨x1, c1, k1, n1, g1, s1⟩ := I1
        simp only at x1 c1 k1 n1 g1 s1
        cases r1 with
        | none =>
          have e : pairF kind most (k + 1) ns m f g = (none, ns1, m1) := by unfold pairF; rw [hp]; simp only; rw [hl]; simp only; rw [hLv, e1]
          rw [e]
          exact ⟨x1, c1, k1, n1, g1, fun r hr => by cases hr⟩
        | some lo =>
          have I2 := ih ns1 m1 _ _ (hz.ext x1) (hP.ext x1) c1 k1 oh
          obtain ⟨r2, ns2, m2, e2⟩ : ∃ r2 ns2 m2, pairF kind most k ns1 m1 (partF ns f Lv).h (partF ns g Lv).h = (r2, ns2, m2) := ⟨_, _, _, rfl⟩
          rw [e2] at I2
          obtain ⟨x2, c2, k2, n2, g2, s2⟩ := I2
          simp only at x2 c2 k2 n2 g2 s2
          cases r2 with
          | none =>
            have e : pairF kind most (k + 1) ns m f g = (none, ns2, m2) := by unfold pairF; rw [hp]; simp only; rw [hl]; simp only; rw [hLv, e1]; simp only; rw [e2]
            rw [e]
            exact ⟨x1.trans x2, c2, k2, by show ns2.length + m.length ≤ ns.length + m2.length; omega, fun x hx => g2 x (g1 x hx), fun r hr => by cases hr⟩
          | some hi' =>
            have l1 : In1 (L ++ vals m2) lo := (s1 lo rfl).mono (fun x hx => by
              rcases List.mem_append.1 hx with q | q
              · exact List.mem_append_left _ q
              · exact List.mem_append_right _ (g2 x q))
            obtain ⟨x3, n3, r3'⟩ := num_size (most := most) (n := ⟨Lv, lo, hi'⟩) ((hz.ext x1).ext x2) c2 l1 (s2 hi' rfl) hv
            obtain ⟨r3, ns3, e3⟩ : ∃ r3 ns3, numF most ns2 ⟨Lv, lo, hi'⟩ = (r3, ns3) := ⟨_, _, rfl⟩
            rw [e3] at x3 n3 r3'
            simp only at x3 n3 r3'
            cases r3 with
            | none =>
              have e : pairF kind most (k + 1) ns m f g = (none, ns3, m2) := by unfold pairF; rw [hp]; simp only; rw [hl]; simp only; rw [hLv, e1]; simp only; rw [e2]; simp only; rw [e3]
              rw [e]
              have e4 : ns3 = ns2 := by
                unfold numF at e3
                split at e3
                · cases e3
                · split at e3
                  · cases e3
                  · split at e3
                    · cases e3; rfl
                    · cases e3
              subst e4
              exact ⟨x1.trans x2, c2, k2, by show ns3.length + m.length ≤ ns.length + m2.length; omega, fun x hx => g2 x (g1 x hx), fun r hr => by cases hr⟩
            | some r =>
              have e : pairF kind most (k + 1) ns m f g = (some r, ns3, ((f, g), r) :: m2) := by unfold pairF; rw [hp]; simp only; rw [hl]; simp only; rw [hLv, e1]; simp only; rw [e2]; simp only; rw [e3]
              rw [e]
              obtain ⟨q1, q2, q3, q4⟩ := r3' r rfl
              have hsub : ∀ x ∈ L ++ vals m2, x ∈ L ++ vals (((f, g), r) :: m2) := fun x hx => by
                rcases List.mem_append.1 hx with q | q
                · exact List.mem_append_left _ q
                · exact List.mem_append_right _ (List.mem_cons_of_mem _ q)
              refine ⟨(x1.trans x2).trans x3, fun y hy => ?_, fun y hy => ?_, ?_, fun x hx => List.mem_cons_of_mem _ (g2 x (g1 x hx)), fun q hq => ?_⟩
              · have hy' : y ∈ L ++ vals m2 ∨ y = r := by
                  rcases List.mem_append.1 hy with q | q
                  · exact Or.inl (List.mem_append_left _ q)
                  · rcases List.mem_cons.1 q with q | q
                    · exact Or.inr q
                    · exact Or.inl (List.mem_append_right _ q)
                rcases hy' with q | rfl
                · obtain ⟨a, b, c, d⟩ := (c2.ext x3) y q
                  exact ⟨a, b.mono hsub, c.mono hsub, d⟩
                · exact ⟨q1, q2.mono hsub, q3.mono hsub, q4⟩
              · rcases List.mem_cons.1 hy with rfl | q
                · exact hin
                · exact k2 y q
              · show ns3.length + m.length ≤ ns.length + (((f, g), r) :: m2).length
                rw [List.length_cons]; omega
              · cases hq
                exact Or.inr (List.mem_append_right _ (List.mem_cons_self ..))
theorem nodup_len {α : Type} [DecidableEq α] : ∀ {l P : List α}, l.Nodup → (∀ x ∈ l, x ∈ P) → l.length ≤ P.length
  | [], P, _, _ => Nat.zero_le _
  | x :: r, P, hn, hs => by
    obtain ⟨a, b⟩ := List.nodup_cons.1 hn
    have hx : x ∈ P := hs x (List.mem_cons_self ..)
    have := nodup_len (P := P.erase x) b (fun y hy => (List.mem_erase_of_ne (fun e => a (by rw [← e]; exact hy))).2 (hs y (List.mem_cons_of_mem _ hy)))
    rw [List.length_erase_of_mem hx] at this
    have := List.length_pos_of_mem hx
    rw [List.length_cons]; omega
/-- What a join leaves, by its pairs. -/
theorem jF_size {kind most hi : Nat} {ns : List Nd} {f g : Nat} {P : List (Nat × Nat)} {L : List Nat} (h : WF ns) (hf : f < ns.length) (hg : g < ns.length) (hP : PC kind hi ns P L) (hL : Clo hi ns L) (ho : OkP kind P L f g) :
    (jF kind most ns f g).2.length ≤ ns.length + P.length ∧ ((jF kind most ns f g).1 = none → most ≤ ns.length + P.length) ∧
    ∀ q, (jF kind most ns f g).1 = some q → ∃ V, V.length ≤ P.length ∧ Clo hi (jF kind most ns f g).2 (L ++ V) ∧ In1 (L ++ V) q := by
  have M := pairF_made kind most 105 ns [] f g h ⟨fun p hp => (by cases hp), List.nodup_nil⟩ hf hg (by omega)
  have S := pairF_size kind most hi P L 105 ns [] f g h.zo hP (by simpa [vals] using hL) (fun e he => by cases he) ho
  unfold jF wholeF joinF
  obtain ⟨r, ns', m', e⟩ : ∃ r ns' m', pairF kind most 105 ns [] f g = (r, ns', m') := ⟨_, _, _, rfl⟩
  rw [e] at M S ⊢
  obtain ⟨M1, V1, -⟩ := M
  obtain ⟨x1, c1, k1, n1, g1, s1⟩ := S
  simp only at M1 V1 x1 c1 k1 n1 g1 s1 ⊢
  have hlen : m'.length ≤ P.length := by
    have := nodup_len V1.one (P := P) (fun x hx => by
      obtain ⟨p, hp, rfl⟩ := List.mem_map.1 hx
      exact k1 p hp)
    simpa using this
  rw [List.length_nil] at n1
  cases r with
  | none =>
    have := M1.full rfl
    exact ⟨by simp, fun _ => by omega, fun q hq => by cases hq⟩
  | some q =>
    refine ⟨(by simp; omega), fun q => (by cases q), fun q' hq => ⟨vals m', (by simp [vals]; exact hlen), (by simpa using c1), s1 q' hq⟩⟩
end Go.Proofs.Ytggcbklififcgab
/- Sets made behind others: how many nodes are new, and which are theirs. No program in sight. -/
namespace Go.Proofs.Ytggcbklififcgab
set_option linter.unusedVariables false

/-- A set behind others: what it is, how many nodes are new, how many are its, of which bits. -/
structure Gd (ns0 ns : List Nd) (f : Nat) (φ : Env → Bool) (c l hi : Nat) (D : (Nat → Bool) → Prop) : Prop where
  wf : WF ns
  ext : Ext ns0 ns
  len : ns.length ≤ ns0.length + c
  st : St ns f φ
  clo : ∃ L, L.length ≤ l ∧ Clo hi ns L ∧ In1 L f
  bits : ∀ B, Bits B ns0 → D B → Bits B ns
theorem Gd.cast {ns0 ns : List Nd} {f : Nat} {φ ψ : Env → Bool} {c l hi : Nat} {D : (Nat → Bool) → Prop} (h : Gd ns0 ns f φ c l hi D) (e : ∀ x, φ x = ψ x) : Gd ns0 ns f ψ c l hi D :=
  ⟨h.wf, h.ext, h.len, ⟨h.st.1, fun x => by rw [h.st.2, e]⟩, h.clo, h.bits⟩
theorem Gd.mono {ns0 ns : List Nd} {f : Nat} {φ : Env → Bool} {c l hi c' l' hi' : Nat} {D D' : (Nat → Bool) → Prop} (h : Gd ns0 ns f φ c l hi D) (hc : c ≤ c') (hl : l ≤ l') (hh : hi ≤ hi') (hD : ∀ B, D' B → D B) : Gd ns0 ns f φ c' l' hi' D' := by
  obtain ⟨a, b, d, e, ⟨L, l1, l2, l3⟩, g⟩ := h
  exact ⟨a, b, by omega, e, ⟨L, by omega, l2.mono hh, l3⟩, fun B hB hb => g B hB (hD B hb)⟩
theorem Gd.id {ns : List Nd} (h : WF ns) {f : Nat} {φ : Env → Bool} (hf : f ≤ 1) (he : St ns f φ) (D : (Nat → Bool) → Prop) : Gd ns ns f φ 0 0 0 D :=
  ⟨h, Ext.refl _, Nat.le_refl _, he, ⟨[], Nat.le_refl _, Clo.nil _ _, Or.inl hf⟩, fun B hB _ => hB⟩
/-- What a step leaves: the set, or no room. -/
structure Lv (most : Nat) (ns : List Nd) (R : Option Nat × List Nd) (φ : Env → Bool) (c l hi : Nat) (D : (Nat → Bool) → Prop) : Prop where
  some : ∀ q, R.1 = some q → Gd ns R.2 q φ c l hi D
  none : R.1 = none → most ≤ ns.length + c ∧ Ext ns R.2 ∧ WF R.2
theorem Lv.wf {most : Nat} {ns : List Nd} {R : Option Nat × List Nd} {φ : Env → Bool} {c l hi : Nat} {D : (Nat → Bool) → Prop} (h : Lv most ns R φ c l hi D) : WF R.2 := by
  cases e : R.1 with
  | none => exact (h.none e).2.2
  | some q => exact (h.some q e).wf
theorem Lv.ext {most : Nat} {ns : List Nd} {R : Option Nat × List Nd} {φ : Env → Bool} {c l hi : Nat} {D : (Nat → Bool) → Prop} (h : Lv most ns R φ c l hi D) : Ext ns R.2 := by
  cases e : R.1 with
  | none => exact (h.none e).2.1
  | some q => exact (h.some q e).ext
/-- Bits that are so. -/
theorem cubeF_clo (most hi : Nat) {ns : List Nd} (h : WF ns) : ∀ (l : List (Nat × Bool)), l.Pairwise (fun a b => a.1 < b.1) → (∀ p ∈ l, p.1 < 104) → (∀ p ∈ l, p.1 < hi) → ∀ q, (cubeF most ns l).1 = some q → ∃ L, L.length ≤ l.length ∧ Clo hi (cubeF most ns l).2 L ∧ In1 L q
  | [], _, _, _, q, hq => by cases hq; exact ⟨[], Nat.le_refl _, Clo.nil _ _, Or.inl (Nat.le_refl _)⟩
  | p :: r, hr, h104, hh, q, hq => by
    obtain ⟨hr1, hr2⟩ := List.pairwise_cons.1 hr
    have h104' : ∀ q ∈ r, q.1 < 104 := fun q hq => h104 q (List.mem_cons_of_mem _ hq)
    have I := cubeF_clo most hi h r hr2 h104' (fun q hq => hh q (List.mem_cons_of_mem _ hq))
    have M := cubeF_made most h r hr2 h104'
    obtain ⟨r1, ns1, e1⟩ : ∃ r1 ns1, cubeF most ns r = (r1, ns1) := ⟨_, _, rfl⟩
    rw [e1] at I M
    have hz := M.1.zo
    simp only at I hz
    cases r1 with
    | none =>
      have e : cubeF most ns (p :: r) = (none, ns1) := by unfold cubeF; rw [e1]
      rw [e] at hq; cases hq
    | some f =>
      obtain ⟨L, l1, l2, l3⟩ := I f rfl
      obtain ⟨n, hn⟩ : ∃ n, (if p.2 then (⟨p.1, 0, f⟩ : Nd) else ⟨p.1, f, 0⟩) = n := ⟨_, rfl⟩
      have e : cubeF most ns (p :: r) = numF most ns1 n := by rw [← hn]; conv => lhs; unfold cubeF
                                                              rw [e1]
      have hc : In1 L n.l ∧ In1 L n.h ∧ n.v < hi := by
        have hp := hh p (List.mem_cons_self ..)
        rw [← hn]
        split
        · exact ⟨Or.inl (Nat.zero_le _), l3, hp⟩
        · exact ⟨l3, Or.inl (Nat.zero_le _), hp⟩
      obtain ⟨x, -, s⟩ := num_size (most := most) hz l2 hc.1 hc.2.1 hc.2.2
      rw [e] at hq ⊢
      obtain ⟨s1, s2, s3, s4⟩ := s q hq
      exact ⟨q :: L, by simp only [List.length_cons]; omega, (l2.ext x).cons s1 s2 s3 s4, Or.inr (List.mem_cons_self ..)⟩
theorem cF_lv (most hi : Nat) {ns : List Nd} (h : WF ns) {l : List (Nat × Bool)} (hr : l.Pairwise (fun a b => a.1 < b.1)) (h104 : ∀ p ∈ l, p.1 < 104) (hh : ∀ p ∈ l, p.1 < hi) :
    Lv most ns (cF most ns l) (allB l) l.length l.length hi (fun B => ∀ p ∈ l, B p.1 = true) ∧ ((cF most ns l).1 = none → (cF most ns l).2 = ns) := by
  have G := got_cube most h l hr h104
  have C := cubeF_clo most hi h l hr h104 hh
  have M := cubeF_made most h l hr h104
  refine ⟨⟨fun q hq => ⟨G.wf, G.ext, ?_, G.set q hq, ?_, fun B hB hD => (G.few B hB hD).1⟩, fun hn => ?_⟩, G.nil⟩
  · unfold cF wholeF at hq ⊢
    simp only at hq ⊢
    rw [if_neg (by rw [hq]; simp)]
    exact M.2.2.2.2.2.2.1
  · unfold cF wholeF at hq ⊢
    simp only at hq ⊢
    rw [if_neg (by rw [hq]; simp)]
    exact C q hq
  · have e := G.nil hn
    refine ⟨?_, G.ext, G.wf⟩
    unfold cF wholeF at hn
    have := M.2.2.2.1 hn
    have := M.2.2.2.2.2.2.1
    omega
/-- A join, by its pairs. -/
theorem jF_lv {kind most hi : Nat} {ns : List Nd} {f g : Nat} {φ ψ : Env → Bool} {P : List (Nat × Nat)} {L : List Nat} (h : WF ns) (hf : St ns f φ) (hg : St ns g ψ) (hP : PC kind hi ns P L) (hL : Clo hi ns L) (ho : OkP kind P L f g) :
    Lv most ns (jF kind most ns f g) (fun e => opB kind (φ e) (ψ e)) P.length (L.length + P.length) hi (fun _ => True) ∧ ((jF kind most ns f g).1 = none → (jF kind most ns f g).2 = ns) := by
  have G := got_join kind most h hf.1 hg.1
  obtain ⟨s1, s2, s3⟩ := jF_size (most := most) h hf.1 hg.1 hP hL ho
  refine ⟨⟨fun q hq => ⟨G.wf, G.ext, s1, ⟨(G.set q hq).1, fun e => ?_⟩, ?_, fun B hB _ => (G.few B hB trivial).1⟩, fun hn => ⟨s2 hn, G.ext, G.wf⟩⟩, G.nil⟩
  · rw [(G.set q hq).2, hf.2, hg.2]
  · obtain ⟨V, v1, v2, v3⟩ := s3 q hq
    exact ⟨L ++ V, by rw [List.length_append]; omega, v2, v3⟩
/-- A bit's node. -/
theorem var_node {ns : List Nd} (h : WF ns) {q v : Nat} {on : Bool} (hv : v < 104) (hq : St ns q (fun e => e v == on)) : 2 ≤ q ∧ lv ns q = v ∧ (ns.getD q bot).l ≤ 1 ∧ (ns.getD q bot).h ≤ 1 := by
  have hs : ∀ e, ev ns e q = (e v == on) := hq.2
  have hge : v ≤ lv ns q := lv_ge h hq.1 (by omega) (fun e i b hi => by rw [hs, hs, hld_ne e b (by omega)])
  have hle : lv ns q ≤ v := by
    rcases Nat.lt_or_ge v (lv ns q) with r | r
    · exfalso
      have a := ev_hld h (fun _ => false) true hq.1 r
      rw [hs, hs, hld_same] at a
      cases on <;> simp at a
    · exact r
  have e : lv ns q = v := by omega
  have h2 : 2 ≤ q := lv_two h hq.1 (by omega)
  obtain ⟨a, b, -⟩ := h.parts h2 hq.1
  have hl := hq.1
  have hlen := h.len
  have one : ∀ f, f < ns.length → (∀ e e', ev ns e f = ev ns e' f) → f ≤ 1 := fun f hf he => by
    cases q0 : ev ns (fun _ => false) f with
    | false =>
      have : f = 0 := one_number h hf (by omega) (fun e => by rw [he e (fun _ => false), q0]; rfl)
      omega
    | true =>
      have : f = 1 := one_number h hf (by omega) (fun e => by rw [he e (fun _ => false), q0]; rfl)
      omega
  refine ⟨h2, e, one _ (by omega) (fun x y => ?_), one _ (by omega) (fun x y => ?_)⟩
  · rw [ev_low h x h2 hq.1, ev_low h y h2 hq.1, hs, hs, e, hld_same, hld_same]
  · rw [ev_high h x h2 hq.1, ev_high h y h2 hq.1, hs, hs, e, hld_same, hld_same]
theorem plain_low {kind a f : Nat} (hk : kind ≤ 1) (ha : a ≤ 1) : ∃ r, plainF kind a f = some r ∧ (r ≤ 1 ∨ r = f) := by
  have k : kind = 0 ∨ kind = 1 := by omega
  have b : a = 0 ∨ a = 1 := by omega
  unfold plainF
  rcases k with rfl | rfl <;> rcases b with rfl | rfl <;> simp <;> (by_cases c0 : f = 0 <;> by_cases c1 : f = 1 <;> simp [c0, c1])
theorem plain_lowR {kind a f : Nat} (hk : kind ≤ 1) (ha : a ≤ 1) : ∃ r, plainF kind f a = some r ∧ (r ≤ 1 ∨ r = f) := by
  have k : kind = 0 ∨ kind = 1 := by omega
  have b : a = 0 ∨ a = 1 := by omega
  unfold plainF
  rcases k with rfl | rfl <;> rcases b with rfl | rfl <;> simp <;> (by_cases c0 : f = 0 <;> by_cases c1 : f = 1 <;> simp [c0, c1])
theorem plain_in {kind f g r : Nat} (h : plainF kind f g = some r) : r ≤ 1 ∨ r = f ∨ r = g := by
  unfold plainF at h
  (repeat' split at h) <;> simp_all <;> omega
theorem jF_plain {kind most : Nat} {ns : List Nd} {f g r : Nat} (h : plainF kind f g = some r) : jF kind most ns f g = (some r, ns) := by
  unfold jF wholeF joinF
  have e : pairF kind most 105 ns [] f g = (some r, ns, []) := by unfold pairF; rw [h]
  rw [e]; rfl
/-- A bit joined with what lies behind it. -/
theorem bit_lv {kind most v : Nat} {on : Bool} {ns : List Nd} {q f l hi : Nat} {ψ : Env → Bool} (h : WF ns) (hk : kind ≤ 1) (hv : v < 104) (hvh : v < hi) (hq : St ns q (fun e => e v == on)) (hf : St ns f ψ) (hψ : ∀ e i b, i ≤ v → ψ (hld e i b) = ψ e) {L : List Nat} (hl : L.length ≤ l) (hL : Clo hi ns L) (hin : In1 L f) :
    Lv most ns (jF kind most ns q f) (fun e => opB kind (e v == on) (ψ e)) 1 (l + 1) hi (fun _ => True) ∧ ((jF kind most ns q f).1 = none → (jF kind most ns q f).2 = ns) := by
  obtain ⟨q2, qv, ql, qh⟩ := var_node h hv hq
  have hfv : v < lv ns f := lv_ge h (L := v + 1) hf.1 (by omega) (fun e i b hi => by rw [hf.2, hf.2]; exact hψ e i b (by omega))
  cases hp : plainF kind q f with
  | some r =>
    have hc : Clo hi ns (q :: L) := hL.cons hq.1 (Or.inl ql) (Or.inl qh) (fun _ => by omega)
    have hr : In1 (q :: L) r := by
      rcases plain_in hp with a | a | a
      · exact Or.inl a
      · exact Or.inr (by rw [a]; exact List.mem_cons_self ..)
      · rw [a]; exact hin.mono (fun x hx => List.mem_cons_of_mem _ hx)
    obtain ⟨s1, s2⟩ := plain_set hp ns hq.1 hf.1 h.len
    rw [jF_plain hp]
    refine ⟨⟨fun q' hq' => ?_, fun hn => (by cases hn)⟩, fun hn => (by cases hn)⟩
    cases hq'
    exact ⟨h, Ext.refl _, by show ns.length ≤ _; omega, ⟨s1, fun e => by rw [s2, hq.2, hf.2]⟩, ⟨q :: L, by simp only [List.length_cons]; omega, hc, hr⟩, fun B hB _ => hB⟩
  | none =>
    have hmin : min (lv ns q) (lv ns f) = v := by omega
    have hP : PC kind hi ns [(q, f)] L := fun x y hxy hp => by
      rw [List.mem_singleton] at hxy
      cases hxy
      rw [hmin]
      have e1 : partF ns q v = ns.getD q bot := by unfold partF; exact if_pos qv
      have e2 : partF ns f v = ⟨v, f, f⟩ := by unfold partF; rw [if_neg (by show ¬ lv ns f = v; omega)]
      rw [e1, e2]
      refine ⟨hq.1, hf.1, hvh, Or.inl ?_, Or.inl ?_⟩
      · obtain ⟨r, a, b⟩ := plain_low (f := f) hk ql
        exact ⟨r, a, b.elim Or.inl (fun e => by rw [e]; exact hin)⟩
      · obtain ⟨r, a, b⟩ := plain_low (f := f) hk qh
        exact ⟨r, a, b.elim Or.inl (fun e => by rw [e]; exact hin)⟩
    obtain ⟨A, B⟩ := jF_lv (most := most) h hq hf hP hL (Or.inr ⟨hp, List.mem_singleton.2 rfl⟩)
    refine ⟨⟨fun q hq => (A.some q hq).mono (Nat.le_refl _) ?_ (Nat.le_refl _) (fun _ h => h), A.none⟩, B⟩
    simp only [List.length_singleton]; omega
theorem and_none {x y : Nat} (h : plainF 0 x y = none) : 2 ≤ x ∧ 2 ≤ y := by
  refine ⟨?_, ?_⟩
  · rcases Nat.lt_or_ge x 2 with q | q
    · obtain ⟨r, a, -⟩ := plain_low (kind := 0) (a := x) (f := y) (by omega) (by omega)
      rw [a] at h; cases h
    · exact q
  · rcases Nat.lt_or_ge y 2 with q | q
    · obtain ⟨r, a, -⟩ := plain_lowR (kind := 0) (a := y) (f := x) (by omega) (by omega)
      rw [a] at h; cases h
    · exact q
def prodL (L M : List Nat) : List (Nat × Nat) := L.flatMap fun x => M.map fun y => (x, y)
theorem prodL_len : ∀ (L M : List Nat), (prodL L M).length = L.length * M.length
  | [], M => by simp [prodL]
  | x :: r, M => by
    have := prodL_len r M
    unfold prodL at this ⊢
    rw [List.flatMap_cons, List.length_append, this, List.length_map, List.length_cons, Nat.add_mul, Nat.one_mul, Nat.add_comm]
theorem prodL_mem {L M : List Nat} {x y : Nat} : (x, y) ∈ prodL L M ↔ x ∈ L ∧ y ∈ M := by
  unfold prodL
  rw [List.mem_flatMap]
  constructor
  · rintro ⟨a, ha, hb⟩
    obtain ⟨b, hb1, hb2⟩ := List.mem_map.1 hb
    cases hb2
    exact ⟨ha, hb1⟩
  · rintro ⟨ha, hb⟩
    exact ⟨x, ha, List.mem_map.2 ⟨y, hb, rfl⟩⟩
theorem partF_in {hi : Nat} {ns : List Nd} {L : List Nat} {f : Nat} (h : In1 L f) (hz : Zo ns) (hL : Clo hi ns L) (v : Nat) : In1 L (partF ns f v).l ∧ In1 L (partF ns f v).h := by
  unfold partF
  split
  · exact ⟨(h.parts hz hL).1, (h.parts hz hL).2.1⟩
  · exact ⟨h, h⟩
/-- What two have. -/
theorem and_lv {most : Nat} {ns : List Nd} {f g a b hi : Nat} {φ ψ : Env → Bool} (h : WF ns) (hf : St ns f φ) (hg : St ns g ψ) (cf : ∃ L, L.length ≤ a ∧ Clo hi ns L ∧ In1 L f) (cg : ∃ L, L.length ≤ b ∧ Clo hi ns L ∧ In1 L g) :
    Lv most ns (jF 0 most ns f g) (fun e => φ e && ψ e) (a * b) (a + b + a * b) hi (fun _ => True) ∧ ((jF 0 most ns f g).1 = none → (jF 0 most ns f g).2 = ns) := by
  obtain ⟨L, l1, l2, l3⟩ := cf
  obtain ⟨M, m1, m2, m3⟩ := cg
  have hz := h.zo
  have hok : ∀ u v, In1 L u → In1 M v → OkP 0 (prodL L M) (L ++ M) u v := fun u v hu hv => by
    cases hp : plainF 0 u v with
    | some r =>
      refine Or.inl ⟨r, hp, ?_⟩
      rcases plain_in hp with e | e | e
      · exact Or.inl e
      · rw [e]; exact hu.mono (fun x hx => List.mem_append_left _ hx)
      · rw [e]; exact hv.mono (fun x hx => List.mem_append_right _ hx)
    | none =>
      obtain ⟨a2, b2⟩ := and_none hp
      exact Or.inr ⟨hp, prodL_mem.2 ⟨hu.resolve_left (by omega), hv.resolve_left (by omega)⟩⟩
  have hP : PC 0 hi ns (prodL L M) (L ++ M) := fun x y hxy hp => by
    obtain ⟨hx, hy⟩ := prodL_mem.1 hxy
    obtain ⟨a2, b2⟩ := and_none hp
    have p1 := partF_in (Or.inr hx) hz l2 (min (lv ns x) (lv ns y))
    have p2 := partF_in (Or.inr hy) hz m2 (min (lv ns x) (lv ns y))
    have := (l2 x hx).2.2.2 a2
    exact ⟨(l2 x hx).1, (m2 y hy).1, by omega, hok _ _ p1.1 p2.1, hok _ _ p1.2 p2.2⟩
  obtain ⟨A, B⟩ := jF_lv (most := most) h hf hg hP (l2.append m2) (hok f g l3 m3)
  have hlen : (prodL L M).length ≤ a * b := by rw [prodL_len]; exact Nat.mul_le_mul l1 m1
  refine ⟨⟨fun q hq => ((A.some q hq).mono hlen ?_ (Nat.le_refl _) (fun _ h => h)).cast (fun e => rfl), fun hn => ?_⟩, B⟩
  · rw [List.length_append]; omega
  · obtain ⟨x, y⟩ := A.none hn
    exact ⟨by omega, y⟩
/-- .. where all bits of one lie behind the other's. -/
theorem and_below {most : Nat} {ns : List Nd} {f g a b hf' hi : Nat} {φ ψ : Env → Bool} (h : WF ns) (hf : St ns f φ) (hg : St ns g ψ) (cf : ∃ L, L.length ≤ a ∧ Clo hi ns L ∧ In1 L f) (cg : ∃ L, L.length ≤ b ∧ Clo hf' ns L ∧ In1 L g) (hle : hf' ≤ lv ns f) (hhi : hf' ≤ hi) :
    Lv most ns (jF 0 most ns f g) (fun e => φ e && ψ e) b (a + b + b) hi (fun _ => True) ∧ ((jF 0 most ns f g).1 = none → (jF 0 most ns f g).2 = ns) := by
  obtain ⟨L, l1, l2, l3⟩ := cf
  obtain ⟨M, m1, m2, m3⟩ := cg
  have hz := h.zo
  have hok : ∀ v, In1 M v → OkP 0 (M.map fun y => (f, y)) (L ++ M) f v := fun v hv => by
    cases hp : plainF 0 f v with
    | some r =>
      refine Or.inl ⟨r, hp, ?_⟩
      rcases plain_in hp with e | e | e
      · exact Or.inl e
      · rw [e]; exact l3.mono (fun x hx => List.mem_append_left _ hx)
      · rw [e]; exact hv.mono (fun x hx => List.mem_append_right _ hx)
    | none =>
      obtain ⟨a2, b2⟩ := and_none hp
      exact Or.inr ⟨hp, List.mem_map.2 ⟨v, hv.resolve_left (by omega), rfl⟩⟩
  have hP : PC 0 hi ns (M.map fun y => (f, y)) (L ++ M) := fun x y hxy hp => by
    obtain ⟨y', hy, e⟩ := List.mem_map.1 hxy
    cases e
    obtain ⟨a2, b2⟩ := and_none hp
    have hv := (m2 y hy).2.2.2 b2
    have hmin : min (lv ns f) (lv ns y) = lv ns y := by omega
    rw [hmin]
    have e1 : partF ns f (lv ns y) = ⟨lv ns y, f, f⟩ := by unfold partF; rw [if_neg (by show ¬ lv ns f = lv ns y; omega)]
    have p2 := partF_in (Or.inr hy) hz m2 (lv ns y)
    rw [e1]
    exact ⟨hf.1, (m2 y hy).1, by omega, hok _ p2.1, hok _ p2.2⟩
  obtain ⟨A, B⟩ := jF_lv (most := most) h hf hg hP (l2.append (m2.mono hhi)) (hok g m3)
  have hlen : (M.map fun y => (f, y)).length ≤ b := by rw [List.length_map]; exact m1
  refine ⟨⟨fun q hq => ((A.some q hq).mono hlen ?_ (Nat.le_refl _) (fun _ h => h)).cast (fun e => rfl), fun hn => ?_⟩, B⟩
  · rw [List.length_append]; omega
  · obtain ⟨x, y⟩ := A.none hn
    exact ⟨by omega, y⟩
/-- One alone of two. -/
theorem xor_lv {most : Nat} {ns : List Nd} {f g a b hi : Nat} {φ ψ : Env → Bool} (h : WF ns) (hf : St ns f φ) (hg : St ns g ψ) (cf : ∃ L, L.length ≤ a ∧ Clo hi ns L ∧ In1 L f) (cg : ∃ L, L.length ≤ b ∧ Clo hi ns L ∧ In1 L g) :
    Lv most ns (jF 2 most ns f g) (fun e => φ e != ψ e) ((a + 2) * (b + 2)) (a + b + (a + 2) * (b + 2)) hi (fun _ => True) ∧ ((jF 2 most ns f g).1 = none → (jF 2 most ns f g).2 = ns) := by
  obtain ⟨L, l1, l2, l3⟩ := cf
  obtain ⟨M, m1, m2, m3⟩ := cg
  have hz := h.zo
  have mem : ∀ {L : List Nat} {u : Nat}, In1 L u ↔ u ∈ 0 :: 1 :: L := fun {L u} => by
    simp only [In1, List.mem_cons]
    constructor
    · rintro (q | q)
      · have : u = 0 ∨ u = 1 := by omega
        rcases this with r | r
        · exact Or.inl r
        · exact Or.inr (Or.inl r)
      · exact Or.inr (Or.inr q)
    · rintro (q | q | q)
      · exact Or.inl (by omega)
      · exact Or.inl (by omega)
      · exact Or.inr q
  have hok : ∀ u v, In1 L u → In1 M v → OkP 2 (prodL (0 :: 1 :: L) (0 :: 1 :: M)) (L ++ M) u v := fun u v hu hv => by
    cases hp : plainF 2 u v with
    | some r =>
      refine Or.inl ⟨r, hp, ?_⟩
      rcases plain_in hp with e | e | e
      · exact Or.inl e
      · rw [e]; exact hu.mono (fun x hx => List.mem_append_left _ hx)
      · rw [e]; exact hv.mono (fun x hx => List.mem_append_right _ hx)
    | none => exact Or.inr ⟨hp, prodL_mem.2 ⟨mem.1 hu, mem.1 hv⟩⟩
  have hP : PC 2 hi ns (prodL (0 :: 1 :: L) (0 :: 1 :: M)) (L ++ M) := fun x y hxy hp => by
    obtain ⟨hx, hy⟩ := prodL_mem.1 hxy
    have ix := mem.2 hx
    have iy := mem.2 hy
    have p1 := partF_in ix hz l2 (min (lv ns x) (lv ns y))
    have p2 := partF_in iy hz m2 (min (lv ns x) (lv ns y))
    have hne : 2 ≤ x ∨ 2 ≤ y := by
      rcases Nat.lt_or_ge x 2 with q | q
      · rcases Nat.lt_or_ge y 2 with r | r
        · exact absurd hp (plain_ends (by omega) (by omega))
        · exact Or.inr r
      · exact Or.inl q
    refine ⟨ix.lt hz l2, iy.lt hz m2, ?_, hok _ _ p1.1 p2.1, hok _ _ p1.2 p2.2⟩
    rcases hne with q | q
    · have := (ix.parts hz l2).2.2 q; omega
    · have := (iy.parts hz m2).2.2 q; omega
  obtain ⟨A, B⟩ := jF_lv (most := most) h hf hg hP (l2.append m2) (hok f g l3 m3)
  have hlen : (prodL (0 :: 1 :: L) (0 :: 1 :: M)).length ≤ (a + 2) * (b + 2) := by rw [prodL_len]; exact Nat.mul_le_mul (by simp only [List.length_cons]; omega) (by simp only [List.length_cons]; omega)
  refine ⟨⟨fun q hq => ((A.some q hq).mono hlen ?_ (Nat.le_refl _) (fun _ h => h)).cast (fun e => rfl), fun hn => ?_⟩, B⟩
  · rw [List.length_append]; omega
  · obtain ⟨x, y⟩ := A.none hn
    exact ⟨by omega, y⟩
end Go.Proofs.Ytggcbklififcgab
