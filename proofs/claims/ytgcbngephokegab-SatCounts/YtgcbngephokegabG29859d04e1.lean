/- Texts joined, in their order: BH, BL, AS. -/
import Derived.Test.YtgcbngephokegabGe31e430b94
import Derived.Test.YtgcbngephokegabG292254fd1d
/- Calls on arenas as functions of lists: whole or not at all; sets made of each other, one behind the other. No program in sight. -/
namespace Go.Proofs.Ytgcbngephokegab
set_option linter.unusedVariables false

abbrev Env := Nat → Bool
/-- A set that there is. -/
def Is (ns : List Nd) (φ : Env → Bool) : Prop := ∃ q, q < ns.length ∧ ∀ e, ev ns e q = φ e
theorem Is.ext {ns ns' : List Nd} {φ : Env → Bool} (h : Is ns φ) (hx : Ext ns ns') (hw : WF ns) (hw' : WF ns') : Is ns' φ := by
  obtain ⟨q, hq, he⟩ := h
  exact ⟨q, by have := hx.len; omega, fun e => by rw [hx.ev hw hw' e q hq, he]⟩
/-- What a call that makes the set φ leaves; Φ: all sets that it makes on its way; bd: how many nodes at most. -/
structure Got (most : Nat) (ns ns' : List Nd) (φ : Env → Bool) (r : Option Nat) (Φ : List (Env → Bool)) (D : (Nat → Bool) → Prop) (bd : (Nat → Bool) → Nat) : Prop where
  wf : WF ns'
  ext : Ext ns ns'
  room : ns'.length ≤ max most ns.length
  nil : r = none → ns' = ns
  set : ∀ q, r = some q → q < ns'.length ∧ ∀ e, ev ns' e q = φ e
  made : r ≠ none → ∀ ψ ∈ Φ, Is ns' ψ
  old : (∀ ψ ∈ Φ, Is ns ψ) → ns' = ns ∧ r ≠ none
  few : ∀ B, Bits B ns → D B → Bits B ns' ∧ ns'.length ≤ ns.length + bd B ∧ (r = none → most ≤ ns.length + bd B)
/-- Whole or not at all. -/
def wholeF (ns : List Nd) (R : Option Nat × List Nd) : Option Nat × List Nd := (R.1, if R.1 = none then ns else R.2)
def pw (B : Nat → Bool) : Nat := 2 ^ cB B 0
theorem pw_le {B : Nat → Bool} (L : Nat) : 2 ^ cB B L ≤ pw B := Nat.pow_le_pow_right (by omega) (cB_mono (Nat.zero_le _))
theorem pw_pos (B : Nat → Bool) : 1 ≤ pw B := Nat.two_pow_pos _
theorem got_made {most : Nat} {ns : List Nd} (hw : WF ns) {φ : Env → Bool} {R : Option Nat × List Nd} {L : Nat} (h : Made most ns R.2 φ R.1 L) :
    Got most ns (wholeF ns R).2 φ (wholeF ns R).1 [φ] (fun _ => True) pw := by
  obtain ⟨r, ns'⟩ := R
  simp only at h
  cases r with
  | none =>
    refine ⟨hw, Ext.refl _, ?_, fun _ => rfl, fun q hq => (by cases hq), fun q => absurd rfl q, fun q => ?_, fun B hB _ => ⟨hB, ?_, fun _ => ?_⟩⟩
    · show ns.length ≤ _; omega
    · exact absurd rfl (h.old (q φ (List.mem_singleton.2 rfl))).2
    · show ns.length ≤ _; omega
    · have a := h.full rfl
      have b := (h.few B hB).2
      have c := pw_le (B := B) L
      omega
  | some q =>
    refine ⟨h.wf, h.ext, h.room, fun e => (by cases e), h.set, fun _ ψ hψ => ?_, fun q0 => h.old (q0 φ (List.mem_singleton.2 rfl)), fun B hB _ => ⟨(h.few B hB).1, ?_, fun e => (by cases e)⟩⟩
    · rw [List.mem_singleton.1 hψ]; exact ⟨q, h.set q rfl⟩
    · have b := (h.few B hB).2
      have c := pw_le (B := B) L
      show ns'.length ≤ _
      omega
/-- Two sets joined. -/
def joinF (kind most : Nat) (ns : List Nd) (f g : Nat) : Option Nat × List Nd := ((pairF kind most 105 ns [] f g).1, (pairF kind most 105 ns [] f g).2.1)
theorem joinF_made (kind most : Nat) {ns : List Nd} {f g : Nat} (h : WF ns) (hf : f < ns.length) (hg : g < ns.length) :
    Made most ns (joinF kind most ns f g).2 (fun e => opB kind (ev ns e f) (ev ns e g)) (joinF kind most ns f g).1 (min (lv ns f) (lv ns g)) :=
  (pairF_made kind most 105 ns [] f g h ⟨fun p hp => (by cases hp), List.nodup_nil⟩ hf hg (by omega)).1
def jF (kind most : Nat) (ns : List Nd) (f g : Nat) : Option Nat × List Nd := wholeF ns (joinF kind most ns f g)
theorem got_join (kind most : Nat) {ns : List Nd} {f g : Nat} (h : WF ns) (hf : f < ns.length) (hg : g < ns.length) :
    Got most ns (jF kind most ns f g).2 (fun e => opB kind (ev ns e f) (ev ns e g)) (jF kind most ns f g).1 [fun e => opB kind (ev ns e f) (ev ns e g)] (fun _ => True) pw :=
  got_made h (joinF_made kind most h hf hg)
/-- A bit held. -/
def heldF (bit : Nat) (on : Bool) (most : Nat) (ns : List Nd) (f : Nat) : Option Nat × List Nd := ((setF bit on most 105 ns [] f).1, (setF bit on most 105 ns [] f).2.1)
def rF (bit : Nat) (on : Bool) (most : Nat) (ns : List Nd) (f : Nat) : Option Nat × List Nd := wholeF ns (heldF bit on most ns f)
theorem got_held (bit : Nat) (on : Bool) (most : Nat) (hbit : bit < 104) {ns : List Nd} {f : Nat} (h : WF ns) (hf : f < ns.length) :
    Got most ns (rF bit on most ns f).2 (fun e => ev ns (hld e bit on) f) (rF bit on most ns f).1 [fun e => ev ns (hld e bit on) f] (fun _ => True) pw :=
  got_made h (setF_made bit on most hbit 105 ns [] f h ⟨fun p hp => (by cases hp), List.nodup_nil⟩ hf (by omega)).1
/-- Some bits so. -/
def cF (most : Nat) (ns : List Nd) (l : List (Nat × Bool)) : Option Nat × List Nd := wholeF ns (cubeF most ns l)
theorem got_cube (most : Nat) {ns : List Nd} (h : WF ns) (l : List (Nat × Bool)) (hr : l.Pairwise (fun a b => a.1 < b.1)) (h104 : ∀ p ∈ l, p.1 < 104) :
    Got most ns (cF most ns l).2 (allB l) (cF most ns l).1 [allB l] (fun B => ∀ p ∈ l, B p.1 = true) (fun _ => l.length) := by
  have H := cubeF_made most h l hr h104
  unfold cF
  obtain ⟨r, ns', e⟩ : ∃ r ns', cubeF most ns l = (r, ns') := ⟨_, _, rfl⟩
  rw [e] at H ⊢
  obtain ⟨w, x, room, full, set, old, len, bits⟩ := H
  simp only at w x room full set old len bits
  cases r with
  | none =>
    refine ⟨h, Ext.refl _, ?_, fun _ => rfl, fun q hq => (by cases hq), fun q => absurd rfl q, fun q => ?_, fun B hB _ => ⟨hB, ?_, fun _ => ?_⟩⟩
    · show ns.length ≤ _; omega
    · exact absurd rfl (old (q _ (List.mem_singleton.2 rfl))).2
    · show ns.length ≤ _; omega
    · have a := full rfl; omega
  | some q =>
    refine ⟨w, x, room, fun e => (by cases e), fun p hp => ⟨(set p hp).1, (set p hp).2.2⟩, fun _ ψ hψ => ?_, fun q0 => old (q0 _ (List.mem_singleton.2 rfl)), fun B hB hD => ⟨bits B hB hD, len, fun e => (by cases e)⟩⟩
    rw [List.mem_singleton.1 hψ]; exact ⟨q, (set q rfl).1, (set q rfl).2.2⟩
/-- Three joins, one behind the other. -/
def iteR (most : Nat) (ns : List Nd) (f g h : Nat) : Option Nat × List Nd :=
  match joinF 0 most ns f g with
  | (none, ns1) => (none, ns1)
  | (some x, ns1) =>
    match joinF 3 most ns1 h f with
    | (none, ns2) => (none, ns2)
    | (some y, ns2) => joinF 1 most ns2 x y
def iF (most : Nat) (ns : List Nd) (f g h : Nat) : Option Nat × List Nd := wholeF ns (iteR most ns f g h)
def iteB (a b c : Bool) : Bool := a && b || c && !a
theorem got_ite (most : Nat) {ns : List Nd} {f g h : Nat} (hw : WF ns) (hf : f < ns.length) (hg : g < ns.length) (hh : h < ns.length) :
    Got most ns (iF most ns f g h).2 (fun e => iteB (ev ns e f) (ev ns e g) (ev ns e h)) (iF most ns f g h).1
      [fun e => ev ns e f && ev ns e g, fun e => ev ns e h && !ev ns e f, fun e => iteB (ev ns e f) (ev ns e g) (ev ns e h)] (fun _ => True) (fun B => 3 * pw B) ∧
    WF (iteR most ns f g h).2 ∧ Ext ns (iteR most ns f g h).2 := by
  have o0 : ∀ a b, opB 0 a b = (a && b) := fun _ _ => rfl
  have o1 : ∀ a b, opB 1 a b = (a || b) := fun _ _ => rfl
  have o3 : ∀ a b, opB 3 a b = (a && !b) := fun _ _ => rfl
  have M1 := joinF_made 0 most hw hf hg
  obtain ⟨r1, ns1, e1⟩ : ∃ r ns', joinF 0 most ns f g = (r, ns') := ⟨_, _, rfl⟩
  rw [e1] at M1
  simp only at M1
  have few1 : ∀ B, Bits B ns → Bits B ns1 ∧ ns1.length ≤ ns.length + pw B := fun B hB => by
    obtain ⟨a, b⟩ := M1.few B hB
    have c := pw_le (B := B) (min (lv ns f) (lv ns g))
    exact ⟨a, by omega⟩
  cases r1 with
  | none =>
    have e : iteR most ns f g h = (none, ns1) := by unfold iteR; rw [e1]
    unfold iF
    rw [e]
    refine ⟨⟨hw, Ext.refl _, ?_, fun _ => rfl, fun q hq => (by cases hq), fun q => absurd rfl q, fun q => ?_, fun B hB _ => ⟨hB, ?_, fun _ => ?_⟩⟩, M1.wf, M1.ext⟩
    · show ns.length ≤ _; omega
    · exact absurd rfl (M1.old (q (fun e => ev ns e f && ev ns e g) (List.mem_cons_self ..))).2
    · show ns.length ≤ _; omega
    · have a := M1.full rfl
      have b := (few1 B hB).2
      have := pw_pos B
      omega
  | some x =>
    obtain ⟨hx, ex⟩ := M1.set x rfl
    have l1 := M1.ext.len
    have M2 := joinF_made 3 most (ns := ns1) (f := h) (g := f) M1.wf (by omega) (by omega)
    obtain ⟨r2, ns2, e2⟩ : ∃ r ns', joinF 3 most ns1 h f = (r, ns') := ⟨_, _, rfl⟩
    rw [e2] at M2
    simp only at M2
    have few2 : ∀ B, Bits B ns → Bits B ns2 ∧ ns2.length ≤ ns.length + 2 * pw B := fun B hB => by
      obtain ⟨a0, b0⟩ := few1 B hB
      obtain ⟨a, b⟩ := M2.few B a0
      have c := pw_le (B := B) (min (lv ns1 h) (lv ns1 f))
      exact ⟨a, by omega⟩
    have s2 : ∀ e, opB 3 (ev ns1 e h) (ev ns1 e f) = (ev ns e h && !ev ns e f) := fun e => by
      rw [M1.ext.ev hw M1.wf e _ hh, M1.ext.ev hw M1.wf e _ hf, o3]
    have old2 : (∀ ψ ∈ [fun e => ev ns e f && ev ns e g, fun e => ev ns e h && !ev ns e f, fun e => iteB (ev ns e f) (ev ns e g) (ev ns e h)], Is ns ψ) → ns2 = ns ∧ r2 ≠ none := fun q => by
      obtain ⟨a, -⟩ := M1.old (q (fun e => ev ns e f && ev ns e g) (List.mem_cons_self ..))
      obtain ⟨b, c⟩ := M2.old (by
        obtain ⟨z, hz, ez⟩ := q (fun e => ev ns e h && !ev ns e f) (by simp)
        exact ⟨z, by rw [a]; exact hz, fun e => (by have := ez e; rw [s2, a]; exact this)⟩)
      exact ⟨b.trans a, c⟩
    cases r2 with
    | none =>
      have e : iteR most ns f g h = (none, ns2) := by unfold iteR; rw [e1]; simp only; rw [e2]
      unfold iF
      rw [e]
      refine ⟨⟨hw, Ext.refl _, ?_, fun _ => rfl, fun q hq => (by cases hq), fun q => absurd rfl q, fun q => ?_, fun B hB _ => ⟨hB, ?_, fun _ => ?_⟩⟩, M2.wf, M1.ext.trans M2.ext⟩
      · show ns.length ≤ _; omega
      · exact absurd rfl (old2 q).2
      · show ns.length ≤ _; omega
      · have a := M2.full rfl
        have b := (few2 B hB).2
        have := pw_pos B
        omega
    | some y =>
      obtain ⟨hy, ey⟩ := M2.set y rfl
      have l2 := M2.ext.len
      have M3 := joinF_made 1 most (ns := ns2) (f := x) (g := y) M2.wf (by omega) hy
      obtain ⟨r3, ns3, e3⟩ : ∃ r ns', joinF 1 most ns2 x y = (r, ns') := ⟨_, _, rfl⟩
      rw [e3] at M3
      simp only at M3
      have few3 : ∀ B, Bits B ns → Bits B ns3 ∧ ns3.length ≤ ns.length + 3 * pw B := fun B hB => by
        obtain ⟨a0, b0⟩ := few2 B hB
        obtain ⟨a, b⟩ := M3.few B a0
        have c := pw_le (B := B) (min (lv ns2 x) (lv ns2 y))
        exact ⟨a, by omega⟩
      have x2 : ∀ e, ev ns2 e x = (ev ns e f && ev ns e g) := fun e => by rw [M2.ext.ev M1.wf M2.wf e _ hx, ex, o0]
      have y2 : ∀ e, ev ns2 e y = (ev ns e h && !ev ns e f) := fun e => by rw [ey, s2]
      have s3 : ∀ e, opB 1 (ev ns2 e x) (ev ns2 e y) = iteB (ev ns e f) (ev ns e g) (ev ns e h) := fun e => by
        rw [x2, y2, o1]; rfl
      have old3 : (∀ ψ ∈ [fun e => ev ns e f && ev ns e g, fun e => ev ns e h && !ev ns e f, fun e => iteB (ev ns e f) (ev ns e g) (ev ns e h)], Is ns ψ) → ns3 = ns ∧ r3 ≠ none := fun q => by
        obtain ⟨a, -⟩ := old2 q
        obtain ⟨b, c⟩ := M3.old (by
          obtain ⟨z, hz, ez⟩ := q (fun e => iteB (ev ns e f) (ev ns e g) (ev ns e h)) (by simp)
          exact ⟨z, by rw [a]; exact hz, fun e => (by have := ez e; rw [s3, a]; exact this)⟩)
        exact ⟨b.trans a, c⟩
      have e : iteR most ns f g h = (r3, ns3) := by unfold iteR; rw [e1]; simp only; rw [e2]; simp only; rw [e3]
      have room1 := M1.room
      have room2 := M2.room
      have room3 := M3.room
      unfold iF
      rw [e]
      have hx3 := (M1.ext.trans M2.ext).trans M3.ext
      cases r3 with
      | none =>
        refine ⟨⟨hw, Ext.refl _, ?_, fun _ => rfl, fun q hq => (by cases hq), fun q => absurd rfl q, fun q => ?_, fun B hB _ => ⟨hB, ?_, fun _ => ?_⟩⟩, M3.wf, hx3⟩
        · show ns.length ≤ _; omega
        · exact absurd rfl (old3 q).2
        · show ns.length ≤ _; omega
        · have a := M3.full rfl
          have b := (few3 B hB).2
          omega
      | some z =>
        obtain ⟨hz, ez⟩ := M3.set z rfl
        have l3 := M3.ext.len
        refine ⟨⟨M3.wf, hx3, ?_, fun q => (by cases q), fun q hq => ?_, fun _ ψ hψ => ?_, old3, fun B hB _ => ⟨(few3 B hB).1, (few3 B hB).2, fun q => (by cases q)⟩⟩, M3.wf, hx3⟩
        · show ns3.length ≤ _; omega
        · cases hq; exact ⟨hz, fun e => by rw [← s3]; exact ez e⟩
        · show Is ns3 ψ
          simp only [List.mem_cons, List.not_mem_nil, or_false] at hψ
          rcases hψ with rfl | rfl | rfl
          · exact ⟨x, by omega, fun e => by rw [M3.ext.ev M2.wf M3.wf e _ (by omega), x2]⟩
          · exact ⟨y, by omega, fun e => by rw [M3.ext.ev M2.wf M3.wf e _ hy, y2]⟩
          · exact ⟨z, hz, fun e => (by have := ez e; rw [s3] at this; exact this)⟩
/-- How a set is made of ones ahead. -/
structure Ex where
  k : Int
  a : Int
  b : Int
  c : Int
  v : Int
  on : Bool
/-- May it be, as the i-th. -/
def Ex.Ok (x : Ex) (i : Nat) : Prop := 0 ≤ x.k ∧ x.k ≤ 9 ∧ (3 ≤ x.k → 0 ≤ x.a ∧ x.a < i ∧ 0 ≤ x.b ∧ x.b < i ∧ 0 ≤ x.c ∧ x.c < i) ∧ 0 ≤ x.v ∧ x.v < 104
def stepF (most : Nat) (ns : List Nd) (o : List Nat) (x : Ex) : Option Nat × List Nd :=
  if x.k = 1 then (some 1, ns) else
  if x.k = 2 then cF most ns [(x.v.toNat, x.on)] else
  if 3 ≤ x.k ∧ x.k ≤ 6 then jF (x.k - 3).toNat most ns (o.getD x.a.toNat 0) (o.getD x.b.toNat 0) else
  if x.k = 7 then jF 3 most ns 1 (o.getD x.a.toNat 0) else
  if x.k = 8 then rF x.v.toNat x.on most ns (o.getD x.a.toNat 0) else
  if x.k = 9 then iF most ns (o.getD x.a.toNat 0) (o.getD x.b.toNat 0) (o.getD x.c.toNat 0) else (some 0, ns)
abbrev Sem := List (Env → Bool)
def nth (s : Sem) (i : Int) : Env → Bool := s.getD i.toNat (fun _ => false)
/-- Which headers it has. -/
def semE (s : Sem) (x : Ex) : Env → Bool :=
  if x.k = 1 then fun _ => true else
  if x.k = 2 then fun e => e x.v.toNat == x.on else
  if 3 ≤ x.k ∧ x.k ≤ 6 then fun e => opB (x.k - 3).toNat (nth s x.a e) (nth s x.b e) else
  if x.k = 7 then fun e => !nth s x.a e else
  if x.k = 8 then fun e => nth s x.a (hld e x.v.toNat x.on) else
  if x.k = 9 then fun e => iteB (nth s x.a e) (nth s x.b e) (nth s x.c e) else fun _ => false
/-- All sets that are made on the way. -/
def wayE (s : Sem) (x : Ex) : List (Env → Bool) :=
  if x.k = 9 then [fun e => nth s x.a e && nth s x.b e, fun e => nth s x.c e && !nth s x.a e, semE s x] else [semE s x]
/-- The sets that were made stand for these. -/
structure Stand (ns : List Nd) (o : List Nat) (s : Sem) : Prop where
  len : o.length = s.length
  at' : ∀ i, i < s.length → o.getD i 0 < ns.length ∧ ∀ e, ev ns e (o.getD i 0) = s.getD i (fun _ => false) e
theorem Stand.ext {ns ns' : List Nd} {o : List Nat} {s : Sem} (h : Stand ns o s) (hx : Ext ns ns') (hw : WF ns) (hw' : WF ns') : Stand ns' o s :=
  ⟨h.len, fun i hi => by
    obtain ⟨a, b⟩ := h.at' i hi
    exact ⟨by have := hx.len; omega, fun e => by rw [hx.ev hw hw' e _ a, b]⟩⟩
theorem Stand.nil (ns : List Nd) : Stand ns [] [] := ⟨rfl, fun i hi => by simp at hi⟩
theorem Stand.push {ns : List Nd} {o : List Nat} {s : Sem} (h : Stand ns o s) {q : Nat} {φ : Env → Bool} (hq : q < ns.length) (he : ∀ e, ev ns e q = φ e) : Stand ns (o ++ [q]) (s ++ [φ]) := by
  refine ⟨by simp [h.len], fun i hi => ?_⟩
  rcases Nat.lt_or_ge i s.length with r | r
  · have e1 : (o ++ [q]).getD i 0 = o.getD i 0 := by rw [List.getD_eq_getElem?_getD, List.getD_eq_getElem?_getD, List.getElem?_append_left (by rw [h.len]; exact r)]
    have e2 : (s ++ [φ]).getD i (fun _ => false) = s.getD i (fun _ => false) := by rw [List.getD_eq_getElem?_getD, List.getD_eq_getElem?_getD, List.getElem?_append_left r]
    rw [e1, e2]; exact h.at' i r
  · have hi' : i = s.length := by simp at hi; omega
    subst hi'
    have e1 : (o ++ [q]).getD s.length 0 = q := by rw [List.getD_eq_getElem?_getD, ← h.len, List.getElem?_append_right (Nat.le_refl _)]; simp
    have e2 : (s ++ [φ]).getD s.length (fun _ => false) = φ := by rw [List.getD_eq_getElem?_getD, List.getElem?_append_right (Nat.le_refl _)]; simp
    rw [e1, e2]; exact ⟨hq, he⟩
theorem Got.id {most : Nat} {ns : List Nd} (h : WF ns) {φ : Env → Bool} {q : Nat} {D : (Nat → Bool) → Prop} {bd : (Nat → Bool) → Nat} (hq : q < ns.length) (he : ∀ e, ev ns e q = φ e) : Got most ns ns φ (some q) [φ] D bd :=
  ⟨h, Ext.refl _, (by omega), fun e => (by cases e), fun p hp => (by cases hp; exact ⟨hq, he⟩), fun _ ψ hψ => (by rw [List.mem_singleton.1 hψ]; exact ⟨q, hq, he⟩), fun _ => ⟨rfl, (by simp)⟩, fun B hB _ => ⟨hB, (by omega), fun e => (by cases e)⟩⟩
theorem Got.mono {most : Nat} {ns ns' : List Nd} {φ : Env → Bool} {r : Option Nat} {Φ : List (Env → Bool)} {D D' : (Nat → Bool) → Prop} {bd bd' : (Nat → Bool) → Nat} (h : Got most ns ns' φ r Φ D bd) (hD : ∀ B, D' B → D B) (hb : ∀ B, bd B ≤ bd' B) : Got most ns ns' φ r Φ D' bd' :=
  ⟨h.wf, h.ext, h.room, h.nil, h.set, h.made, h.old, fun B hB hd => by
    obtain ⟨a, b, c⟩ := h.few B hB (hD B hd)
    have := hb B
    exact ⟨a, by omega, fun e => by have := c e; omega⟩⟩
theorem Got.cast {most : Nat} {ns ns' : List Nd} {φ φ' : Env → Bool} {r : Option Nat} {Φ Φ' : List (Env → Bool)} {D : (Nat → Bool) → Prop} {bd : (Nat → Bool) → Nat} (h : Got most ns ns' φ r Φ D bd) (e : φ = φ') (e' : Φ = Φ') : Got most ns ns' φ' r Φ' D bd := by
  subst e; subst e'; exact h
/-- What one expression leaves. -/
theorem step_got {most : Nat} {ns : List Nd} {o : List Nat} {s : Sem} (h : WF ns) (hs : Stand ns o s) {x : Ex} (hx : x.Ok s.length) :
    Got most ns (stepF most ns o x).2 (semE s x) (stepF most ns o x).1 (wayE s x) (fun B => x.k = 2 → B x.v.toNat = true) (fun B => 3 * pw B) := by
  obtain ⟨k0, k9, hk, v0, v1⟩ := hx
  have h2 := h.len
  have at_ : ∀ i : Int, 0 ≤ i → i < s.length → o.getD i.toNat 0 < ns.length ∧ (fun e => ev ns e (o.getD i.toNat 0)) = nth s i := fun i h0 h1 => by
    obtain ⟨p, q⟩ := hs.at' i.toNat (by omega)
    exact ⟨p, funext q⟩
  have pp : ∀ B, pw B ≤ 3 * pw B := fun B => by omega
  unfold stepF semE wayE
  by_cases c1 : x.k = 1
  · have : ¬ x.k = 9 := by omega
    unfold semE
    simp only [if_pos c1, if_neg this]
    exact Got.id h (by omega) (fun e => rfl)
  by_cases c2 : x.k = 2
  · have n9 : ¬ x.k = 9 := by omega
    unfold semE
    simp only [if_neg c1, if_pos c2, if_neg n9]
    have G := got_cube most h [(x.v.toNat, x.on)] (by simp) (fun p hp => by rw [List.mem_singleton.1 hp]; show x.v.toNat < 104; omega)
    have ea : allB [(x.v.toNat, x.on)] = fun e => e x.v.toNat == x.on := by funext e; simp [allB]
    refine (G.mono (fun B hB p hp => ?_) (fun B => ?_)).cast ea (by rw [ea])
    · rw [List.mem_singleton.1 hp]; exact hB c2
    · have := pw_pos B; show 1 ≤ _; omega
  by_cases c3 : 3 ≤ x.k ∧ x.k ≤ 6
  · have n9 : ¬ x.k = 9 := by omega
    obtain ⟨a0, a1, b0, b1, -⟩ := hk c3.1
    unfold semE
    simp only [if_neg c1, if_neg c2, if_pos c3, if_neg n9]
    obtain ⟨p, p'⟩ := at_ x.a a0 a1
    obtain ⟨q, q'⟩ := at_ x.b b0 b1
    have ea : (fun e => opB (x.k - 3).toNat (ev ns e (o.getD x.a.toNat 0)) (ev ns e (o.getD x.b.toNat 0))) = fun e => opB (x.k - 3).toNat (nth s x.a e) (nth s x.b e) := by
      funext e; rw [← congrFun p' e, ← congrFun q' e]
    exact ((got_join (x.k - 3).toNat most h p q).mono (fun _ _ => trivial) pp).cast ea (by rw [ea])
  by_cases c7 : x.k = 7
  · have n9 : ¬ x.k = 9 := by omega
    obtain ⟨a0, a1, -⟩ := hk (by omega)
    unfold semE
    simp only [if_neg c1, if_neg c2, if_neg c3, if_pos c7, if_neg n9]
    obtain ⟨p, p'⟩ := at_ x.a a0 a1
    have ea : (fun e => opB 3 (ev ns e 1) (ev ns e (o.getD x.a.toNat 0))) = fun e => !nth s x.a e := by
      funext e; rw [← congrFun p' e, ev_one]; simp [opB]
    exact ((got_join 3 most h (f := 1) (by omega) p).mono (fun _ _ => trivial) pp).cast ea (by rw [ea])
  by_cases c8 : x.k = 8
  · have n9 : ¬ x.k = 9 := by omega
    obtain ⟨a0, a1, -⟩ := hk (by omega)
    unfold semE
    simp only [if_neg c1, if_neg c2, if_neg c3, if_neg c7, if_pos c8, if_neg n9]
    obtain ⟨p, p'⟩ := at_ x.a a0 a1
    have ea : (fun e => ev ns (hld e x.v.toNat x.on) (o.getD x.a.toNat 0)) = fun e => nth s x.a (hld e x.v.toNat x.on) := by
      funext e; rw [← congrFun p' _]
    exact ((got_held x.v.toNat x.on most (by omega) h p).mono (fun _ _ => trivial) pp).cast ea (by rw [ea])
  by_cases c9 : x.k = 9
  · obtain ⟨a0, a1, b0, b1, d0, d1⟩ := hk (by omega)
    unfold semE
    simp only [if_neg c1, if_neg c2, if_neg c3, if_neg c7, if_neg c8, if_pos c9]
    obtain ⟨p, p'⟩ := at_ x.a a0 a1
    obtain ⟨q, q'⟩ := at_ x.b b0 b1
    obtain ⟨r, r'⟩ := at_ x.c d0 d1
    have ea : ∀ e, ev ns e (o.getD x.a.toNat 0) = nth s x.a e := fun e => congrFun p' e
    have eb : ∀ e, ev ns e (o.getD x.b.toNat 0) = nth s x.b e := fun e => congrFun q' e
    have ec : ∀ e, ev ns e (o.getD x.c.toNat 0) = nth s x.c e := fun e => congrFun r' e
    refine ((got_ite most h p q r).1.mono (fun _ _ => trivial) (fun _ => Nat.le_refl _)).cast ?_ ?_
    · funext e; rw [ea, eb, ec]
    · simp only [ea, eb, ec]
  · have n9 : ¬ x.k = 9 := c9
    unfold semE
    simp only [if_neg c1, if_neg c2, if_neg c3, if_neg c7, if_neg c8, if_neg c9]
    exact Got.id h (by omega) (fun e => rfl)
/-- All of them, one behind the other. -/
def mkF (most : Nat) : List Nd → List Nat → List Ex → List Nat × Bool × List Nd
  | ns, o, [] => (o, true, ns)
  | ns, o, x :: r =>
    match stepF most ns o x with
    | (none, ns1) => (o, false, ns1)
    | (some q, ns1) => mkF most ns1 (o ++ [q]) r
def semL : Sem → List Ex → Sem
  | s, [] => s
  | s, x :: r => semL (s ++ [semE s x]) r
theorem semL_len : ∀ (l : List Ex) (s : Sem), (semL s l).length = s.length + l.length
  | [], s => rfl
  | x :: r, s => by rw [semL, semL_len r]; simp; omega
/-- May they be, from the i-th on. -/
def OkL : Nat → List Ex → Prop
  | _, [] => True
  | i, x :: r => x.Ok i ∧ OkL (i + 1) r
/-- All sets that are made on the way are there. -/
def HaveL (ns : List Nd) : Sem → List Ex → Prop
  | _, [] => True
  | s, x :: r => (∀ ψ ∈ wayE s x, Is ns ψ) ∧ HaveL ns (s ++ [semE s x]) r
theorem HaveL.ext {ns ns' : List Nd} (hx : Ext ns ns') (hw : WF ns) (hw' : WF ns') : ∀ {l : List Ex} {s : Sem}, HaveL ns s l → HaveL ns' s l
  | [], _, h => trivial
  | x :: r, s, h => ⟨fun ψ hψ => (h.1 ψ hψ).ext hx hw hw', HaveL.ext hx hw hw' h.2⟩
/-- What they leave, in whatever room. -/
theorem mk_any (most : Nat) : ∀ (l : List Ex) (ns : List Nd) (o : List Nat) (s : Sem), WF ns → Stand ns o s → OkL s.length l →
    WF (mkF most ns o l).2.2 ∧ Ext ns (mkF most ns o l).2.2 ∧ (mkF most ns o l).2.2.length ≤ max most ns.length ∧
    ((mkF most ns o l).2.1 = true → Stand (mkF most ns o l).2.2 (mkF most ns o l).1 (semL s l) ∧ HaveL (mkF most ns o l).2.2 s l) ∧ (HaveL ns s l → (mkF most ns o l).2.2 = ns ∧ (mkF most ns o l).2.1 = true) ∧
    (mkF most ns o l).1.length ≤ o.length + l.length ∧
    ∀ B c, Bits B ns → (∀ x ∈ l, x.k = 2 → B x.v.toNat = true) → pw B ≤ c → Bits B (mkF most ns o l).2.2 ∧ (mkF most ns o l).2.2.length ≤ ns.length + l.length * (3 * c) ∧ (ns.length + l.length * (3 * c) < most → (mkF most ns o l).2.1 = true)
  | [], ns, o, s, hw, hs, _ => by
    refine ⟨hw, Ext.refl _, ?_, fun _ => ⟨hs, trivial⟩, fun _ => ⟨rfl, rfl⟩, Nat.le_refl _, fun B c hB _ _ => ⟨hB, ?_, fun _ => rfl⟩⟩
    · show ns.length ≤ _; omega
    · show ns.length ≤ _; omega
  | x :: r, ns, o, s, hw, hs, hok => by
    have G := step_got (most := most) hw hs hok.1
    obtain ⟨q, ns1, e1⟩ : ∃ q ns1, stepF most ns o x = (q, ns1) := ⟨_, _, rfl⟩
    rw [e1] at G
    simp only at G
    cases q with
    | none =>
      have e : mkF most ns o (x :: r) = (o, false, ns1) := by unfold mkF; rw [e1]
      rw [e]
      refine ⟨G.wf, G.ext, G.room, fun q => (by cases q), fun q => absurd rfl (G.old q.1).2, by simp, fun B c hB hl hc => ?_⟩
      obtain ⟨a, b, d⟩ := G.few B hB (hl x (List.mem_cons_self ..))
      have := d rfl
      have e2 : (x :: r).length * (3 * c) = 3 * c + r.length * (3 * c) := by rw [List.length_cons, Nat.add_mul, Nat.one_mul, Nat.add_comm]
      rw [e2]
      refine ⟨a, ?_, fun q => ?_⟩
      · show ns1.length ≤ _; omega
      · exfalso; omega
    | some q =>
      have e : mkF most ns o (x :: r) = mkF most ns1 (o ++ [q]) r := by
        rw [mkF.eq_2, e1]
      obtain ⟨hq, eq⟩ := G.set q rfl
      have S1 := (hs.ext G.ext hw G.wf).push hq eq
      obtain ⟨i1, i2, i3, i4, i5, i6, i7⟩ := mk_any most r ns1 (o ++ [q]) (s ++ [semE s x]) G.wf S1 (by simpa using hok.2)
      rw [e]
      have l1 := G.ext.len
      have room := G.room
      refine ⟨i1, G.ext.trans i2, by omega, fun t => ?_, fun t => ?_, by simp at i6 ⊢; omega, fun B c hB hl hc => ?_⟩
      · obtain ⟨a, b⟩ := i4 t
        exact ⟨a, fun ψ hψ => (G.made (by simp) ψ hψ).ext i2 G.wf i1, b⟩
      · obtain ⟨a, -⟩ := G.old t.1
        subst a
        exact i5 t.2
      · obtain ⟨a, b, d⟩ := G.few B hB (hl x (List.mem_cons_self ..))
        obtain ⟨a', b', d'⟩ := i7 B c a (fun y hy => hl y (List.mem_cons_of_mem _ hy)) hc
        have e2 : (x :: r).length * (3 * c) = 3 * c + r.length * (3 * c) := by rw [List.length_cons, Nat.add_mul, Nat.one_mul, Nat.add_comm]
        rw [e2]
        exact ⟨a', by omega, fun t => d' (by omega)⟩
end Go.Proofs.Ytgcbngephokegab
/- Calls on an arena with room enough, in a form for use one behind the other; when two numbers are one. No program in sight. -/
namespace Go.Proofs.Ytgcbngephokegab
set_option linter.unusedVariables false

/-- A number stands for a set. -/
def St (ns : List Nd) (q : Nat) (φ : Env → Bool) : Prop := q < ns.length ∧ ∀ e, ev ns e q = φ e
theorem St.ext {ns ns' : List Nd} {q : Nat} {φ : Env → Bool} (h : St ns q φ) (hx : Ext ns ns') (hw : WF ns) (hw' : WF ns') : St ns' q φ :=
  ⟨by have := hx.len; have := h.1; omega, fun e => by rw [hx.ev hw hw' e q h.1, h.2]⟩
theorem St.one {ns : List Nd} {f g : Nat} {φ ψ : Env → Bool} (hw : WF ns) (hf : St ns f φ) (hg : St ns g ψ) (e : ∀ e, φ e = ψ e) : f = g :=
  one_number hw hf.1 hg.1 (fun x => by rw [hf.2, hg.2, e])
theorem St.ne {ns : List Nd} {f g : Nat} {φ ψ : Env → Bool} (hf : St ns f φ) (hg : St ns g ψ) (h : f = g) : ∀ e, φ e = ψ e := fun e => by
  subst h; rw [← hf.2, ← hg.2]
theorem St.zero {ns : List Nd} (h : WF ns) : St ns 0 (fun _ => false) := ⟨by have := h.len; omega, fun _ => rfl⟩
theorem St.top {ns : List Nd} (h : WF ns) : St ns 1 (fun _ => true) := ⟨by have := h.len; omega, fun _ => rfl⟩
/-- Nodes behind others, of these bits, so many at most. -/
structure On (B : Nat → Bool) (ns ns' : List Nd) (k : Nat) : Prop where
  wf : WF ns'
  ext : Ext ns ns'
  bits : Bits B ns'
  len : ns'.length ≤ ns.length + k
theorem big_of {most : Nat} {ns : List Nd} {φ : Env → Bool} {R : Option Nat × List Nd} {Φ : List (Env → Bool)} {D : (Nat → Bool) → Prop} {bd : (Nat → Bool) → Nat} (G : Got most ns R.2 φ R.1 Φ D bd) {B : Nat → Bool} (hB : Bits B ns) (hD : D B) {k : Nat} (hk : bd B ≤ k) (hm : ns.length + k < most) :
    ∃ q ns', R = (some q, ns') ∧ On B ns ns' k ∧ St ns' q φ := by
  obtain ⟨r, ns'⟩ := R
  simp only at G
  obtain ⟨a, b, c⟩ := G.few B hB hD
  cases r with
  | none => have := c rfl; omega
  | some q => exact ⟨q, ns', rfl, ⟨G.wf, G.ext, a, by omega⟩, G.set q rfl⟩
theorem jF_big {kind most : Nat} {ns : List Nd} {f g : Nat} {φ ψ : Env → Bool} (h : WF ns) (hf : St ns f φ) (hg : St ns g ψ) {B : Nat → Bool} (hB : Bits B ns) {k : Nat} (hk : pw B ≤ k) (hm : ns.length + k < most) :
    ∃ q ns', jF kind most ns f g = (some q, ns') ∧ On B ns ns' k ∧ St ns' q (fun e => opB kind (φ e) (ψ e)) := by
  obtain ⟨q, ns', e, o, s⟩ := big_of (got_join kind most h hf.1 hg.1) hB trivial hk hm
  exact ⟨q, ns', e, o, s.1, fun x => by rw [s.2]; show opB kind (ev ns x f) (ev ns x g) = _; rw [hf.2, hg.2]⟩
theorem rF_big {bit most : Nat} {on : Bool} (hbit : bit < 104) {ns : List Nd} {f : Nat} {φ : Env → Bool} (h : WF ns) (hf : St ns f φ) {B : Nat → Bool} (hB : Bits B ns) {k : Nat} (hk : pw B ≤ k) (hm : ns.length + k < most) :
    ∃ q ns', rF bit on most ns f = (some q, ns') ∧ On B ns ns' k ∧ St ns' q (fun e => φ (hld e bit on)) := by
  obtain ⟨q, ns', e, o, s⟩ := big_of (got_held bit on most hbit h hf.1) hB trivial hk hm
  exact ⟨q, ns', e, o, s.1, fun x => by rw [s.2]; show ev ns (hld x bit on) f = _; rw [hf.2]⟩
theorem iF_big {most : Nat} {ns : List Nd} {f g h : Nat} {φ ψ χ : Env → Bool} (hw : WF ns) (hf : St ns f φ) (hg : St ns g ψ) (hh : St ns h χ) {B : Nat → Bool} (hB : Bits B ns) {k : Nat} (hk : 3 * pw B ≤ k) (hm : ns.length + k < most) :
    ∃ q ns', iF most ns f g h = (some q, ns') ∧ On B ns ns' k ∧ St ns' q (fun e => iteB (φ e) (ψ e) (χ e)) := by
  obtain ⟨q, ns', e, o, s⟩ := big_of (got_ite most hw hf.1 hg.1 hh.1).1 hB trivial hk hm
  exact ⟨q, ns', e, o, s.1, fun x => by rw [s.2]; show iteB (ev ns x f) (ev ns x g) (ev ns x h) = _; rw [hf.2, hg.2, hh.2]⟩
theorem cF_big {most : Nat} {ns : List Nd} (h : WF ns) {l : List (Nat × Bool)} (hr : l.Pairwise (fun a b => a.1 < b.1)) (h104 : ∀ p ∈ l, p.1 < 104) {B : Nat → Bool} (hB : Bits B ns) (hl : ∀ p ∈ l, B p.1 = true) {k : Nat} (hk : l.length ≤ k) (hm : ns.length + k < most) :
    ∃ q ns', cF most ns l = (some q, ns') ∧ On B ns ns' k ∧ St ns' q (allB l) :=
  big_of (got_cube most h l hr h104) hB hl hk hm
/-- One alone has nothing just if the two are one. -/
theorem xor_zero {most : Nat} {ns ns' : List Nd} {f g q : Nat} (h : WF ns) (hf : f < ns.length) (hg : g < ns.length) (e : jF 2 most ns f g = (some q, ns')) : q = 0 ↔ f = g := by
  have G := got_join 2 most h hf hg
  rw [e] at G
  obtain ⟨s1, s2⟩ := G.set q rfl
  have o2 : ∀ a b, opB 2 a b = (a != b) := fun _ _ => rfl
  constructor
  · intro q0
    subst q0
    refine one_number h hf hg (fun e => ?_)
    have := s2 e
    rw [ev_zero, o2] at this
    cases h1 : ev ns e f <;> cases h2 : ev ns e g <;> simp [h1, h2] at this ⊢
  · intro q0
    subst q0
    have hl : 2 ≤ ns'.length := G.wf.len
    refine one_number G.wf s1 (by show 0 < ns'.length; omega) (fun e => ?_)
    have := s2 e
    simp only at this
    rw [this, ev_zero, o2]; simp
/-- A bit that a set's number doesn't ask. -/
theorem cB_add (B : Nat → Bool) (k : Nat) : ∀ L n, cnt (fun i => B i || decide (i = k)) L n ≤ cnt B L n + (if L ≤ k ∧ k < L + n then 1 else 0)
  | L, 0 => by simp [cnt]
  | L, n + 1 => by
    have := cB_add B k L n
    unfold cnt
    by_cases e : L + n = k
    · subst e
      rw [if_neg (show ¬ (L ≤ L + n ∧ L + n < L + n) by omega)] at this
      rw [if_pos (show L ≤ L + n ∧ L + n < L + (n + 1) by omega), if_pos (show (B (L + n) || decide (L + n = L + n)) = true by simp)]
      omega
    · have e1 : (B (L + n) || decide (L + n = k)) = B (L + n) := by simp [e]
      rw [e1]
      by_cases r : L ≤ k ∧ k < L + n
      · rw [if_pos r] at this
        rw [if_pos (show L ≤ k ∧ k < L + (n + 1) by omega)]
        omega
      · rw [if_neg r] at this
        rw [if_neg (show ¬ (L ≤ k ∧ k < L + (n + 1)) by omega)]
        omega
theorem pw_add (B : Nat → Bool) (k : Nat) : pw (fun i => B i || decide (i = k)) ≤ 2 * pw B := by
  unfold pw cB
  have := cB_add B k 0 (104 - 0)
  rw [← Nat.pow_succ']
  refine Nat.pow_le_pow_right (by omega) ?_
  split at this <;> omega
theorem Bits.mono {B B' : Nat → Bool} {ns : List Nd} (h : Bits B ns) (hb : ∀ i, B i = true → B' i = true) : Bits B' ns := fun f n h2 hf => hb _ (h f n h2 hf)
theorem bits_new (B : Nat → Bool) : Bits B [bot, top] := fun f n h2 hf => by have := lt_of_get hf; simp at this; omega
/-- How many bits: no more than there are in a list that has all of them. -/
theorem cnt_le (B : Nat → Bool) (l : List Nat) (h : ∀ i, B i = true → i ∈ l) : ∀ L n, cnt B L n ≤ (l.filter (fun i => decide (L ≤ i) && decide (i < L + n))).length
  | L, 0 => by simp [cnt]
  | L, n + 1 => by
    have ih := cnt_le B l h L n
    unfold cnt
    have hsub : ∀ (l : List Nat), (l.filter (fun i => decide (L ≤ i) && decide (i < L + n))).length + (if L + n ∈ l then 1 else 0) ≤ (l.filter (fun i => decide (L ≤ i) && decide (i < L + (n + 1)))).length := by
      intro l
      induction l with
      | nil => simp
      | cons x r ih =>
        by_cases e : x = L + n
        · subst e
          have h1 : (decide (L ≤ L + n) && decide (L + n < L + n)) = false := by simp
          have h2 : (decide (L ≤ L + n) && decide (L + n < L + (n + 1))) = true := by simp
          have h0 : (r.filter (fun i => decide (L ≤ i) && decide (i < L + n))).length ≤ (r.filter (fun i => decide (L ≤ i) && decide (i < L + (n + 1)))).length := by omega
          simp only [List.filter_cons, h1, h2, List.mem_cons, true_or, if_true, List.length_cons]
          simp only [Bool.false_eq_true, if_false]
          omega
        · have h1 : (decide (L ≤ x) && decide (x < L + (n + 1))) = (decide (L ≤ x) && decide (x < L + n)) := by
            rw [Bool.eq_iff_iff]; simp; omega
          have h3 : (L + n ∈ x :: r) ↔ L + n ∈ r := by simp [show ¬ L + n = x by omega]
          simp only [List.filter_cons, h1, h3]
          split <;> (try simp only [List.length_cons]) <;> omega
    have := hsub l
    by_cases e : B (L + n) = true
    · rw [if_pos e]; rw [if_pos (h _ e)] at this; omega
    · rw [if_neg e]; omega
theorem pw_few {B : Nat → Bool} {l : List Nat} (h : ∀ i, B i = true → i ∈ l) {k : Nat} (hk : l.length ≤ k) : pw B ≤ 2 ^ k := by
  refine Nat.pow_le_pow_right (by omega) ?_
  have := cnt_le B l h 0 (104 - 0)
  have := List.length_filter_le (fun i => decide (0 ≤ i) && decide (i < 0 + (104 - 0))) l
  unfold cB
  omega
end Go.Proofs.Ytgcbngephokegab
/- Two sets joined; whole or not at all; numbers that ought to be sets'. -/
namespace Go.Proofs.Ytgcbngephokegab
open Go.RowKit
set_option linter.unusedVariables false

/-- What a call that may turn the arena answers, and leaves. -/
def Ans (most : Nat) (R : Option Nat × List Nd) (w : World) (a : AL) (e : Ending) (w' : World) : Prop :=
  e = .returned (.tuple #[.int .i64 (rv R.1 : Nat), .int .i64 (er R.1)]) ∧ ∃ a', Ar w' a' most R.2 ∧ Tr (fun _ => False) w a w' a'
/-- .. and the blocks X. -/
def AnsX (X : Nat → Prop) (most : Nat) (R : Option Nat × List Nd) (w : World) (a : AL) (e : Ending) (w' : World) : Prop :=
  e = .returned (.tuple #[.int .i64 (rv R.1 : Nat), .int .i64 (er R.1)]) ∧ ∃ a', Ar w' a' most R.2 ∧ Tr X w a w' a'
set_option maxRecDepth 100000 in
set_option maxHeartbeats 2000000 in
theorem join_core (kind most : Nat) (ns : List Nd) (f g : Nat) (w : World) (a : AL) (h : Ar w a most ns) (R : Option Nat × List Nd × Memo)
    (HP : Hid (∀ W jb db, Ar W a most ns → Jn W a jb db kind [] → Calls Try.prog 54 #[.pointer (some ⟨jb, 0, none⟩), .int .i64 (f : Nat), .int .i64 (g : Nat)] W fun e w' => e = .returned (.tuple #[.int .i64 (rv R.1 : Nat), .int .i64 (er R.1)]) ∧ ∃ a', Ar w' a' most R.2.1 ∧ Jn w' a' jb db kind R.2.2 ∧ Tr (fun i => i = db) W a w' a')) :
    Calls Try.prog 37 #[.pointer (some ⟨a.p, 0, none⟩), .int .i64 (kind : Nat), .int .i64 (f : Nat), .int .i64 (g : Nat)] w (Ans most (R.1, R.2.1) w a) := by
  unfold Ans
  obtain ⟨r0, e0, hr⟩ : ∃ r0 e0 : Int, ((rv R.1 : Nat) : Int) = r0 ∧ er R.1 = e0 := ⟨_, _, rfl, rfl⟩
  simp only
  rw [hr.1, hr.2] at HP ⊢
  clear hr
  have A0 := Lib.hid h
  clear h
  have hmm := @run_makeMap Try.prog
  go_enter Try.func37, Try.ntmps37
  go_upto_region 2 with fail
  refine at_code (S := fun W => Blk W (w.heap.size + 1) [.pointer (some ⟨a.p, 0, none⟩), .int .i64 (kind : Nat), .map (some w.heap.size)] ∧ MapG Try.prog 89 3 pkv W w.heap.size [] ∧ Below w.heap.size w W) ?_ (fun W1 hW => ?_)
  · refine ⟨?_, ?_, ?_⟩
    · have k := Blk.new (w.alloc (.map #[] 0)) 99 [.pointer (some ⟨a.p, 0, none⟩), .int .i64 (kind : Nat), .map (some w.heap.size)]
      rw [World.size_alloc] at k
      exact k
    · exact (MapG.made w).same (Below.heap_alloc _ _ _ (by simp))
    · exact bel_al (bel_al (Below.refl _ _) _) _
  obtain ⟨hJ, hD, hb⟩ := hW
  have A1 := Lib.hid (A0.out.on hb)
  have J1 := Lib.hid (show Jn W1 a (w.heap.size + 1) w.heap.size kind [] from ⟨hJ, hD, ⟨by have := A0.out.pl; omega, by have := A0.out.ql; omega, by have := A0.out.ml; omega⟩, ⟨by have := A0.out.pl; omega, by have := A0.out.ql; omega, by have := A0.out.ml; omega⟩⟩)
  have B1 := Lib.hid hb
  clear hJ hD hb hmm
  go_wp2_with fail
  refine (HP.out _ _ _ A1.out J1.out).mono ?_
  rintro e w2 ⟨rfl, a2, hA, -, hT⟩
  have F := Lib.hid (And.intro hA hT)
  clear hA hT
  go_wp2
  go_ret2
  exact ⟨rfl, a2, F.out.1, ⟨(Keep.of B1.out).trans F.out.2.k (fun i hi q => q.imp id (fun e => by omega)), (Tr.ahead B1.out F.out.2).m⟩⟩
set_option maxRecDepth 100000 in
set_option maxHeartbeats 2000000 in
/-- What was made stays, or is cut. -/
theorem whole_coreX (X : Nat → Prop) (most : Nat) (ns ns1 : List Nd) (r : Option Nat) (fn : Nat) (cap : Array Value) (w : World) (a : AL) (h : Ar w a most ns) (hw : WF ns) (hw1 : WF ns1) (hx : Ext ns ns1) (eg : ∀ args w, (callFunc fn args).run Try.prog w = .ok (.enter fn args) w)
    (HC : Hid (Calls Try.prog fn cap w (AnsX X most (r, ns1) w a))) :
    Calls Try.prog 32 #[.pointer (some ⟨a.p, 0, none⟩), .func (.func fn) #[] cap] w (AnsX X most (wholeF ns (r, ns1)) w a) := by
  have C0 := Lib.hid (len_any a most ns w h)
  have hl2 := hw.len
  unfold AnsX at HC ⊢
  cases r with
  | none =>
    have CU := Lib.hid (fun (a' : AL) (W : World) (hA : Ar W a' most ns1) => cut_any a' most ns1 (ns.length : Nat) W hA hw1)
    have htk : ns1.take (max ((ns.length : Nat) : Int).toNat 2) = ns := by rw [show max ((ns.length : Nat) : Int).toNat 2 = ns.length by omega]; exact hx.take
    rw [htk] at CU
    replace HC : Hid (Calls Try.prog fn cap w fun e w' => e = .returned (.tuple #[.int .i64 0, .int .i64 20]) ∧ ∃ a', Ar w' a' most ns1 ∧ Tr X w a w' a') := HC
    show Calls Try.prog 32 _ w fun e w' => e = .returned (.tuple #[.int .i64 0, .int .i64 20]) ∧ ∃ a', Ar w' a' most ns ∧ Tr X w a w' a'
    clear h hw hw1 hx htk hl2
    go_enter Try.func32, Try.ntmps32
    go_wp2_with fail
    refine C0.out.mono ?_
    rintro e w' ⟨rfl, rfl⟩
    go_wp2_with fail
    refine HC.out.mono ?_
    rintro e w1 ⟨rfl, a1, hA, hT⟩
    have A1 := Lib.hid hA
    have T1 := Lib.hid hT
    have hp := hT.m.1
    have CC := Lib.hid (CU.out a1 w1 hA)
    rw [hp] at CC
    clear hA hT hp C0 HC CU
    go_wp2_with fail
    refine CC.out.mono ?_
    rintro e w2 ⟨rfl, hA, hT⟩
    have F := Lib.hid (And.intro hA hT)
    clear hA hT
    go_wp2
    go_ret2
    exact ⟨rfl, a1, F.out.1, T1.out.trans F.out.2.weak⟩
  | some q =>
    replace HC : Hid (Calls Try.prog fn cap w fun e w' => e = .returned (.tuple #[.int .i64 (q : Nat), .int .i64 0]) ∧ ∃ a', Ar w' a' most ns1 ∧ Tr X w a w' a') := HC
    show Calls Try.prog 32 _ w fun e w' => e = .returned (.tuple #[.int .i64 (q : Nat), .int .i64 0]) ∧ ∃ a', Ar w' a' most ns1 ∧ Tr X w a w' a'
    clear h hw hw1 hx hl2
    go_enter Try.func32, Try.ntmps32
    go_wp2_with fail
    refine C0.out.mono ?_
    rintro e w' ⟨rfl, rfl⟩
    go_wp2_with fail
    refine HC.out.mono ?_
    rintro e w1 ⟨rfl, a1, hA, hT⟩
    have F := Lib.hid (And.intro hA hT)
    clear hA hT
    go_wp2
    go_ret2
    exact ⟨rfl, a1, F.out.1, F.out.2⟩
theorem whole_core (most : Nat) (ns ns1 : List Nd) (r : Option Nat) (fn : Nat) (cap : Array Value) (w : World) (a : AL) (h : Ar w a most ns) (hw : WF ns) (hw1 : WF ns1) (hx : Ext ns ns1) (eg : ∀ args w, (callFunc fn args).run Try.prog w = .ok (.enter fn args) w)
    (HC : Hid (Calls Try.prog fn cap w (Ans most (r, ns1) w a))) :
    Calls Try.prog 32 #[.pointer (some ⟨a.p, 0, none⟩), .func (.func fn) #[] cap] w (Ans most (wholeF ns (r, ns1)) w a) :=
  whole_coreX (fun _ => False) most ns ns1 r fn cap w a h hw hw1 hx eg HC
/-- The first number that is no set's is told. -/
def chkF (n : Nat) (l : List Int) : Int := if l.all (hasB n) then 0 else 1
set_option maxRecDepth 100000 in
set_option maxHeartbeats 2000000 in
theorem check_any (a : AL) (most : Nat) (ns : List Nd) (w : World) (h : Ar w a most ns) (b cap : Nat) (l : List Int) (hl : l.length ≤ 1000) (hc : ∀ i v, l[i]? = some v → w.cell? ⟨b, i, none⟩ = some (.int .i64 v)) :
    Calls Try.prog 35 #[.pointer (some ⟨a.p, 0, none⟩), .slice (some ⟨b, 0, none⟩) l.length cap] w fun e w' => e = .returned (.int .i64 (chkF ns.length l)) ∧ w = w' := by
  have C0 := Lib.hid (fun f => has_any a most ns f w h)
  have HC := Lib.hid hc
  clear h hc
  obtain ⟨n, hn⟩ : ∃ n, l.length = n := ⟨_, rfl⟩
  rw [hn]
  have HL := Lib.hid hn
  rw [hn] at hl
  clear hn
  go_enter Try.func35, Try.ntmps35
  go_wp2_with fail
  go_loopw [11] (fun iv wr => ∃ k : Nat, iv = .int .i64 (k : Nat) ∧ k ≤ n ∧ wr = w ∧ Hid ((l.take k).all (hasB ns.length) = true)) (fun iv _ => n - (intOf iv).toNat)
  case atStart => exact ⟨0, rfl, Nat.zero_le _, by first | rfl | trivial, Lib.hid (by simp)⟩
  case round =>
    obtain ⟨k, rfl, hk, rfl, hA⟩ := hrel
    by_cases hkn : k < n
    · obtain ⟨v, hv⟩ : ∃ v, l[k]? = some v := ⟨_, List.getElem?_eq_getElem (by have := HL.out; omega)⟩
      have c0 := HC.out k v hv
      have HV := Lib.hid hv
      have C := Lib.hid (C0.out v)
      clear C0 hv
      have hwk : IntKind.i64.wrap ((k : Int) + 1) = ((k + 1 : Nat) : Int) := by rw [IntKind.wrap_i64]; omega
      cases hb : hasB ns.length v with
      | true =>
        rw [hb] at C
        have HB := Lib.hid hb
        clear hb
        go_wp2_with fail
        refine C.out.mono ?_
        rintro e w' ⟨rfl, rfl⟩
        go_wp2_with fail
        refine ⟨⟨k + 1, ?_, by omega, by first | rfl | trivial, Lib.hid ?_⟩, by simp [intOf]; omega⟩
        · first | rfl | simp
        · rw [List.take_add_one, HV.out, List.all_append, hA.out]
          simp [HB.out]
      | false =>
        rw [hb] at C
        have HB := Lib.hid hb
        clear hb
        go_wp2_with fail
        refine C.out.mono ?_
        rintro e w' ⟨rfl, rfl⟩
        go_wp2
        go_ret
        refine ⟨?_, rfl⟩
        have : chkF ns.length l = 1 := by
          unfold chkF
          rw [if_neg]
          intro q
          rw [List.all_eq_true] at q
          have := q v (List.mem_of_getElem? HV.out)
          rw [HB.out] at this
          cases this
        rw [this]; rfl
    · have hkn' : k = n := by omega
      subst hkn'
      go_wp2
      go_ret
      refine ⟨?_, rfl⟩
      have : chkF ns.length l = 0 := by
        unfold chkF
        rw [if_pos]
        have := hA.out
        rw [← HL.out, List.take_length] at this
        exact this
      rw [this]; rfl
set_option maxHeartbeats 1000000 in
theorem check_nil (v : Value) (w : World) : Calls Try.prog 35 #[.pointer none, v] w fun e w' => e = .returned (.int .i64 2) ∧ w = w' := by
  go_enter Try.func35, Try.ntmps35
  go_wp2
  go_ret
  exact ⟨rfl, rfl⟩
end Go.Proofs.Ytgcbngephokegab
