/- Calls on an arena with room enough, in a form for use one behind the other; when two numbers are one. No program in sight. -/
import Derived.Test.YtioanjpeddipmacBH
namespace Go.Proofs.Ytioanjpeddipmac
set_option linter.unusedVariables false

/-- A number stands for a set. -/
def St (ns : List Nd) (q : Nat) (φ : Env → Bool) : Prop := q < ns.length ∧ ∀ e, ev ns e q = φ e
theorem St.ext {ns ns' : List Nd} {q : Nat} {φ : Env → Bool} (h : St ns q φ) (hx : Ext ns ns') (hw : WF ns) (hw' : WF ns') : St ns' q φ :=
  ⟨by have := hx.len; have := h.1; omega, fun e => by rw [hx.ev hw hw' e q h.1, h.2]⟩
theorem St.one {ns : List Nd} {f g : Nat} {φ ψ : Env → Bool} (hw : WF ns) (hf : St ns f φ) (hg : St ns g ψ) (e : ∀ e, φ e = ψ e) : f = g :=
  one_number hw hf.1 hg.1 (fun x => by rw [hf.2, hg.2, e])
theorem St.ne {ns : List Nd} {f g : Nat} {φ ψ : Env → Bool} (hf : St ns f φ) (hg : St ns g ψ) (h : f = g) : ∀ e, φ e = ψ e := fun e => by
  subst h; rw [← hf.2, ← hg.2]
theorem St.zero {ns : List Nd} (h : WF ns) : St ns 0 (fun _ => false) := ⟨by have := h.len; omega, fun _ => rfl⟩
theorem St.top {ns : List Nd} (h : WF ns) : St ns 1 (fun _ => true) := ⟨by have := h.len; omega, fun _ => rfl⟩
/-- Nodes behind others, of these bits, so many at most. -/
structure On (B : Nat → Bool) (ns ns' : List Nd) (k : Nat) : Prop where
  wf : WF ns'
  ext : Ext ns ns'
  bits : Bits B ns'
  len : ns'.length ≤ ns.length + k
theorem big_of {most : Nat} {ns : List Nd} {φ : Env → Bool} {R : Option Nat × List Nd} {Φ : List (Env → Bool)} {D : (Nat → Bool) → Prop} {bd : (Nat → Bool) → Nat} (G : Got most ns R.2 φ R.1 Φ D bd) {B : Nat → Bool} (hB : Bits B ns) (hD : D B) {k : Nat} (hk : bd B ≤ k) (hm : ns.length + k < most) :
    ∃ q ns', R = (some q, ns') ∧ On B ns ns' k ∧ St ns' q φ := by
  obtain ⟨r, ns'⟩ := R
  simp only at G
  obtain ⟨a, b, c⟩ := G.few B hB hD
  cases r with
  | none => have := c rfl; omega
  | some q => exact ⟨q, ns', rfl, ⟨G.wf, G.ext, a, by omega⟩, G.set q rfl⟩
theorem jF_big {kind most : Nat} {ns : List Nd} {f g : Nat} {φ ψ : Env → Bool} (h : WF ns) (hf : St ns f φ) (hg : St ns g ψ) {B : Nat → Bool} (hB : Bits B ns) {k : Nat} (hk : pw B ≤ k) (hm : ns.length + k < most) :
    ∃ q ns', jF kind most ns f g = (some q, ns') ∧ On B ns ns' k ∧ St ns' q (fun e => opB kind (φ e) (ψ e)) := by
  obtain ⟨q, ns', e, o, s⟩ := big_of (got_join kind most h hf.1 hg.1) hB trivial hk hm
  exact ⟨q, ns', e, o, s.1, fun x => by rw [s.2]; show opB kind (ev ns x f) (ev ns x g) = _; rw [hf.2, hg.2]⟩
theorem rF_big {bit most : Nat} {on : Bool} (hbit : bit < 104) {ns : List Nd} {f : Nat} {φ : Env → Bool} (h : WF ns) (hf : St ns f φ) {B : Nat → Bool} (hB : Bits B ns) {k : Nat} (hk : pw B ≤ k) (hm : ns.length + k < most) :
    ∃ q ns', rF bit on most ns f = (some q, ns') ∧ On B ns ns' k ∧ St ns' q (fun e => φ (hld e bit on)) := by
  obtain ⟨q, ns', e, o, s⟩ := big_of (got_held bit on most hbit h hf.1) hB trivial hk hm
  exact ⟨q, ns', e, o, s.1, fun x => by rw [s.2]; show ev ns (hld x bit on) f = _; rw [hf.2]⟩
theorem iF_big {most : Nat} {ns : List Nd} {f g h : Nat} {φ ψ χ : Env → Bool} (hw : WF ns) (hf : St ns f φ) (hg : St ns g ψ) (hh : St ns h χ) {B : Nat → Bool} (hB : Bits B ns) {k : Nat} (hk : 3 * pw B ≤ k) (hm : ns.length + k < most) :
    ∃ q ns', iF most ns f g h = (some q, ns') ∧ On B ns ns' k ∧ St ns' q (fun e => iteB (φ e) (ψ e) (χ e)) := by
  obtain ⟨q, ns', e, o, s⟩ := big_of (got_ite most hw hf.1 hg.1 hh.1).1 hB trivial hk hm
  exact ⟨q, ns', e, o, s.1, fun x => by rw [s.2]; show iteB (ev ns x f) (ev ns x g) (ev ns x h) = _; rw [hf.2, hg.2, hh.2]⟩
theorem cF_big {most : Nat} {ns : List Nd} (h : WF ns) {l : List (Nat × Bool)} (hr : l.Pairwise (fun a b => a.1 < b.1)) (h104 : ∀ p ∈ l, p.1 < 104) {B : Nat → Bool} (hB : Bits B ns) (hl : ∀ p ∈ l, B p.1 = true) {k : Nat} (hk : l.length ≤ k) (hm : ns.length + k < most) :
    ∃ q ns', cF most ns l = (some q, ns') ∧ On B ns ns' k ∧ St ns' q (allB l) :=
  big_of (got_cube most h l hr h104) hB hl hk hm
/-- One alone has nothing just if the two are one. -/
theorem xor_zero {most : Nat} {ns ns' : List Nd} {f g q : Nat} (h : WF ns) (hf : f < ns.length) (hg : g < ns.length) (e : jF 2 most ns f g = (some q, ns')) : q = 0 ↔ f = g := by
  have G := got_join 2 most h hf hg
  rw [e] at G
  obtain ⟨s1, s2⟩ := G.set q rfl
  have o2 : ∀ a b, opB 2 a b = (a != b) := fun _ _ => rfl
  constructor
  · intro q0
    subst q0
    refine one_number h hf hg (fun e => ?_)
    have := s2 e
    rw [ev_zero, o2] at this
    cases h1 : ev ns e f <;> cases h2 : ev ns e g <;> simp [h1, h2] at this ⊢
  · intro q0
    subst q0
    have hl : 2 ≤ ns'.length := G.wf.len
    refine one_number G.wf s1 (by show 0 < ns'.length; omega) (fun e => ?_)
    have := s2 e
    simp only at this
    rw [this, ev_zero, o2]; simp
/-- A bit that a set's number doesn't ask. -/
theorem cB_add (B : Nat → Bool) (k : Nat) : ∀ L n, cnt (fun i => B i || decide (i = k)) L n ≤ cnt B L n + (if L ≤ k ∧ k < L + n then 1 else 0)
  | L, 0 => by simp [cnt]
  | L, n + 1 => by
    have := cB_add B k L n
    unfold cnt
    by_cases e : L + n = k
    · subst e
      rw [if_neg (show ¬ (L ≤ L + n ∧ L + n < L + n) by omega)] at this
      rw [if_pos (show L ≤ L + n ∧ L + n < L + (n + 1) by omega), if_pos (show (B (L + n) || decide (L + n = L + n)) = true by simp)]
      omega
    · have e1 : (B (L + n) || decide (L + n = k)) = B (L + n) := by simp [e]
      rw [e1]
      by_cases r : L ≤ k ∧ k < L + n
      · rw [if_pos r] at this
        rw [if_pos (show L ≤ k ∧ k < L + (n + 1) by omega)]
        omega
      · rw [if_neg r] at this
        rw [if_neg (show ¬ (L ≤ k ∧ k < L + (n + 1)) by omega)]
        omega
theorem pw_add (B : Nat → Bool) (k : Nat) : pw (fun i => B i || decide (i = k)) ≤ 2 * pw B := by
  unfold pw cB
  have := cB_add B k 0 (104 - 0)
  rw [← Nat.pow_succ']
  refine Nat.pow_le_pow_right (by omega) ?_
  split at this <;> omega
theorem Bits.mono {B B' : Nat → Bool} {ns : List Nd} (h : Bits B ns) (hb : ∀ i, B i = true → B' i = true) : Bits B' ns := fun f n h2 hf => hb _ (h f n h2 hf)
theorem bits_new (B : Nat → Bool) : Bits B [bot, top] := fun f n h2 hf => by have := lt_of_get hf; simp at this; omega
/-- How many bits: no more than there are in a list that has all of them. -/
theorem cnt_le (B : Nat → Bool) (l : List Nat) (h : ∀ i, B i = true → i ∈ l) : ∀ L n, cnt B L n ≤ (l.filter (fun i => decide (L ≤ i) && decide (i < L + n))).length
  | L, 0 => by simp [cnt]
  | L, n + 1 => by
    have ih := cnt_le B l h L n
    unfold cnt
    have hsub : ∀ (l : List Nat), (l.filter (fun i => decide (L ≤ i) && decide (i < L + n))).length + (if L + n ∈ l then 1 else 0) ≤ (l.filter (fun i => decide (L ≤ i) && decide (i < L + (n + 1)))).length := by
      intro l
      induction l with
      | nil => simp
      | cons x r ih =>
        by_cases e : x = L + n
        · subst e
          have h1 : (decide (L ≤ L + n) && decide (L + n < L + n)) = false := by simp
          have h2 : (decide (L ≤ L + n) && decide (L + n < L + (n + 1))) = true := by simp
          have h0 : (r.filter (fun i => decide (L ≤ i) && decide (i < L + n))).length ≤ (r.filter (fun i => decide (L ≤ i) && decide (i < L + (n + 1)))).length := by omega
          simp only [List.filter_cons, h1, h2, List.mem_cons, true_or, if_true, List.length_cons]
          simp only [Bool.false_eq_true, if_false]
          omega
        · have h1 : (decide (L ≤ x) && decide (x < L + (n + 1))) = (decide (L ≤ x) && decide (x < L + n)) := by
            rw [Bool.eq_iff_iff]; simp; omega
          have h3 : (L + n ∈ x :: r) ↔ L + n ∈ r := by simp [show ¬ L + n = x by omega]
          simp only [List.filter_cons, h1, h3]
          split <;> (try simp only [List.length_cons]) <;> omega
    have := hsub l
    by_cases e : B (L + n) = true
    · rw [if_pos e]; rw [if_pos (h _ e)] at this; omega
    · rw [if_neg e]; omega
theorem pw_few {B : Nat → Bool} {l : List Nat} (h : ∀ i, B i = true → i ∈ l) {k : Nat} (hk : l.length ≤ k) : pw B ≤ 2 ^ k := by
  refine Nat.pow_le_pow_right (by omega) ?_
  have := cnt_le B l h 0 (104 - 0)
  have := List.length_filter_le (fun i => decide (0 ≤ i) && decide (i < 0 + (104 - 0))) l
  unfold cB
  omega
end Go.Proofs.Ytioanjpeddipmac
