/- Expressions made again: what there is is found; one more is made or not. No program in sight. -/
import Derived.Test.YtioanjpeddipmaaBL
namespace Go.Proofs.Ytioanjpeddipmaa
set_option linter.unusedVariables false

theorem okL_append : ∀ (l : List Ex) (x : Ex) (i : Nat), OkL i (l ++ [x]) ↔ OkL i l ∧ x.Ok (i + l.length)
  | [], x, i => by simp [OkL]
  | y :: r, x, i => by
    rw [List.cons_append]
    show (y.Ok i ∧ OkL (i + 1) (r ++ [x])) ↔ (y.Ok i ∧ OkL (i + 1) r) ∧ _
    rw [okL_append r x (i + 1), List.length_cons, show i + 1 + r.length = i + (r.length + 1) by omega, and_assoc]
theorem okL_take : ∀ (l : List Ex) (i k : Nat), OkL i l → OkL i (l.take k)
  | [], i, k, h => by simp [OkL]
  | y :: r, i, 0, h => by simp [OkL]
  | y :: r, i, k + 1, h => by rw [List.take_succ_cons]; exact ⟨h.1, okL_take r (i + 1) k h.2⟩
theorem mkF_append (most : Nat) : ∀ (l1 l2 : List Ex) (ns : List Nd) (o : List Nat), (mkF most ns o l1).2.1 = true → mkF most ns o (l1 ++ l2) = mkF most (mkF most ns o l1).2.2 (mkF most ns o l1).1 l2
  | [], l2, ns, o, h => rfl
  | x :: r, l2, ns, o, h => by
    rw [List.cons_append, mkF.eq_2, mkF.eq_2]
    rw [mkF.eq_2] at h
    obtain ⟨q, ns1, e⟩ : ∃ q ns1, stepF most ns o x = (q, ns1) := ⟨_, _, rfl⟩
    rw [e] at h ⊢
    cases q with
    | none => cases h
    | some q => exact mkF_append most r l2 ns1 (o ++ [q]) h
theorem mkF_last (most : Nat) (ns : List Nd) (o : List Nat) (x : Ex) : mkF most ns o [x] = match stepF most ns o x with | (none, ns1) => (o, false, ns1) | (some q, ns1) => (o ++ [q], true, ns1) := by
  rw [mkF.eq_2]
  obtain ⟨q, ns1, e⟩ : ∃ q ns1, stepF most ns o x = (q, ns1) := ⟨_, _, rfl⟩
  rw [e]
  cases q <;> rfl
/-- One more than there are. -/
theorem mk_snoc (most : Nat) {ns : List Nd} {l : List Ex} {x : Ex} (h : WF ns) (hok : OkL 0 (l ++ [x])) (hv : HaveL ns [] l) :
    ∃ o, mkF most ns [] l = (o, true, ns) ∧ o.length = l.length ∧ Stand ns o (semL [] l) ∧
      ((∃ q ns', mkF most ns [] (l ++ [x]) = (o ++ [q], true, ns') ∧ stepF most ns o x = (some q, ns')) ∨ (mkF most ns [] (l ++ [x]) = (o, false, ns) ∧ (stepF most ns o x).1 = none)) := by
  obtain ⟨h1, h2⟩ := (okL_append l x 0).1 hok
  obtain ⟨-, -, -, m4, m5, -, -⟩ := mk_any most l ns [] [] h (Stand.nil _) h1
  obtain ⟨e1, e2⟩ := m5 hv
  obtain ⟨st, -⟩ := m4 e2
  obtain ⟨o, b, ns', e⟩ : ∃ o b ns', mkF most ns [] l = (o, b, ns') := ⟨_, _, _, rfl⟩
  have ha := mkF_append most l [x] ns [] e2
  rw [e] at e1 e2 st ha
  simp only at e1 e2 st ha
  subst e1
  subst e2
  have hlen : o.length = l.length := by have := st.len; rw [semL_len] at this; simpa using this
  refine ⟨o, e, hlen, st, ?_⟩
  rw [ha, mkF_last]
  have G := step_got (most := most) h st (x := x) (by rw [semL_len]; simpa using h2)
  obtain ⟨q, ns1, es⟩ : ∃ q ns1, stepF most ns' o x = (q, ns1) := ⟨_, _, rfl⟩
  rw [es] at G
  rw [es]
  cases q with
  | none =>
    have := G.nil rfl
    simp only at this
    subst this
    exact Or.inr ⟨rfl, rfl⟩
  | some q => exact Or.inl ⟨q, ns1, rfl, rfl⟩
/-- .. with room enough. -/
theorem mk_snoc_big {most : Nat} {ns : List Nd} {l : List Ex} {x : Ex} (h : WF ns) (hok : OkL 0 (l ++ [x])) (hv : HaveL ns [] l) {B : Nat → Bool} (hB : Bits B ns) (hx : x.k = 2 → B x.v.toNat = true) {c : Nat} (hc : pw B ≤ c) (hm : ns.length + 3 * c < most) :
    ∃ o ns', mkF most ns [] (l ++ [x]) = (o, true, ns') ∧ o.length = l.length + 1 ∧ WF ns' ∧ HaveL ns' [] (l ++ [x]) ∧ Bits B ns' ∧ ns'.length ≤ ns.length + 3 * c := by
  obtain ⟨o, e, hl, st, hc2⟩ := mk_snoc most h hok hv
  have G := step_got (most := most) h st (x := x) (by rw [semL_len]; simpa using ((okL_append l x 0).1 hok).2)
  obtain ⟨g1, g2, g3⟩ := G.few B hB hx
  rcases hc2 with ⟨q, ns', e1, e2⟩ | ⟨e1, e2⟩
  · rw [e2] at G g1 g2
    obtain ⟨m1, -, -, m4, -⟩ := mk_any most (l ++ [x]) ns [] [] h (Stand.nil _) hok
    rw [e1] at m1 m4
    exact ⟨o ++ [q], ns', e1, by simp [hl], m1, (m4 rfl).2, g1, by simp only at g2; omega⟩
  · have := g3 e2; omega
/-- .. in whatever room. -/
theorem mk_snoc_any (most : Nat) {ns : List Nd} {l : List Ex} {x : Ex} (h : WF ns) (hok : OkL 0 (l ++ [x])) (hv : HaveL ns [] l) :
    ∃ o, mkF most ns [] l = (o, true, ns) ∧ o.length = l.length ∧ ((∃ o' ns', mkF most ns [] (l ++ [x]) = (o', true, ns') ∧ o'.length = l.length + 1 ∧ WF ns' ∧ HaveL ns' [] (l ++ [x]) ∧ ns'.length ≤ max most ns.length) ∨ mkF most ns [] (l ++ [x]) = (o, false, ns)) := by
  obtain ⟨o, e, hl, st, hc⟩ := mk_snoc most h hok hv
  refine ⟨o, e, hl, ?_⟩
  rcases hc with ⟨q, ns', e1, e2⟩ | ⟨e1, e2⟩
  · obtain ⟨m1, -, m3, m4, -⟩ := mk_any most (l ++ [x]) ns [] [] h (Stand.nil _) hok
    rw [e1] at m1 m3 m4
    exact Or.inl ⟨o ++ [q], ns', e1, by simp [hl], m1, (m4 rfl).2, m3⟩
  · exact Or.inr e1
theorem take_snoc {α : Type} {l : List α} {k : Nat} {x : α} (h : l[k]? = some x) : l.take (k + 1) = l.take k ++ [x] := by
  rw [List.take_add_one, h]; rfl
end Go.Proofs.Ytioanjpeddipmaa
