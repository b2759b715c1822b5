/- Sets as nodes, plain: the program's steps as functions of lists, and what sets they are. No program in sight. -/
import Derived.KernelRfl
namespace Go.Proofs.Ytioanjpeddipmac
set_option linter.unusedVariables false

/-- A node: its bit, and its two sets. -/
structure Nd where
  v : Nat
  l : Nat
  h : Nat
  deriving DecidableEq
def bot : Nd := ⟨104, 0, 0⟩
def top : Nd := ⟨104, 1, 1⟩
/-- A set's first bit. -/
def lv (ns : List Nd) (f : Nat) : Nat := (ns.getD f bot).v
/-- Nodes as they may be. -/
structure WF (ns : List Nd) : Prop where
  z : ns[0]? = some bot
  o : ns[1]? = some top
  nd : ∀ (f : Nat) (n : Nd), 2 ≤ f → ns[f]? = some n → n.l < f ∧ n.h < f ∧ n.l ≠ n.h ∧ n.v < lv ns n.l ∧ n.v < lv ns n.h ∧ n.v < 104
  inj : ∀ (f g : Nat) (n : Nd), ns[f]? = some n → ns[g]? = some n → f = g
theorem WF.len {ns : List Nd} (h : WF ns) : 2 ≤ ns.length := by
  have := h.o
  rcases Nat.lt_or_ge 1 ns.length with q | q
  · omega
  · rw [List.getElem?_eq_none q] at this; cases this
/-- Whether a set has a header of these bits. -/
def evF (ns : List Nd) (e : Nat → Bool) : Nat → Nat → Bool
  | 0, f => f == 1
  | k + 1, f => if f ≤ 1 then f == 1 else evF ns e k (if e (ns.getD f bot).v then (ns.getD f bot).h else (ns.getD f bot).l)
def ev (ns : List Nd) (e : Nat → Bool) (f : Nat) : Bool := evF ns e f f
theorem evF_succ (ns : List Nd) (e : Nat → Bool) (k f : Nat) : evF ns e (k + 1) f = if f ≤ 1 then f == 1 else evF ns e k (if e (ns.getD f bot).v then (ns.getD f bot).h else (ns.getD f bot).l) := rfl
theorem getD_some {ns : List Nd} {f : Nat} {n : Nd} (h : ns[f]? = some n) : ns.getD f bot = n := by
  rw [List.getD_eq_getElem?_getD, h]; rfl
theorem get_of_lt {ns : List Nd} {f : Nat} (h : f < ns.length) : ns[f]? = some (ns.getD f bot) := by
  rw [List.getD_eq_getElem?_getD, List.getElem?_eq_getElem h]; rfl
theorem lt_of_get {α : Type} {l : List α} {i : Nat} {x : α} (h : l[i]? = some x) : i < l.length := by
  rcases Nat.lt_or_ge i l.length with q | q
  · exact q
  · rw [List.getElem?_eq_none q] at h; cases h
theorem WF.parts {ns : List Nd} (h : WF ns) {f : Nat} (h2 : 2 ≤ f) (hf : f < ns.length) : (ns.getD f bot).l < f ∧ (ns.getD f bot).h < f ∧ (ns.getD f bot).l ≠ (ns.getD f bot).h ∧ lv ns f < lv ns (ns.getD f bot).l ∧ lv ns f < lv ns (ns.getD f bot).h ∧ lv ns f < 104 :=
  h.nd f _ h2 (get_of_lt hf)
theorem lv_end {ns : List Nd} (h : WF ns) {f : Nat} (hf : f ≤ 1) : lv ns f = 104 := by
  have : f = 0 ∨ f = 1 := by omega
  rcases this with rfl | rfl
  · unfold lv; rw [getD_some h.z]; rfl
  · unfold lv; rw [getD_some h.o]; rfl
theorem lv_le {ns : List Nd} (h : WF ns) {f : Nat} : lv ns f ≤ 104 := by
  rcases Nat.lt_or_ge f ns.length with hf | hf
  · rcases Nat.lt_or_ge f 2 with q | q
    · rw [lv_end h (by omega)]; omega
    · have := (h.parts q hf).2.2.2.2.2; omega
  · unfold lv; rw [List.getD_eq_getElem?_getD, List.getElem?_eq_none hf]; decide
theorem lv_two {ns : List Nd} (h : WF ns) {f : Nat} (hf : f < ns.length) (q : lv ns f < 104) : 2 ≤ f := by
  rcases Nat.lt_or_ge f 2 with r | r
  · rw [lv_end h (by omega)] at q; omega
  · exact r
theorem evF_fuel {ns : List Nd} (h : WF ns) (e : Nat → Bool) : ∀ k f, f ≤ k → f < ns.length → evF ns e k f = ev ns e f := by
  intro k
  induction k using Nat.strongRecOn with
  | ind k ih =>
    intro f hk hf
    match k, f with
    | 0, 0 => rfl
    | 0, f + 1 => omega
    | k + 1, 0 => rfl
    | k + 1, 1 => rfl
    | k + 1, f + 2 =>
      obtain ⟨h1, h2, -⟩ := h.parts (by omega) hf
      unfold ev
      rw [evF_succ, evF_succ, if_neg (show ¬ f + 2 ≤ 1 by omega), if_neg (show ¬ f + 2 ≤ 1 by omega)]
      have a : (if e (ns.getD (f + 2) bot).v = true then (ns.getD (f + 2) bot).h else (ns.getD (f + 2) bot).l) < f + 2 := by split <;> omega
      generalize (if e (ns.getD (f + 2) bot).v = true then (ns.getD (f + 2) bot).h else (ns.getD (f + 2) bot).l) = c at a
      rw [ih k (by omega) c (by omega) (by omega)]
      rcases Nat.lt_or_ge (f + 1) k with q | q
      · rw [ih (f + 1) (by omega) c (by omega) (by omega)]
      · have : f + 1 = k := by omega
        subst this
        rw [ih (f + 1) (by omega) c (by omega) (by omega)]
theorem ev_zero (ns : List Nd) (e : Nat → Bool) : ev ns e 0 = false := rfl
theorem ev_one (ns : List Nd) (e : Nat → Bool) : ev ns e 1 = true := rfl
theorem ev_node {ns : List Nd} (h : WF ns) (e : Nat → Bool) {f : Nat} (h2 : 2 ≤ f) (hf : f < ns.length) :
    ev ns e f = if e (lv ns f) then ev ns e (ns.getD f bot).h else ev ns e (ns.getD f bot).l := by
  obtain ⟨a, b, -⟩ := h.parts h2 hf
  match f, h2 with
  | f + 2, _ =>
    show evF ns e (f + 2) (f + 2) = _
    rw [evF_succ, if_neg (show ¬ f + 2 ≤ 1 by omega)]
    unfold lv
    cases e (ns.getD (f + 2) bot).v
    · simp only [Bool.false_eq_true, if_false]; rw [evF_fuel h e _ _ (by omega) (by omega)]
    · simp only [if_true]; rw [evF_fuel h e _ _ (by omega) (by omega)]
/-- Bits ahead of a set's first one don't matter. -/
theorem ev_free {ns : List Nd} (h : WF ns) : ∀ f, f < ns.length → ∀ e e' : Nat → Bool, (∀ i, lv ns f ≤ i → e i = e' i) → ev ns e f = ev ns e' f := by
  intro f
  induction f using Nat.strongRecOn with
  | ind f ih =>
    intro hf e e' he
    rcases Nat.lt_or_ge f 2 with q | q
    · have : f = 0 ∨ f = 1 := by omega
      rcases this with rfl | rfl <;> rfl
    · obtain ⟨a, b, -, c, d, -⟩ := h.parts q hf
      rw [ev_node h e q hf, ev_node h e' q hf, he _ (Nat.le_refl _)]
      rw [ih _ a (by omega) e e' (fun i hi => he i (by omega)), ih _ b (by omega) e e' (fun i hi => he i (by omega))]
/-- A header with one bit so. -/
def hld (e : Nat → Bool) (i : Nat) (b : Bool) : Nat → Bool := fun k => if k = i then b else e k
theorem hld_same (e : Nat → Bool) (i : Nat) (b : Bool) : hld e i b i = b := by simp [hld]
theorem hld_ne (e : Nat → Bool) {i k : Nat} (b : Bool) (h : k ≠ i) : hld e i b k = e k := by simp [hld, h]
theorem hld_self (e : Nat → Bool) (i : Nat) : hld e i (e i) = e := by funext k; unfold hld; split <;> simp_all
theorem ev_low {ns : List Nd} (h : WF ns) (e : Nat → Bool) {f : Nat} (h2 : 2 ≤ f) (hf : f < ns.length) : ev ns e (ns.getD f bot).l = ev ns (hld e (lv ns f) false) f := by
  obtain ⟨a, b, -, c, d, -⟩ := h.parts h2 hf
  rw [ev_node h _ h2 hf, hld_same]
  simp only [Bool.false_eq_true, if_false]
  exact ev_free h _ (by omega) _ _ (fun i hi => (hld_ne _ _ (by omega)).symm)
theorem ev_high {ns : List Nd} (h : WF ns) (e : Nat → Bool) {f : Nat} (h2 : 2 ≤ f) (hf : f < ns.length) : ev ns e (ns.getD f bot).h = ev ns (hld e (lv ns f) true) f := by
  obtain ⟨a, b, -, c, d, -⟩ := h.parts h2 hf
  rw [ev_node h _ h2 hf, hld_same]
  simp only [if_true]
  exact ev_free h _ (by omega) _ _ (fun i hi => (hld_ne _ _ (by omega)).symm)
theorem ev_hld {ns : List Nd} (h : WF ns) (e : Nat → Bool) {f i : Nat} (b : Bool) (hf : f < ns.length) (hi : i < lv ns f) : ev ns (hld e i b) f = ev ns e f :=
  ev_free h _ hf _ _ (fun k hk => hld_ne _ _ (by omega))
/-- A set has one number. -/
theorem canon {ns : List Nd} (h : WF ns) : ∀ m f g, f < m → g < m → f < ns.length → g < ns.length → (∀ e, ev ns e f = ev ns e g) → f = g := by
  intro m
  induction m with
  | zero => intro f g hf; omega
  | succ m ih =>
    have main : ∀ f g, f < m + 1 → g < m + 1 → f < ns.length → g < ns.length → (∀ e, ev ns e f = ev ns e g) → lv ns f ≤ lv ns g → f = g := by
      intro f g hf hg lf lg he hle
      rcases Nat.lt_or_ge f 2 with q | q
      · have hg2 : g < 2 := by
          rcases Nat.lt_or_ge g 2 with r | r
          · exact r
          · have := (h.parts r lg).2.2.2.2.2
            rw [lv_end h (by omega)] at hle; omega
        have e0 := he (fun _ => false)
        have a1 : f = 0 ∨ f = 1 := by omega
        have a2 : g = 0 ∨ g = 1 := by omega
        rcases a1 with rfl | rfl <;> rcases a2 with rfl | rfl <;> first | rfl | (simp [ev_zero, ev_one] at e0)
      · obtain ⟨a, b, nab, c, d, -⟩ := h.parts q lf
        rcases Nat.lt_or_eq_of_le hle with r | r
        · exfalso
          apply nab
          refine ih _ _ (by omega) (by omega) (by omega) (by omega) (fun e => ?_)
          rw [ev_low h e q lf, ev_high h e q lf, he, he, ev_hld h _ _ lg r, ev_hld h _ _ lg r]
        · have q' : 2 ≤ g := lv_two h lg (by have := (h.parts q lf).2.2.2.2.2; omega)
          obtain ⟨a', b', nab', c', d', -⟩ := h.parts q' lg
          have el : (ns.getD f bot).l = (ns.getD g bot).l := ih _ _ (by omega) (by omega) (by omega) (by omega) (fun e => by
            rw [ev_low h e q lf, ev_low h e q' lg, he, r])
          have eh : (ns.getD f bot).h = (ns.getD g bot).h := ih _ _ (by omega) (by omega) (by omega) (by omega) (fun e => by
            rw [ev_high h e q lf, ev_high h e q' lg, he, r])
          have en : ns.getD f bot = ns.getD g bot := by
            have ev' : (ns.getD f bot).v = (ns.getD g bot).v := r
            cases hfn : ns.getD f bot; cases hgn : ns.getD g bot
            rw [hfn, hgn] at el eh ev'
            simp only at el eh ev'
            rw [el, eh, ev']
          exact h.inj f g _ (get_of_lt lf) (by rw [en]; exact get_of_lt lg)
    intro f g hf hg lf lg he
    rcases Nat.le_total (lv ns f) (lv ns g) with q | q
    · exact main f g hf hg lf lg he q
    · exact (main g f hg hf lg lf (fun e => (he e).symm) q).symm
theorem one_number {ns : List Nd} (h : WF ns) {f g : Nat} (hf : f < ns.length) (hg : g < ns.length) (he : ∀ e, ev ns e f = ev ns e g) : f = g :=
  canon h (max f g + 1) f g (by omega) (by omega) hf hg he
/-- A set that no bit ahead of L tells apart has its first bit behind. -/
theorem lv_ge {ns : List Nd} (h : WF ns) {f L : Nat} (hf : f < ns.length) (hL : L ≤ 104) (he : ∀ e i b, i < L → ev ns (hld e i b) f = ev ns e f) : L ≤ lv ns f := by
  rcases Nat.lt_or_ge (lv ns f) L with q | q
  · exfalso
    have h2 : 2 ≤ f := lv_two h hf (by omega)
    obtain ⟨a, b, nab, -⟩ := h.parts h2 hf
    exact nab (one_number h (by omega) (by omega) (fun e => by rw [ev_low h e h2 hf, ev_high h e h2 hf, he _ _ _ q, he _ _ _ q]))
  · exact q
/-- More nodes behind. -/
def Ext (ns ns' : List Nd) : Prop := ∃ r, ns' = ns ++ r
theorem Ext.refl (ns : List Nd) : Ext ns ns := ⟨[], by simp⟩
theorem Ext.trans {a b c : List Nd} (h : Ext a b) (k : Ext b c) : Ext a c := by
  obtain ⟨r, rfl⟩ := h; obtain ⟨s, rfl⟩ := k; exact ⟨r ++ s, by simp⟩
theorem Ext.len {a b : List Nd} (h : Ext a b) : a.length ≤ b.length := by obtain ⟨r, rfl⟩ := h; simp
theorem Ext.get {a b : List Nd} (h : Ext a b) {f : Nat} (hf : f < a.length) : b[f]? = a[f]? := by
  obtain ⟨r, rfl⟩ := h; rw [List.getElem?_append_left hf]
theorem Ext.getD {a b : List Nd} (h : Ext a b) {f : Nat} (hf : f < a.length) : b.getD f bot = a.getD f bot := by
  rw [List.getD_eq_getElem?_getD, List.getD_eq_getElem?_getD, h.get hf]
theorem Ext.lv {a b : List Nd} (h : Ext a b) {f : Nat} (hf : f < a.length) : Go.Proofs.Ytioanjpeddipmac.lv b f = Go.Proofs.Ytioanjpeddipmac.lv a f := by
  unfold Go.Proofs.Ytioanjpeddipmac.lv; rw [h.getD hf]
theorem Ext.take {a b : List Nd} (h : Ext a b) : b.take a.length = a := by obtain ⟨r, rfl⟩ := h; simp
theorem Ext.ev {a b : List Nd} (h : Ext a b) (ha : WF a) (hb : WF b) (e : Nat → Bool) : ∀ f, f < a.length → Go.Proofs.Ytioanjpeddipmac.ev b e f = Go.Proofs.Ytioanjpeddipmac.ev a e f := by
  intro f
  induction f using Nat.strongRecOn with
  | ind f ih =>
    intro hf
    rcases Nat.lt_or_ge f 2 with q | q
    · have : f = 0 ∨ f = 1 := by omega
      rcases this with rfl | rfl <;> rfl
    · obtain ⟨x, y, -⟩ := ha.parts q hf
      have := h.len
      rw [ev_node hb e q (by omega), ev_node ha e q hf, h.lv hf, h.getD hf, ih _ x (by omega), ih _ y (by omega)]
/-- A new node that may be. -/
theorem WF.push {ns : List Nd} (h : WF ns) {n : Nd} (hl : n.l < ns.length) (hh : n.h < ns.length) (hn : n.l ≠ n.h) (vl : n.v < lv ns n.l) (vh : n.v < lv ns n.h) (hm : n ∉ ns) : WF (ns ++ [n]) := by
  have hx : Ext ns (ns ++ [n]) := ⟨[n], rfl⟩
  have hlen := h.len
  refine ⟨by rw [hx.get (by omega)]; exact h.z, by rw [hx.get (by omega)]; exact h.o, fun f m h2 hf => ?_, fun f g m hf hg => ?_⟩
  · rcases Nat.lt_or_ge f ns.length with q | q
    · rw [hx.get q] at hf
      obtain ⟨a, b, c, d, e, g⟩ := h.nd f m h2 hf
      exact ⟨a, b, c, by rw [hx.lv (by omega)]; exact d, by rw [hx.lv (by omega)]; exact e, g⟩
    · have := lt_of_get hf
      rw [List.length_append, List.length_singleton] at this
      have : f = ns.length := by omega
      subst this
      rw [List.getElem?_append_right (Nat.le_refl _), Nat.sub_self] at hf
      cases hf
      exact ⟨hl, hh, hn, by rw [hx.lv hl]; exact vl, by rw [hx.lv hh]; exact vh, by have := lv_le h (f := n.l); omega⟩
  · rcases Nat.lt_or_ge f ns.length with q | q
    · rcases Nat.lt_or_ge g ns.length with r | r
      · rw [hx.get q] at hf; rw [hx.get r] at hg; exact h.inj f g m hf hg
      · have := lt_of_get hg
        rw [List.length_append, List.length_singleton] at this
        have : g = ns.length := by omega
        subst this
        rw [List.getElem?_append_right (Nat.le_refl _), Nat.sub_self] at hg
        cases hg
        rw [hx.get q] at hf
        exact absurd (List.mem_of_getElem? hf) hm
    · have := lt_of_get hf
      rw [List.length_append, List.length_singleton] at this
      have : f = ns.length := by omega
      subst this
      rw [List.getElem?_append_right (Nat.le_refl _), Nat.sub_self] at hf
      cases hf
      rcases Nat.lt_or_ge g ns.length with r | r
      · rw [hx.get r] at hg
        exact absurd (List.mem_of_getElem? hg) hm
      · have := lt_of_get hg
        rw [List.length_append, List.length_singleton] at this
        omega
theorem wf_new : WF [bot, top] := by
  refine ⟨rfl, rfl, fun f n h2 hf => ?_, fun f g n hf hg => ?_⟩
  · have := lt_of_get hf; simp at this; omega
  · have a := lt_of_get hf
    have b := lt_of_get hg
    simp at a b
    have a1 : f = 0 ∨ f = 1 := by omega
    have b1 : g = 0 ∨ g = 1 := by omega
    rcases a1 with rfl | rfl <;> rcases b1 with rfl | rfl <;> first | rfl | (exfalso; rw [← hg] at hf; revert hf; decide)
/-- Fewer nodes: those made first. -/
theorem WF.take {ns : List Nd} (h : WF ns) (k : Nat) (hk : 2 ≤ k) : WF (ns.take k) := by
  have hlen := h.len
  have hx : Ext (ns.take k) ns := ⟨ns.drop k, by simp⟩
  have ht : ∀ f n, (ns.take k)[f]? = some n → ns[f]? = some n ∧ f < (ns.take k).length := fun f n hf => ⟨by rw [hx.get (lt_of_get hf)]; exact hf, lt_of_get hf⟩
  refine ⟨by rw [← hx.get (by rw [List.length_take]; omega)]; exact h.z, by rw [← hx.get (by rw [List.length_take]; omega)]; exact h.o, fun f n h2 hf => ?_, fun f g n hf hg => h.inj f g n (ht f n hf).1 (ht g n hg).1⟩
  obtain ⟨e1, e2⟩ := ht f n hf
  obtain ⟨a, b, c, d, e, g⟩ := h.nd f n h2 e1
  exact ⟨a, b, c, by rw [← hx.lv (by omega)]; exact d, by rw [← hx.lv (by omega)]; exact e, g⟩
end Go.Proofs.Ytioanjpeddipmac
