/- Texts joined, in their order: BM, BF. -/
import Derived.KernelRfl
/- Sets as nodes, plain: the program's steps as functions of lists, and what sets they are. No program in sight. -/
namespace Go.Proofs.Ytgcbngephokegab
set_option linter.unusedVariables false

/-- A node: its bit, and its two sets. -/
structure Nd where
  v : Nat
  l : Nat
  h : Nat
  deriving DecidableEq
def bot : Nd := ⟨104, 0, 0⟩
def top : Nd := ⟨104, 1, 1⟩
/-- A set's first bit. -/
def lv (ns : List Nd) (f : Nat) : Nat := (ns.getD f bot).v
/-- Nodes as they may be. -/
structure WF (ns : List Nd) : Prop where
  z : ns[0]? = some bot
  o : ns[1]? = some top
  nd : ∀ (f : Nat) (n : Nd), 2 ≤ f → ns[f]? = some n → n.l < f ∧ n.h < f ∧ n.l ≠ n.h ∧ n.v < lv ns n.l ∧ n.v < lv ns n.h ∧ n.v < 104
  inj : ∀ (f g : Nat) (n : Nd), ns[f]? = some n → ns[g]? = some n → f = g
theorem WF.len {ns : List Nd} (h : WF ns) : 2 ≤ ns.length := by
  have := h.o
  rcases Nat.lt_or_ge 1 ns.length with q | q
  · omega
  · rw [List.getElem?_eq_none q] at this; cases this
/-- Whether a set has a header of these bits. -/
def evF (ns : List Nd) (e : Nat → Bool) : Nat → Nat → Bool
  | 0, f => f == 1
  | k + 1, f => if f ≤ 1 then f == 1 else evF ns e k (if e (ns.getD f bot).v then (ns.getD f bot).h else (ns.getD f bot).l)
def ev (ns : List Nd) (e : Nat → Bool) (f : Nat) : Bool := evF ns e f f
theorem evF_succ (ns : List Nd) (e : Nat → Bool) (k f : Nat) : evF ns e (k + 1) f = if f ≤ 1 then f == 1 else evF ns e k (if e (ns.getD f bot).v then (ns.getD f bot).h else (ns.getD f bot).l) := rfl
theorem getD_some {ns : List Nd} {f : Nat} {n : Nd} (h : ns[f]? = some n) : ns.getD f bot = n := by
  rw [List.getD_eq_getElem?_getD, h]; rfl
theorem get_of_lt {ns : List Nd} {f : Nat} (h : f < ns.length) : ns[f]? = some (ns.getD f bot) := by
  rw [List.getD_eq_getElem?_getD, List.getElem?_eq_getElem h]; rfl
theorem lt_of_get {α : Type} {l : List α} {i : Nat} {x : α} (h : l[i]? = some x) : i < l.length := by
  rcases Nat.lt_or_ge i l.length with q | q
  · exact q
  · rw [List.getElem?_eq_none q] at h; cases h
theorem WF.parts {ns : List Nd} (h : WF ns) {f : Nat} (h2 : 2 ≤ f) (hf : f < ns.length) : (ns.getD f bot).l < f ∧ (ns.getD f bot).h < f ∧ (ns.getD f bot).l ≠ (ns.getD f bot).h ∧ lv ns f < lv ns (ns.getD f bot).l ∧ lv ns f < lv ns (ns.getD f bot).h ∧ lv ns f < 104 :=
  h.nd f _ h2 (get_of_lt hf)
theorem lv_end {ns : List Nd} (h : WF ns) {f : Nat} (hf : f ≤ 1) : lv ns f = 104 := by
  have : f = 0 ∨ f = 1 := by omega
  rcases this with rfl | rfl
  · unfold lv; rw [getD_some h.z]; rfl
  · unfold lv; rw [getD_some h.o]; rfl
theorem lv_le {ns : List Nd} (h : WF ns) {f : Nat} : lv ns f ≤ 104 := by
  rcases Nat.lt_or_ge f ns.length with hf | hf
  · rcases Nat.lt_or_ge f 2 with q | q
    · rw [lv_end h (by omega)]; omega
    · have := (h.parts q hf).2.2.2.2.2; omega
  · unfold lv; rw [List.getD_eq_getElem?_getD, List.getElem?_eq_none hf]; decide
theorem lv_two {ns : List Nd} (h : WF ns) {f : Nat} (hf : f < ns.length) (q : lv ns f < 104) : 2 ≤ f := by
  rcases Nat.lt_or_ge f 2 with r | r
  · rw [lv_end h (by omega)] at q; omega
  · exact r
theorem evF_fuel {ns : List Nd} (h : WF ns) (e : Nat → Bool) : ∀ k f, f ≤ k → f < ns.length → evF ns e k f = ev ns e f := by
  intro k
  induction k using Nat.strongRecOn with
  | ind k ih =>
    intro f hk hf
    match k, f with
    | 0, 0 => rfl
    | 0, f + 1 => omega
    | k + 1, 0 => rfl
    | k + 1, 1 => rfl
    | k + 1, f + 2 =>
      obtain ⟨h1, h2, -⟩ := h.parts (by omega) hf
      unfold ev
      rw [evF_succ, evF_succ, if_neg (show ¬ f + 2 ≤ 1 by omega), if_neg (show ¬ f + 2 ≤ 1 by omega)]
      have a : (if e (ns.getD (f + 2) bot).v = true then (ns.getD (f + 2) bot).h else (ns.getD (f + 2) bot).l) < f + 2 := by split <;> omega
      generalize (if e (ns.getD (f + 2) bot).v = true then (ns.getD (f + 2) bot).h else (ns.getD (f + 2) bot).l) = c at a
      rw [ih k (by omega) c (by omega) (by omega)]
      rcases Nat.lt_or_ge (f + 1) k with q | q
      · rw [ih (f + 1) (by omega) c (by omega) (by omega)]
      · have : f + 1 = k := by omega
        subst this
        rw [ih (f + 1) (by omega) c (by omega) (by omega)]
theorem ev_zero (ns : List Nd) (e : Nat → Bool) : ev ns e 0 = false := rfl
theorem ev_one (ns : List Nd) (e : Nat → Bool) : ev ns e 1 = true := rfl
theorem ev_node {ns : List Nd} (h : WF ns) (e : Nat → Bool) {f : Nat} (h2 : 2 ≤ f) (hf : f < ns.length) :
    ev ns e f = if e (lv ns f) then ev ns e (ns.getD f bot).h else ev ns e (ns.getD f bot).l := by
  obtain ⟨a, b, -⟩ := h.parts h2 hf
  match f, h2 with
  | f + 2, _ =>
    show evF ns e (f + 2) (f + 2) = _
    rw [evF_succ, if_neg (show ¬ f + 2 ≤ 1 by omega)]
    unfold lv
    cases e (ns.getD (f + 2) bot).v
    · simp only [Bool.false_eq_true, if_false]; rw [evF_fuel h e _ _ (by omega) (by omega)]
    · simp only [if_true]; rw [evF_fuel h e _ _ (by omega) (by omega)]
/-- Bits ahead of a set's first one don't matter. -/
theorem ev_free {ns : List Nd} (h : WF ns) : ∀ f, f < ns.length → ∀ e e' : Nat → Bool, (∀ i, lv ns f ≤ i → e i = e' i) → ev ns e f = ev ns e' f := by
  intro f
  induction f using Nat.strongRecOn with
  | ind f ih =>
    intro hf e e' he
    rcases Nat.lt_or_ge f 2 with q | q
    · have : f = 0 ∨ f = 1 := by omega
      rcases this with rfl | rfl <;> rfl
    · obtain ⟨a, b, -, c, d, -⟩ := h.parts q hf
      rw [ev_node h e q hf, ev_node h e' q hf, he _ (Nat.le_refl _)]
      rw [ih _ a (by omega) e e' (fun i hi => he i (by omega)), ih _ b (by omega) e e' (fun i hi => he i (by omega))]
/-- A header with one bit so. -/
def hld (e : Nat → Bool) (i : Nat) (b : Bool) : Nat → Bool := fun k => if k = i then b else e k
theorem hld_same (e : Nat → Bool) (i : Nat) (b : Bool) : hld e i b i = b := by simp [hld]
theorem hld_ne (e : Nat → Bool) {i k : Nat} (b : Bool) (h : k ≠ i) : hld e i b k = e k := by simp [hld, h]
theorem hld_self (e : Nat → Bool) (i : Nat) : hld e i (e i) = e := by funext k; unfold hld; split <;> simp_all
theorem ev_low {ns : List Nd} (h : WF ns) (e : Nat → Bool) {f : Nat} (h2 : 2 ≤ f) (hf : f < ns.length) : ev ns e (ns.getD f bot).l = ev ns (hld e (lv ns f) false) f := by
  obtain ⟨a, b, -, c, d, -⟩ := h.parts h2 hf
  rw [ev_node h _ h2 hf, hld_same]
  simp only [Bool.false_eq_true, if_false]
  exact ev_free h _ (by omega) _ _ (fun i hi => (hld_ne _ _ (by omega)).symm)
theorem ev_high {ns : List Nd} (h : WF ns) (e : Nat → Bool) {f : Nat} (h2 : 2 ≤ f) (hf : f < ns.length) : ev ns e (ns.getD f bot).h = ev ns (hld e (lv ns f) true) f := by
  obtain ⟨a, b, -, c, d, -⟩ := h.parts h2 hf
  rw [ev_node h _ h2 hf, hld_same]
  simp only [if_true]
  exact ev_free h _ (by omega) _ _ (fun i hi => (hld_ne _ _ (by omega)).symm)
theorem ev_hld {ns : List Nd} (h : WF ns) (e : Nat → Bool) {f i : Nat} (b : Bool) (hf : f < ns.length) (hi : i < lv ns f) : ev ns (hld e i b) f = ev ns e f :=
  ev_free h _ hf _ _ (fun k hk => hld_ne _ _ (by omega))
/-- A set has one number. -/
theorem canon {ns : List Nd} (h : WF ns) : ∀ m f g, f < m → g < m → f < ns.length → g < ns.length → (∀ e, ev ns e f = ev ns e g) → f = g := by
  intro m
  induction m with
  | zero => intro f g hf; omega
  | succ m ih =>
    have main : ∀ f g, f < m + 1 → g < m + 1 → f < ns.length → g < ns.length → (∀ e, ev ns e f = ev ns e g) → lv ns f ≤ lv ns g → f = g := by
      intro f g hf hg lf lg he hle
      rcases Nat.lt_or_ge f 2 with q | q
      · have hg2 : g < 2 := by
          rcases Nat.lt_or_ge g 2 with r | r
          · exact r
          · have := (h.parts r lg).2.2.2.2.2
            rw [lv_end h (by omega)] at hle; omega
        have e0 := he (fun _ => false)
        have a1 : f = 0 ∨ f = 1 := by omega
        have a2 : g = 0 ∨ g = 1 := by omega
        rcases a1 with rfl | rfl <;> rcases a2 with rfl | rfl <;> first | rfl | (simp [ev_zero, ev_one] at e0)
      · obtain ⟨a, b, nab, c, d, -⟩ := h.parts q lf
        rcases Nat.lt_or_eq_of_le hle with r | r
        · exfalso
          apply nab
          refine ih _ _ (by omega) (by omega) (by omega) (by omega) (fun e => ?_)
          rw [ev_low h e q lf, ev_high h e q lf, he, he, ev_hld h _ _ lg r, ev_hld h _ _ lg r]
        · have q' : 2 ≤ g := lv_two h lg (by have := (h.parts q lf).2.2.2.2.2; omega)
          obtain ⟨a', b', nab', c', d', -⟩ := h.parts q' lg
          have el : (ns.getD f bot).l = (ns.getD g bot).l := ih _ _ (by omega) (by omega) (by omega) (by omega) (fun e => by
            rw [ev_low h e q lf, ev_low h e q' lg, he, r])
          have eh : (ns.getD f bot).h = (ns.getD g bot).h := ih _ _ (by omega) (by omega) (by omega) (by omega) (fun e => by
            rw [ev_high h e q lf, ev_high h e q' lg, he, r])
          have en : ns.getD f bot = ns.getD g bot := by
            have ev' : (ns.getD f bot).v = (ns.getD g bot).v := r
            cases hfn : ns.getD f bot; cases hgn : ns.getD g bot
            rw [hfn, hgn] at el eh ev'
            simp only at el eh ev'
            rw [el, eh, ev']
          exact h.inj f g _ (get_of_lt lf) (by rw [en]; exact get_of_lt lg)
    intro f g hf hg lf lg he
    rcases Nat.le_total (lv ns f) (lv ns g) with q | q
    · exact main f g hf hg lf lg he q
    · exact (main g f hg hf lg lf (fun e => (he e).symm) q).symm
theorem one_number {ns : List Nd} (h : WF ns) {f g : Nat} (hf : f < ns.length) (hg : g < ns.length) (he : ∀ e, ev ns e f = ev ns e g) : f = g :=
  canon h (max f g + 1) f g (by omega) (by omega) hf hg he
/-- A set that no bit ahead of L tells apart has its first bit behind. -/
theorem lv_ge {ns : List Nd} (h : WF ns) {f L : Nat} (hf : f < ns.length) (hL : L ≤ 104) (he : ∀ e i b, i < L → ev ns (hld e i b) f = ev ns e f) : L ≤ lv ns f := by
  rcases Nat.lt_or_ge (lv ns f) L with q | q
  · exfalso
    have h2 : 2 ≤ f := lv_two h hf (by omega)
    obtain ⟨a, b, nab, -⟩ := h.parts h2 hf
    exact nab (one_number h (by omega) (by omega) (fun e => by rw [ev_low h e h2 hf, ev_high h e h2 hf, he _ _ _ q, he _ _ _ q]))
  · exact q
/-- More nodes behind. -/
def Ext (ns ns' : List Nd) : Prop := ∃ r, ns' = ns ++ r
theorem Ext.refl (ns : List Nd) : Ext ns ns := ⟨[], by simp⟩
theorem Ext.trans {a b c : List Nd} (h : Ext a b) (k : Ext b c) : Ext a c := by
  obtain ⟨r, rfl⟩ := h; obtain ⟨s, rfl⟩ := k; exact ⟨r ++ s, by simp⟩
theorem Ext.len {a b : List Nd} (h : Ext a b) : a.length ≤ b.length := by obtain ⟨r, rfl⟩ := h; simp
theorem Ext.get {a b : List Nd} (h : Ext a b) {f : Nat} (hf : f < a.length) : b[f]? = a[f]? := by
  obtain ⟨r, rfl⟩ := h; rw [List.getElem?_append_left hf]
theorem Ext.getD {a b : List Nd} (h : Ext a b) {f : Nat} (hf : f < a.length) : b.getD f bot = a.getD f bot := by
  rw [List.getD_eq_getElem?_getD, List.getD_eq_getElem?_getD, h.get hf]
theorem Ext.lv {a b : List Nd} (h : Ext a b) {f : Nat} (hf : f < a.length) : Go.Proofs.Ytgcbngephokegab.lv b f = Go.Proofs.Ytgcbngephokegab.lv a f := by
  unfold Go.Proofs.Ytgcbngephokegab.lv; rw [h.getD hf]
theorem Ext.take {a b : List Nd} (h : Ext a b) : b.take a.length = a := by obtain ⟨r, rfl⟩ := h; simp
theorem Ext.ev {a b : List Nd} (h : Ext a b) (ha : WF a) (hb : WF b) (e : Nat → Bool) : ∀ f, f < a.length → Go.Proofs.Ytgcbngephokegab.ev b e f = Go.Proofs.Ytgcbngephokegab.ev a e f := by
  intro f
  induction f using Nat.strongRecOn with
  | ind f ih =>
    intro hf
    rcases Nat.lt_or_ge f 2 with q | q
    · have : f = 0 ∨ f = 1 := by omega
      rcases this with rfl | rfl <;> rfl
    · obtain ⟨x, y, -⟩ := ha.parts q hf
      have := h.len
      rw [ev_node hb e q (by omega), ev_node ha e q hf, h.lv hf, h.getD hf, ih _ x (by omega), ih _ y (by omega)]
/-- A new node that may be. -/
theorem WF.push {ns : List Nd} (h : WF ns) {n : Nd} (hl : n.l < ns.length) (hh : n.h < ns.length) (hn : n.l ≠ n.h) (vl : n.v < lv ns n.l) (vh : n.v < lv ns n.h) (hm : n ∉ ns) : WF (ns ++ [n]) := by
  have hx : Ext ns (ns ++ [n]) := ⟨[n], rfl⟩
  have hlen := h.len
  refine ⟨by rw [hx.get (by omega)]; exact h.z, by rw [hx.get (by omega)]; exact h.o, fun f m h2 hf => ?_, fun f g m hf hg => ?_⟩
  · rcases Nat.lt_or_ge f ns.length with q | q
    · rw [hx.get q] at hf
      obtain ⟨a, b, c, d, e, g⟩ := h.nd f m h2 hf
      exact ⟨a, b, c, by rw [hx.lv (by omega)]; exact d, by rw [hx.lv (by omega)]; exact e, g⟩
    · have := lt_of_get hf
      rw [List.length_append, List.length_singleton] at this
      have : f = ns.length := by omega
      subst this
      rw [List.getElem?_append_right (Nat.le_refl _), Nat.sub_self] at hf
      cases hf
      exact ⟨hl, hh, hn, by rw [hx.lv hl]; exact vl, by rw [hx.lv hh]; exact vh, by have := lv_le h (f := n.l); omega⟩
  · rcases Nat.lt_or_ge f ns.length with q | q
    · rcases Nat.lt_or_ge g ns.length with r | r
      · rw [hx.get q] at hf; rw [hx.get r] at hg; exact h.inj f g m hf hg
      · have := lt_of_get hg
        rw [List.length_append, List.length_singleton] at this
        have : g = ns.length := by omega
        subst this
        rw [List.getElem?_append_right (Nat.le_refl _), Nat.sub_self] at hg
        cases hg
        rw [hx.get q] at hf
        exact absurd (List.mem_of_getElem? hf) hm
    · have := lt_of_get hf
      rw [List.length_append, List.length_singleton] at this
      have : f = ns.length := by omega
      subst this
      rw [List.getElem?_append_right (Nat.le_refl _), Nat.sub_self] at hf
      cases hf
      rcases Nat.lt_or_ge g ns.length with r | r
      · rw [hx.get r] at hg
        exact absurd (List.mem_of_getElem? hg) hm
      · have := lt_of_get hg
        rw [List.length_append, List.length_singleton] at this
        omega
theorem wf_new : WF [bot, top] := by
  refine ⟨rfl, rfl, fun f n h2 hf => ?_, fun f g n hf hg => ?_⟩
  · have := lt_of_get hf; simp at this; omega
  · have a := lt_of_get hf
    have b := lt_of_get hg
    simp at a b
    have a1 : f = 0 ∨ f = 1 := by omega
    have b1 : g = 0 ∨ g = 1 := by omega
    rcases a1 with rfl | rfl <;> rcases b1 with rfl | rfl <;> first | rfl | (exfalso; rw [← hg] at hf; revert hf; decide)
/-- Fewer nodes: those made first. -/
theorem WF.take {ns : List Nd} (h : WF ns) (k : Nat) (hk : 2 ≤ k) : WF (ns.take k) := by
  have hlen := h.len
  have hx : Ext (ns.take k) ns := ⟨ns.drop k, by simp⟩
  have ht : ∀ f n, (ns.take k)[f]? = some n → ns[f]? = some n ∧ f < (ns.take k).length := fun f n hf => ⟨by rw [hx.get (lt_of_get hf)]; exact hf, lt_of_get hf⟩
  refine ⟨by rw [← hx.get (by rw [List.length_take]; omega)]; exact h.z, by rw [← hx.get (by rw [List.length_take]; omega)]; exact h.o, fun f n h2 hf => ?_, fun f g n hf hg => h.inj f g n (ht f n hf).1 (ht g n hg).1⟩
  obtain ⟨e1, e2⟩ := ht f n hf
  obtain ⟨a, b, c, d, e, g⟩ := h.nd f n h2 e1
  exact ⟨a, b, c, by rw [← hx.lv (by omega)]; exact d, by rw [← hx.lv (by omega)]; exact e, g⟩
end Go.Proofs.Ytgcbngephokegab
/- The program's steps on sets, as functions of lists: a node's number, two sets joined; what they come to. No program in sight. -/
namespace Go.Proofs.Ytgcbngephokegab
set_option linter.unusedVariables false

/-- Where a node stands. -/
def lookN (n : Nd) : List Nd → Option Nat
  | [] => none
  | x :: r => if x = n then some 0 else (lookN n r).map (· + 1)
theorem lookN_some {n : Nd} : ∀ {ns : List Nd} {f : Nat}, lookN n ns = some f → ns[f]? = some n
  | [], f, h => by cases h
  | x :: r, f, h => by
    unfold lookN at h
    split at h
    · rename_i e; subst e; cases h; rfl
    · cases hr : lookN n r with
      | none => rw [hr] at h; cases h
      | some g => rw [hr] at h; cases h; simpa using lookN_some hr
theorem lookN_none {n : Nd} : ∀ {ns : List Nd}, lookN n ns = none → n ∉ ns
  | [], h => by simp
  | x :: r, h => by
    unfold lookN at h
    split at h
    · cases h
    · rename_i e
      cases hr : lookN n r with
      | none => simp only [List.mem_cons, not_or]; exact ⟨fun q => e q.symm, lookN_none hr⟩
      | some g => rw [hr] at h; cases h
/-- A node's number: what there is, or a new one, or none for want of room. -/
def numF (most : Nat) (ns : List Nd) (n : Nd) : Option Nat × List Nd :=
  if n.l = n.h then (some n.l, ns) else
  match lookN n ns with
  | some f => (some f, ns)
  | none => if most ≤ ns.length then (none, ns) else (some ns.length, ns ++ [n])
/-- What two sets are joined to where no bit is looked at. -/
def plainF (kind f g : Nat) : Option Nat :=
  if kind = 0 then (if f = 0 ∨ g = 0 then some 0 else if f = 1 then some g else if g = 1 ∨ f = g then some f else none)
  else if kind = 1 then (if f = 1 ∨ g = 1 then some 1 else if f = 0 then some g else if g = 0 ∨ f = g then some f else none)
  else if kind = 2 then (if f = g then some 0 else if f = 0 then some g else if g = 0 then some f else none)
  else (if f = 0 ∨ g = 1 ∨ f = g then some 0 else if g = 0 then some f else none)
def opB (kind : Nat) (a b : Bool) : Bool :=
  if kind = 0 then a && b else if kind = 1 then a || b else if kind = 2 then a != b else a && !b
/-- A set's two parts for a bit that is its first one, or ahead of that. -/
def partF (ns : List Nd) (f lev : Nat) : Nd := if (ns.getD f bot).v = lev then ns.getD f bot else ⟨lev, f, f⟩
/-- Pairs that were joined. -/
abbrev Memo := List ((Nat × Nat) × Nat)
def lookM (k : Nat × Nat) : Memo → Option Nat
  | [] => none
  | x :: r => if x.1 = k then some x.2 else lookM k r
theorem lookM_some {k : Nat × Nat} : ∀ {m : Memo} {r : Nat}, lookM k m = some r → (k, r) ∈ m
  | [], r, h => by cases h
  | x :: m, r, h => by
    unfold lookM at h
    split at h
    · rename_i e; cases h; subst e; simp
    · exact List.mem_cons_of_mem _ (lookM_some h)
theorem lookM_none {k : Nat × Nat} : ∀ {m : Memo}, lookM k m = none → k ∉ m.map (·.1)
  | [], h => by simp
  | x :: m, h => by
    unfold lookM at h
    split at h
    · cases h
    · rename_i e
      simp only [List.map_cons, List.mem_cons, not_or]
      exact ⟨fun q => e q.symm, lookM_none h⟩
/-- Two sets joined, bit by bit. -/
def pairF (kind most : Nat) : Nat → List Nd → Memo → Nat → Nat → Option Nat × List Nd × Memo
  | 0, ns, m, f, g => (none, ns, m)
  | k + 1, ns, m, f, g =>
    match plainF kind f g with
    | some r => (some r, ns, m)
    | none =>
      match lookM (f, g) m with
      | some r => (some r, ns, m)
      | none =>
        match pairF kind most k ns m (partF ns f (min (lv ns f) (lv ns g))).l (partF ns g (min (lv ns f) (lv ns g))).l with
        | (none, ns1, m1) => (none, ns1, m1)
        | (some lo, ns1, m1) =>
          match pairF kind most k ns1 m1 (partF ns f (min (lv ns f) (lv ns g))).h (partF ns g (min (lv ns f) (lv ns g))).h with
          | (none, ns2, m2) => (none, ns2, m2)
          | (some hi, ns2, m2) =>
            match numF most ns2 ⟨min (lv ns f) (lv ns g), lo, hi⟩ with
            | (none, ns3) => (none, ns3, m2)
            | (some r, ns3) => (some r, ns3, ((f, g), r) :: m2)
/-- All nodes' bits are among these. -/
def Bits (B : Nat → Bool) (ns : List Nd) : Prop := ∀ f n, 2 ≤ f → ns[f]? = some n → B n.v = true
/-- How many of these bits there are from L on (up to L + k). -/
def cnt (B : Nat → Bool) (L : Nat) : Nat → Nat
  | 0 => 0
  | k + 1 => cnt B L k + (if B (L + k) then 1 else 0)
def cB (B : Nat → Bool) (L : Nat) : Nat := cnt B L (104 - L)
theorem cnt_head (B : Nat → Bool) (L : Nat) : ∀ k, cnt B L (k + 1) = (if B L then 1 else 0) + cnt B (L + 1) k
  | 0 => by simp [cnt]
  | k + 1 => by
    have := cnt_head B L k
    rw [show cnt B L (k + 1 + 1) = cnt B L (k + 1) + (if B (L + (k + 1)) then 1 else 0) from rfl, this]
    rw [show cnt B (L + 1) (k + 1) = cnt B (L + 1) k + (if B (L + 1 + k) then 1 else 0) from rfl, show L + 1 + k = L + (k + 1) by omega]
    omega
theorem cB_step {B : Nat → Bool} {L : Nat} (hL : L < 104) (hB : B L = true) : cB B L = cB B (L + 1) + 1 := by
  unfold cB
  rw [show 104 - L = (104 - (L + 1)) + 1 by omega, cnt_head, if_pos hB]; omega
theorem cB_mono {B : Nat → Bool} {L M : Nat} (h : L ≤ M) : cB B M ≤ cB B L := by
  induction M with
  | zero => have : L = 0 := by omega
            subst this; exact Nat.le_refl _
  | succ M ih =>
    rcases Nat.eq_or_lt_of_le h with rfl | q
    · exact Nat.le_refl _
    · have := ih (by omega)
      rcases Nat.lt_or_ge M 104 with r | r
      · have e : cB B M = (if B M then 1 else 0) + cB B (M + 1) := by
          unfold cB; rw [show 104 - M = (104 - (M + 1)) + 1 by omega, cnt_head]
        omega
      · have : cB B (M + 1) = 0 := by unfold cB; rw [show 104 - (M + 1) = 0 by omega]; rfl
        omega
/-- What a step that makes the set φ leaves. -/
structure Made (most : Nat) (ns ns' : List Nd) (φ : (Nat → Bool) → Bool) (r : Option Nat) (L : Nat) : Prop where
  wf : WF ns'
  ext : Ext ns ns'
  room : ns'.length ≤ max most ns.length
  full : r = none → most ≤ ns'.length
  set : ∀ q, r = some q → q < ns'.length ∧ ∀ e, ev ns' e q = φ e
  old : (∃ q, q < ns.length ∧ ∀ e, ev ns e q = φ e) → ns' = ns ∧ r ≠ none
  few : ∀ B, Bits B ns → Bits B ns' ∧ ns'.length + 1 ≤ ns.length + 2 ^ cB B L
theorem Made.none {most : Nat} {ns ns' : List Nd} {φ : (Nat → Bool) → Bool} {L M : Nat} (h : Made most ns ns' φ none L) (hL : M ≤ L) : Made most ns ns' φ none M :=
  ⟨h.wf, h.ext, h.room, h.full, fun q hq => (by cases hq), h.old, fun B hB => ⟨(h.few B hB).1, Nat.le_trans (h.few B hB).2 (Nat.add_le_add_left (Nat.pow_le_pow_right (by omega) (cB_mono hL)) _)⟩⟩
theorem made_id {most : Nat} {ns : List Nd} (h : WF ns) {φ : (Nat → Bool) → Bool} {q L : Nat} (hq : q < ns.length) (he : ∀ e, ev ns e q = φ e) : Made most ns ns φ (some q) L :=
  ⟨h, Ext.refl _, (by omega), fun e => (by cases e), fun p hp => (by cases hp; exact ⟨hq, he⟩), fun _ => ⟨rfl, by simp⟩, fun B hB => ⟨hB, by have := Nat.two_pow_pos (cB B L); omega⟩⟩
/-- A node's number is the set of that node. -/
theorem num_made {most : Nat} {ns : List Nd} (h : WF ns) {n : Nd} (hl : n.l < ns.length) (hh : n.h < ns.length) (vl : n.v < lv ns n.l) (vh : n.v < lv ns n.h) {φ : (Nat → Bool) → Bool} (he : ∀ e, φ e = if e n.v then ev ns e n.h else ev ns e n.l) :
    WF (numF most ns n).2 ∧ Ext ns (numF most ns n).2 ∧ (numF most ns n).2.length ≤ max most ns.length ∧ ((numF most ns n).1 = none → most ≤ (numF most ns n).2.length ∧ (numF most ns n).2 = ns) ∧
    (∀ q, (numF most ns n).1 = some q → q < (numF most ns n).2.length ∧ ∀ e, ev (numF most ns n).2 e q = φ e) ∧ ((∃ q, q < ns.length ∧ ∀ e, ev ns e q = φ e) → (numF most ns n).2 = ns ∧ (numF most ns n).1 ≠ none) ∧
    (numF most ns n).2.length ≤ ns.length + 1 ∧ ∀ B, Bits B ns → B n.v = true → Bits B (numF most ns n).2 := by
  by_cases hn : n.l = n.h
  · have e : numF most ns n = (some n.l, ns) := by unfold numF; rw [if_pos hn]
    rw [e]
    dsimp only
    have hev : ∀ e, ev ns e n.l = φ e := fun e => by rw [he, ← hn]; split <;> rfl
    refine ⟨h, Ext.refl _, by omega, fun q => (by cases q), fun q hq => (by cases hq; exact ⟨hl, hev⟩), fun _ => ⟨rfl, by simp⟩, by simp, fun B hB _ => hB⟩
  · cases hk : lookN n ns with
    | some f =>
      have e : numF most ns n = (some f, ns) := by unfold numF; rw [if_neg hn, hk]
      rw [e]
      have hf := lookN_some hk
      have hlt := lt_of_get hf
      have h2 : 2 ≤ f := by
        rcases Nat.lt_or_ge f 2 with q | q
        · exfalso
          have : f = 0 ∨ f = 1 := by omega
          rcases this with rfl | rfl
          · rw [h.z] at hf; cases hf; exact hn rfl
          · rw [h.o] at hf; cases hf; exact hn rfl
        · exact q
      have hev : ∀ e, ev ns e f = φ e := fun e => by
        rw [ev_node h e h2 hlt, he]
        unfold lv
        rw [getD_some hf]
      dsimp only
      exact ⟨h, Ext.refl _, by omega, fun q => (by cases q), fun q hq => (by cases hq; exact ⟨hlt, hev⟩), fun _ => ⟨rfl, by simp⟩, by simp, fun B hB _ => hB⟩
    | none =>
      have hm := lookN_none hk
      have hw := h.push hl hh hn vl vh hm
      have hx : Ext ns (ns ++ [n]) := ⟨[n], rfl⟩
      have hlen : (ns ++ [n]).length = ns.length + 1 := by simp
      have hev : ∀ e, ev (ns ++ [n]) e ns.length = φ e := fun e => by
        have h2 := h.len
        have hg : (ns ++ [n]).getD ns.length bot = n := getD_some (by simp)
        rw [ev_node hw e h2 (by omega), hg, he, hx.ev h hw e _ hl, hx.ev h hw e _ hh]
        unfold lv
        rw [hg]
      have hno : ¬ ∃ q, q < ns.length ∧ ∀ e, ev ns e q = φ e := fun ⟨q, hq, hqe⟩ => by
        have := one_number hw (f := q) (g := ns.length) (by omega) (by omega) (fun e => by rw [hx.ev h hw e q hq, hqe, hev])
        omega
      by_cases hr : most ≤ ns.length
      · have e : numF most ns n = (none, ns) := by unfold numF; rw [if_neg hn, hk]; simp only; rw [if_pos hr]
        rw [e]
        dsimp only
        exact ⟨h, Ext.refl _, by omega, fun _ => ⟨hr, rfl⟩, fun q hq => (by cases hq), fun q => absurd q hno, by simp, fun B hB _ => hB⟩
      · have e : numF most ns n = (some ns.length, ns ++ [n]) := by unfold numF; rw [if_neg hn, hk]; simp only; rw [if_neg hr]
        rw [e]
        refine ⟨hw, hx, by simp; omega, fun q => (by cases q), fun q hq => (by cases hq; exact ⟨by simp, hev⟩), fun q => absurd q hno, by simp, fun B hB hv => fun f m h2 hf => ?_⟩
        rcases Nat.lt_or_ge f ns.length with q | q
        · rw [hx.get q] at hf; exact hB f m h2 hf
        · have : f < (ns ++ [n]).length := lt_of_get hf
          have : f = ns.length := by omega
          subst this
          rw [List.getElem?_append_right (Nat.le_refl _), Nat.sub_self] at hf
          cases hf; exact hv
theorem plain_set {kind f g r : Nat} (h : plainF kind f g = some r) (ns : List Nd) (hf : f < ns.length) (hg : g < ns.length) (h2 : 2 ≤ ns.length) : r < ns.length ∧ ∀ e, ev ns e r = opB kind (ev ns e f) (ev ns e g) := by
  by_cases k0 : kind = 0
  · subst k0
    have o : ∀ a b, opB 0 a b = (a && b) := fun _ _ => rfl
    simp only [o]
    simp only [plainF, if_true] at h
    split at h
    · cases h; rename_i q; refine ⟨by omega, fun e => ?_⟩; rcases q with rfl | rfl <;> simp [ev_zero]
    · split at h
      · cases h; rename_i q; subst q; exact ⟨hg, fun e => by simp [ev_one]⟩
      · split at h
        · cases h; rename_i q; refine ⟨hf, fun e => ?_⟩; rcases q with rfl | rfl <;> simp [ev_one]
        · cases h
  by_cases k1 : kind = 1
  · subst k1
    have o : ∀ a b, opB 1 a b = (a || b) := fun _ _ => rfl
    simp only [o]
    simp only [plainF, if_neg k0, if_true] at h
    split at h
    · cases h; rename_i q; refine ⟨by omega, fun e => ?_⟩; rcases q with rfl | rfl <;> simp [ev_one]
    · split at h
      · cases h; rename_i q; subst q; exact ⟨hg, fun e => by simp [ev_zero]⟩
      · split at h
        · cases h; rename_i q; refine ⟨hf, fun e => ?_⟩; rcases q with rfl | rfl <;> simp [ev_zero]
        · cases h
  by_cases k2 : kind = 2
  · subst k2
    have o : ∀ a b, opB 2 a b = (a != b) := fun _ _ => rfl
    simp only [o]
    simp only [plainF, if_neg k0, if_neg k1, if_true] at h
    split at h
    · cases h; rename_i q; subst q; exact ⟨by omega, fun e => by simp [ev_zero]⟩
    · split at h
      · cases h; rename_i q; subst q; exact ⟨hg, fun e => by simp [ev_zero]⟩
      · split at h
        · cases h; rename_i q; subst q; exact ⟨hf, fun e => by simp [ev_zero]⟩
        · cases h
  · have o : ∀ a b, opB kind a b = (a && !b) := fun _ _ => by simp only [opB, if_neg k0, if_neg k1, if_neg k2]
    simp only [o]
    simp only [plainF, if_neg k0, if_neg k1, if_neg k2] at h
    split at h
    · cases h; rename_i q; refine ⟨by omega, fun e => ?_⟩; rcases q with rfl | rfl | rfl <;> simp [ev_zero, ev_one]
    · split at h
      · cases h; rename_i q; subst q; exact ⟨hf, fun e => by simp [ev_zero]⟩
      · cases h
theorem plain_ends {kind f g : Nat} (hf : f ≤ 1) (hg : g ≤ 1) : plainF kind f g ≠ none := by
  have a : f = 0 ∨ f = 1 := by omega
  have b : g = 0 ∨ g = 1 := by omega
  unfold plainF
  rcases a with rfl | rfl <;> rcases b with rfl | rfl <;> simp <;> (repeat' split) <;> simp_all
/-- What is remembered is right. -/
structure MV (kind : Nat) (ns : List Nd) (m : Memo) : Prop where
  ok : ∀ p ∈ m, p.1.1 < ns.length ∧ p.1.2 < ns.length ∧ p.2 < ns.length ∧ ∀ e, ev ns e p.2 = opB kind (ev ns e p.1.1) (ev ns e p.1.2)
  one : (m.map (·.1)).Nodup
theorem MV.ext {kind : Nat} {ns ns' : List Nd} {m : Memo} (h : MV kind ns m) (hx : Ext ns ns') (hw : WF ns) (hw' : WF ns') : MV kind ns' m :=
  ⟨fun p hp => by
    obtain ⟨a, b, c, d⟩ := h.ok p hp
    have := hx.len
    exact ⟨by omega, by omega, by omega, fun e => by rw [hx.ev hw hw' e _ a, hx.ev hw hw' e _ b, hx.ev hw hw' e _ c, d]⟩, h.one⟩
theorem part_ok {ns : List Nd} (h : WF ns) {f L : Nat} (hf : f < ns.length) (hL : L ≤ lv ns f) (h104 : L < 104) :
    (partF ns f L).l < ns.length ∧ (partF ns f L).h < ns.length ∧ L < lv ns (partF ns f L).l ∧ L < lv ns (partF ns f L).h ∧
    (∀ e, ev ns e (partF ns f L).l = ev ns (hld e L false) f) ∧ (∀ e, ev ns e (partF ns f L).h = ev ns (hld e L true) f) := by
  unfold partF
  split
  · rename_i q
    have q' : lv ns f = L := q
    have h2 := lv_two h hf (by omega)
    obtain ⟨a, b, -, c, d, -⟩ := h.parts h2 hf
    refine ⟨by omega, by omega, by omega, by omega, fun e => ?_, fun e => ?_⟩
    · rw [ev_low h e h2 hf, q']
    · rw [ev_high h e h2 hf, q']
  · rename_i q
    have : lv ns f ≠ L := q
    refine ⟨hf, hf, by show L < lv ns f; omega, by show L < lv ns f; omega, fun e => ?_, fun e => ?_⟩
    · exact (ev_hld h e _ hf (by omega)).symm
    · exact (ev_hld h e _ hf (by omega)).symm
theorem opB_hld {ns : List Nd} (h : WF ns) (kind : Nat) {f g : Nat} (hf : f < ns.length) (hg : g < ns.length) (e : Nat → Bool) (i : Nat) (b : Bool) (hi : i < min (lv ns f) (lv ns g)) :
    opB kind (ev ns (hld e i b) f) (ev ns (hld e i b) g) = opB kind (ev ns e f) (ev ns e g) := by
  rw [ev_hld h e b hf (by omega), ev_hld h e b hg (by omega)]
/-- A set's cofactors are sets' too. -/
theorem cof {ns : List Nd} (h : WF ns) {q L : Nat} (hq : q < ns.length) (hL : L < 104) {φ : (Nat → Bool) → Bool} (he : ∀ e, ev ns e q = φ e) (hfree : ∀ e i b, i < L → φ (hld e i b) = φ e) (b : Bool) : ∃ p, p < ns.length ∧ ∀ e, ev ns e p = φ (hld e L b) := by
  have hge : L ≤ lv ns q := lv_ge h hq (by omega) (fun e i b hi => by rw [he, he, hfree e i b hi])
  obtain ⟨a, b', -, -, c, d⟩ := part_ok h hq hge hL
  cases b
  · exact ⟨_, a, fun e => by rw [c, he]⟩
  · exact ⟨_, b', fun e => by rw [d, he]⟩
theorem pairF_made (kind most : Nat) : ∀ (k : Nat) (ns : List Nd) (m : Memo) (f g : Nat), WF ns → MV kind ns m → f < ns.length → g < ns.length → 105 ≤ k + min (lv ns f) (lv ns g) →
    Made most ns (pairF kind most k ns m f g).2.1 (fun e => opB kind (ev ns e f) (ev ns e g)) (pairF kind most k ns m f g).1 (min (lv ns f) (lv ns g)) ∧ MV kind (pairF kind most k ns m f g).2.1 (pairF kind most k ns m f g).2.2 ∧
    ∀ p ∈ (pairF kind most k ns m f g).2.2, p ∈ m ∨ (min (lv ns f) (lv ns g) ≤ lv (pairF kind most k ns m f g).2.1 p.1.1 ∧ min (lv ns f) (lv ns g) ≤ lv (pairF kind most k ns m f g).2.1 p.1.2) := by
  intro k
  induction k with
  | zero => intro ns m f g h _ hf hg hk; have := lv_le h (f := f); omega
  | succ k ih =>
    intro ns m f g h hm hf hg hk
    have h2 := h.len
    cases hp : plainF kind f g with
    | some r =>
      have e : pairF kind most (k + 1) ns m f g = (some r, ns, m) := by unfold pairF; rw [hp]
      rw [e]
      obtain ⟨a, b⟩ := plain_set hp ns hf hg h2
      exact ⟨made_id h a b, hm, fun p hp => Or.inl hp⟩
    | none =>
      cases hl : lookM (f, g) m with
      | some r =>
        have e : pairF kind most (k + 1) ns m f g = (some r, ns, m) := by unfold pairF; rw [hp]; simp only; rw [hl]
        rw [e]
        obtain ⟨-, -, a, b⟩ := hm.ok _ (lookM_some hl)
        exact ⟨made_id h a b, hm, fun p hp => Or.inl hp⟩
      | none =>
        obtain ⟨L, hL⟩ : ∃ L, min (lv ns f) (lv ns g) = L := ⟨_, rfl⟩
        have hL104 : L < 104 := by
          rcases Nat.lt_or_ge L 104 with q | q
          · exact q
          · exfalso
            have a : f ≤ 1 := by
              rcases Nat.lt_or_ge f 2 with r | r
              · omega
              · have := (h.parts r hf).2.2.2.2.2; omega
            have b : g ≤ 1 := by
              rcases Nat.lt_or_ge g 2 with r | r
              · omega
              · have := (h.parts r hg).2.2.2.2.2; omega
            exact plain_ends a b hp
        obtain ⟨xl, xh, xvl, xvh, xel, xeh⟩ := part_ok h hf (L := L) (by omega) hL104
        obtain ⟨yl, yh, yvl, yvh, yel, yeh⟩ := part_ok h hg (L := L) (by omega) hL104
        have hfree : ∀ e i b, i < L → opB kind (ev ns (hld e i b) f) (ev ns (hld e i b) g) = opB kind (ev ns e f) (ev ns e g) := fun e i b hi => opB_hld h kind hf hg e i b (by omega)
        have hBL : ∀ B, Bits B ns → B L = true := fun B hB => by
          rcases Nat.le_total (lv ns f) (lv ns g) with q | q
          · have e1 : lv ns f = L := by omega
            rw [← e1]; exact hB f _ (lv_two h hf (by omega)) (get_of_lt hf)
          · have e1 : lv ns g = L := by omega
            rw [← e1]; exact hB g _ (lv_two h hg (by omega)) (get_of_lt hg)
        -- low
        have I1 := ih ns m (partF ns f L).l (partF ns g L).l h hm xl yl (by omega)
        obtain ⟨r1, ns1, m1, e1⟩ : ∃ r1 ns1 m1, pairF kind most k ns m (partF ns f L).l (partF ns g L).l = (r1, ns1, m1) := ⟨_, _, _, rfl⟩
        rw [e1] at I1
        obtain ⟨M1, V1, N1⟩ := I1
        simp only at M1 V1 N1
        have old1 : (∃ q, q < ns.length ∧ ∀ e, ev ns e q = opB kind (ev ns e f) (ev ns e g)) → ns1 = ns ∧ r1 ≠ none := fun ⟨q, hq, he⟩ => by
          obtain ⟨p, hp1, hp2⟩ := cof h hq hL104 he hfree false
          exact M1.old ⟨p, hp1, fun e => by rw [hp2, xel, yel]⟩
        have few1 : ∀ B, Bits B ns → Bits B ns1 ∧ ns1.length + 1 ≤ ns.length + 2 ^ cB B (L + 1) := fun B hB => by
          obtain ⟨a, b⟩ := M1.few B hB
          exact ⟨a, Nat.le_trans b (Nat.add_le_add_left (Nat.pow_le_pow_right (by omega) (cB_mono (by omega))) _)⟩
        have new1 : ∀ p ∈ m1, p ∈ m ∨ (L < lv ns1 p.1.1 ∧ L < lv ns1 p.1.2) := fun p hp => by
          rcases N1 p hp with q | ⟨q1, q2⟩
          · exact Or.inl q
          · exact Or.inr ⟨by omega, by omega⟩
        have hpow : ∀ B, Bits B ns → 2 ^ cB B L = 2 ^ cB B (L + 1) + 2 ^ cB B (L + 1) := fun B hB => by rw [cB_step hL104 (hBL B hB), Nat.pow_succ]; omega
        cases r1 with
        | none =>
          have e : pairF kind most (k + 1) ns m f g = (none, ns1, m1) := by unfold pairF; rw [hp]; simp only; rw [hl]; simp only; rw [hL, e1]
          rw [e, hL]
          refine ⟨⟨M1.wf, M1.ext, M1.room, M1.full, fun q hq => (by cases hq), fun q => absurd rfl (old1 q).2, fun B hB => ⟨(few1 B hB).1, ?_⟩⟩, V1, fun p hp => (new1 p hp).imp id (fun q => ⟨Nat.le_of_lt q.1, Nat.le_of_lt q.2⟩)⟩
          have := (few1 B hB).2; have := hpow B hB; have := Nat.two_pow_pos (cB B (L + 1)); show ns1.length + 1 ≤ _; omega
        | some lo =>
          obtain ⟨hlo, elo⟩ := M1.set lo rfl
          have hx1 := M1.ext
          have hl1 := hx1.len
          have xh1 : lv ns1 (partF ns f L).h = lv ns (partF ns f L).h := hx1.lv xh
          have yh1 : lv ns1 (partF ns g L).h = lv ns (partF ns g L).h := hx1.lv yh
          have I2 := ih ns1 m1 (partF ns f L).h (partF ns g L).h M1.wf V1 (by omega) (by omega) (by omega)
          obtain ⟨r2, ns2, m2, e2⟩ : ∃ r2 ns2 m2, pairF kind most k ns1 m1 (partF ns f L).h (partF ns g L).h = (r2, ns2, m2) := ⟨_, _, _, rfl⟩
          rw [e2] at I2
          obtain ⟨M2, V2, N2⟩ := I2
          simp only at M2 V2 N2
          have evx : ∀ e, ev ns1 e (partF ns f L).h = ev ns (hld e L true) f := fun e => by rw [hx1.ev h M1.wf e _ xh, xeh]
          have evy : ∀ e, ev ns1 e (partF ns g L).h = ev ns (hld e L true) g := fun e => by rw [hx1.ev h M1.wf e _ yh, yeh]
          have old2 : (∃ q, q < ns.length ∧ ∀ e, ev ns e q = opB kind (ev ns e f) (ev ns e g)) → ns2 = ns ∧ r2 ≠ none := fun hq0 => by
            obtain ⟨a, -⟩ := old1 hq0
            subst a
            obtain ⟨q, hq, he⟩ := hq0
            obtain ⟨p, hp1, hp2⟩ := cof h hq hL104 he hfree true
            exact M2.old ⟨p, hp1, fun e => by rw [hp2, evx, evy]⟩
          have few2 : ∀ B, Bits B ns → Bits B ns2 ∧ ns2.length + 2 ≤ ns.length + 2 ^ cB B L := fun B hB => by
            obtain ⟨a, b⟩ := few1 B hB
            obtain ⟨c, d⟩ := M2.few B a
            have d' : ns2.length + 1 ≤ ns1.length + 2 ^ cB B (L + 1) := Nat.le_trans d (Nat.add_le_add_left (Nat.pow_le_pow_right (by omega) (cB_mono (by omega))) _)
            have := hpow B hB
            have := Nat.two_pow_pos (cB B (L + 1))
            exact ⟨c, by omega⟩
          have new2 : ∀ p ∈ m2, p ∈ m ∨ (L < lv ns2 p.1.1 ∧ L < lv ns2 p.1.2) := fun p hp => by
            rcases N2 p hp with q | ⟨q1, q2⟩
            · rcases new1 p q with r | ⟨r1, r2⟩
              · exact Or.inl r
              · obtain ⟨a, b, -⟩ := V1.ok p q
                exact Or.inr ⟨by rw [M2.ext.lv a]; exact r1, by rw [M2.ext.lv b]; exact r2⟩
            · exact Or.inr ⟨by omega, by omega⟩
          have hnot : ((f, g) : Nat × Nat) ∉ m2.map (·.1) := fun hq => by
            obtain ⟨p, hp1, hp2⟩ := List.mem_map.1 hq
            rcases new2 p hp1 with r | ⟨r1, r2⟩
            · exact lookM_none hl (List.mem_map.2 ⟨p, r, hp2⟩)
            · rw [hp2] at r1 r2
              rw [(hx1.trans M2.ext).lv hf] at r1
              rw [(hx1.trans M2.ext).lv hg] at r2
              omega
          have room2 : ns2.length ≤ max most ns.length := by have a := M1.room; have b := M2.room; omega
          cases r2 with
          | none =>
            have e : pairF kind most (k + 1) ns m f g = (none, ns2, m2) := by unfold pairF; rw [hp]; simp only; rw [hl]; simp only; rw [hL, e1]; simp only; rw [e2]
            rw [e, hL]
            refine ⟨⟨M2.wf, hx1.trans M2.ext, room2, M2.full, fun q hq => (by cases hq), fun q => absurd rfl (old2 q).2, fun B hB => ⟨(few2 B hB).1, ?_⟩⟩, V2, fun p hp => (new2 p hp).imp id (fun q => ⟨Nat.le_of_lt q.1, Nat.le_of_lt q.2⟩)⟩
            have := (few2 B hB).2; show ns2.length + 1 ≤ _; omega
          | some hi =>
            obtain ⟨hhi, ehi⟩ := M2.set hi rfl
            have hx2 := M2.ext
            have hl2 := hx2.len
            have hx12 := hx1.trans hx2
            have elo2 : ∀ e, ev ns2 e lo = opB kind (ev ns (hld e L false) f) (ev ns (hld e L false) g) := fun e => by rw [hx2.ev M1.wf M2.wf e _ hlo, elo, xel, yel]
            have ehi2 : ∀ e, ev ns2 e hi = opB kind (ev ns (hld e L true) f) (ev ns (hld e L true) g) := fun e => by rw [ehi, evx, evy]
            have free' : ∀ (b : Bool) e i c, i < L + 1 → opB kind (ev ns (hld (hld e i c) L b) f) (ev ns (hld (hld e i c) L b) g) = opB kind (ev ns (hld e L b) f) (ev ns (hld e L b) g) := fun b e i c hi => by
              rcases Nat.lt_or_ge i L with q | q
              · have e1 : hld (hld e i c) L b = hld (hld e L b) i c := by funext z; unfold hld; (repeat' split) <;> simp_all <;> omega
                rw [e1, hfree _ _ _ q]
              · have : i = L := by omega
                subst this
                have e1 : hld (hld e i c) i b = hld e i b := by funext z; unfold hld; split <;> simp_all
                rw [e1]
            have vlo : L < lv ns2 lo := lv_ge M2.wf (L := L + 1) (by omega) (by omega) (fun e i b hi => by rw [elo2, elo2]; exact free' false e i b hi)
            have vhi : L < lv ns2 hi := lv_ge M2.wf (L := L + 1) hhi (by omega) (fun e i b hi => by rw [ehi2, ehi2]; exact free' true e i b hi)
            have heq : ∀ e, opB kind (ev ns e f) (ev ns e g) = if e L then ev ns2 e hi else ev ns2 e lo := fun e => by
              rw [elo2, ehi2]
              have := hld_self e L
              split
              · rename_i q; rw [q] at this; rw [this]
              · rename_i q; rw [Bool.not_eq_true] at q; rw [q] at this; rw [this]
            obtain ⟨nw, nx, nr, nf, nset, nold, nlen, nb⟩ := num_made (most := most) M2.wf (n := ⟨L, lo, hi⟩) (by show lo < _; omega) hhi vlo vhi (φ := fun e => opB kind (ev ns e f) (ev ns e g)) heq
            obtain ⟨r3, ns3, e3⟩ : ∃ r3 ns3, numF most ns2 ⟨L, lo, hi⟩ = (r3, ns3) := ⟨_, _, rfl⟩
            rw [e3] at nw nx nr nf nset nold nlen nb
            simp only at nw nx nr nf nset nold nlen nb
            have old3 : (∃ q, q < ns.length ∧ ∀ e, ev ns e q = opB kind (ev ns e f) (ev ns e g)) → ns3 = ns ∧ r3 ≠ none := fun hq0 => by
              obtain ⟨a, -⟩ := old2 hq0
              obtain ⟨q, hq, he⟩ := hq0
              obtain ⟨b, c⟩ := nold ⟨q, by rw [a]; exact hq, fun e => by rw [a]; exact he e⟩
              exact ⟨b.trans a, c⟩
            have few3 : ∀ B, Bits B ns → Bits B ns3 ∧ ns3.length + 1 ≤ ns.length + 2 ^ cB B L := fun B hB => by
              obtain ⟨a, b⟩ := few2 B hB
              exact ⟨nb B a (hBL B hB), by omega⟩
            cases r3 with
            | none =>
              have e : pairF kind most (k + 1) ns m f g = (none, ns3, m2) := by unfold pairF; rw [hp]; simp only; rw [hl]; simp only; rw [hL, e1]; simp only; rw [e2]; simp only; rw [e3]
              rw [e, hL]
              refine ⟨⟨nw, hx12.trans nx, by show ns3.length ≤ _; omega, fun q => (nf q).1, fun q hq => (by cases hq), old3, few3⟩, V2.ext nx M2.wf nw, fun p hp => ?_⟩
              rcases new2 p hp with q | q
              · exact Or.inl q
              · obtain ⟨a, b, -⟩ := V2.ok p hp
                exact Or.inr ⟨by rw [nx.lv a]; omega, by rw [nx.lv b]; omega⟩
            | some r =>
              have e : pairF kind most (k + 1) ns m f g = (some r, ns3, ((f, g), r) :: m2) := by unfold pairF; rw [hp]; simp only; rw [hl]; simp only; rw [hL, e1]; simp only; rw [e2]; simp only; rw [e3]
              rw [e, hL]
              obtain ⟨s1, s2⟩ := nset r rfl
              have hx3 := hx12.trans nx
              have hl3 := hx3.len
              have W3 := V2.ext nx M2.wf nw
              refine ⟨⟨nw, hx3, by show ns3.length ≤ _; omega, fun q => (by cases q), fun q hq => (by cases hq; exact ⟨s1, s2⟩), old3, few3⟩, ⟨fun p hp => ?_, ?_⟩, fun p hp => ?_⟩
              · rcases List.mem_cons.1 hp with rfl | hp
                · exact ⟨by show f < ns3.length; omega, by show g < ns3.length; omega, s1, fun e => by rw [s2, hx3.ev h nw e _ hf, hx3.ev h nw e _ hg]⟩
                · exact W3.ok p hp
              · exact List.nodup_cons.2 ⟨hnot, W3.one⟩
              · rcases List.mem_cons.1 hp with rfl | hp
                · exact Or.inr ⟨by show _ ≤ lv ns3 f; rw [hx3.lv hf]; omega, by show _ ≤ lv ns3 g; rw [hx3.lv hg]; omega⟩
                · rcases new2 p hp with q | q
                  · exact Or.inl q
                  · obtain ⟨a, b, -⟩ := V2.ok p hp
                    exact Or.inr ⟨by show _ ≤ lv ns3 _; rw [nx.lv a]; omega, by show _ ≤ lv ns3 _; rw [nx.lv b]; omega⟩
end Go.Proofs.Ytgcbngephokegab
