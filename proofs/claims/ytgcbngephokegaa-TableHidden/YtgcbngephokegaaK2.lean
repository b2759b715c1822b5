/- Plain: a tree's nodes and entries: put in, taken out, and what is left. No program in sight. -/
import Derived.Test.YtgcbngephokegaaK1
namespace Go.Proofs.Ytgcbngephokegaa
set_option linter.unusedVariables false

theorem nodup_le {α : Type} : ∀ (l r : List α), l.Nodup → (∀ x ∈ l, x ∈ r) → l.length ≤ r.length
  | [], r, _, _ => Nat.zero_le _
  | a :: l, r, hn, hs => by
    haveI : DecidableEq α := fun a b => Classical.propDecidable _
    obtain ⟨h1, h2⟩ := List.nodup_cons.1 hn
    have ha := hs a (List.mem_cons_self ..)
    have := nodup_le l (r.erase a) h2 (fun x hx => by
      refine (List.mem_erase_of_ne (fun e : x = a => h1 (by rw [← e]; exact hx))).2 (hs x (List.mem_cons_of_mem _ hx)))
    rw [List.length_erase_of_mem ha] at this
    have := List.length_pos_of_mem ha
    simp only [List.length_cons]; omega
theorem nodup_len {α : Type} {l r : List α} (hl : l.Nodup) (hr : r.Nodup) (h : ∀ x, x ∈ l ↔ x ∈ r) : l.length = r.length :=
  Nat.le_antisymm (nodup_le l r hl (fun x q => (h x).1 q)) (nodup_le r l hr (fun x q => (h x).2 q))
/-- A node for each path that some entry's begins with, and no other one. -/
structure Plain (N : List Pth) (E : List Ent) : Prop where
  nn : N.Nodup
  en : E.Nodup
  t : ∀ q, q ∈ N ↔ q = [] ∨ ∃ e ∈ E, q <+: e.1
  le : ∀ e ∈ E, e.1.length ≤ 32 ∧ -9223372036854775808 ≤ e.2 ∧ e.2 ≤ 9223372036854775807
theorem Plain.len {N N' : List Pth} {E E' : List Ent} (h : Plain N E) (h' : Plain N' E') (he : ∀ x, x ∈ E ↔ x ∈ E') : N.length = N'.length :=
  nodup_len h.nn h'.nn (fun q => by
    rw [h.t, h'.t]
    exact or_congr Iff.rfl ⟨fun ⟨e, h1, h2⟩ => ⟨e, (he e).1 h1, h2⟩, fun ⟨e, h1, h2⟩ => ⟨e, (he e).2 h1, h2⟩⟩)
theorem Plain.elen {N N' : List Pth} {E E' : List Ent} (h : Plain N E) (h' : Plain N' E') (he : ∀ x, x ∈ E ↔ x ∈ E') : E.length = E'.length := nodup_len h.en h'.en he
theorem plain_new : Plain [[]] [] := ⟨by simp, List.nodup_nil, fun q => by simp, fun e h => by cases h⟩
/-- There are no more nodes than entries have bits, and one. -/
theorem Plain.few {N : List Pth} {E : List Ent} (h : Plain N E) : N.length ≤ 1 + 33 * E.length := by
  have h1 := nodup_le N ([] :: E.flatMap (fun e => (List.range 33).map e.1.take)) h.nn (fun q hq => by
    rcases (h.t q).1 hq with rfl | ⟨e, he, hp⟩
    · exact List.mem_cons_self ..
    · refine List.mem_cons_of_mem _ (List.mem_flatMap.2 ⟨e, he, List.mem_map.2 ⟨q.length, ?_, ?_⟩⟩)
      · have := hp.length_le; have := (h.le e he).1; exact List.mem_range.2 (by omega)
      · exact (List.prefix_iff_eq_take.1 hp).symm)
  have h2 : ∀ E : List Ent, (E.flatMap (fun e => (List.range 33).map e.1.take)).length = 33 * E.length := fun E => by
    induction E with
    | nil => rfl
    | cons e r ih => rw [List.flatMap_cons, List.length_append, ih, List.length_map, List.length_range, List.length_cons]; omega
  rw [List.length_cons, h2] at h1
  omega
def addE (E : List Ent) (x : Ent) : List Ent := if x ∈ E then E else x :: E
def dropE (E : List Ent) (x : Ent) : List Ent := E.filter (fun y => decide (y ≠ x))
theorem mem_addE {E : List Ent} {x y : Ent} : y ∈ addE E x ↔ y = x ∨ y ∈ E := by
  unfold addE
  split
  · rename_i h; exact ⟨Or.inr, fun q => q.elim (fun e => by rw [e]; exact h) id⟩
  · exact List.mem_cons
theorem nodup_addE {E : List Ent} {x : Ent} (h : E.Nodup) : (addE E x).Nodup := by
  unfold addE
  split
  · exact h
  · rename_i q; exact List.nodup_cons.2 ⟨q, h⟩
theorem mem_dropE {E : List Ent} {x y : Ent} : y ∈ dropE E x ↔ y ∈ E ∧ y ≠ x := by
  unfold dropE; rw [List.mem_filter, decide_eq_true_eq]
theorem nodup_dropE {E : List Ent} {x : Ent} (h : E.Nodup) : (dropE E x).Nodup := h.filter _
theorem dropE_len {E : List Ent} {x : Ent} (h : E.Nodup) (hx : x ∈ E) : (dropE E x).length + 1 = E.length := by
  have : (x :: dropE E x).length = E.length := nodup_len (List.nodup_cons.2 ⟨fun q => (mem_dropE.1 q).2 rfl, nodup_dropE h⟩) h (fun y => by
    rw [List.mem_cons, mem_dropE]
    constructor
    · rintro (rfl | q)
      · exact hx
      · exact q.1
    · intro q
      rcases Classical.em (y = x) with e | e
      · exact Or.inl e
      · exact Or.inr ⟨q, e⟩)
  simpa using this
/-- A node's values. -/
def vals (E : List Ent) (q : Pth) : List Int := (E.filter (fun e => decide (e.1 = q))).map (·.2)
theorem mem_vals {E : List Ent} {q : Pth} {v : Int} : v ∈ vals E q ↔ (q, v) ∈ E := by
  unfold vals
  rw [List.mem_map]
  constructor
  · rintro ⟨e, h1, rfl⟩
    obtain ⟨h2, h3⟩ := List.mem_filter.1 h1
    rw [decide_eq_true_eq] at h3
    rw [← h3]; exact h2
  · intro h
    exact ⟨(q, v), List.mem_filter.2 ⟨h, by simp⟩, rfl⟩
theorem nodup_vals {E : List Ent} (h : E.Nodup) (q : Pth) : (vals E q).Nodup := by
  unfold vals
  unfold List.Nodup
  rw [List.pairwise_map]
  refine (h.filter _).imp_of_mem (fun {x y} hx hy hne e => hne ?_)
  have h1 := (List.mem_filter.1 hx).2
  have h2 := (List.mem_filter.1 hy).2
  rw [decide_eq_true_eq] at h1 h2
  exact Prod.ext (h1.trans h2.symm) e
theorem vals_le (E : List Ent) (q : Pth) : (vals E q).length ≤ E.length := by
  unfold vals; rw [List.length_map]; exact List.length_filter_le _ _
/-- The nodes of a tree and of so much of a way: what they are ahead of the end. -/
def Part (N : List Pth) (E : List Ent) (q : Pth) (k : Nat) : Prop := ∀ s, s ∈ N ↔ s = [] ∨ (∃ e ∈ E, s <+: e.1) ∨ (s <+: q ∧ s.length ≤ k)
theorem Plain.part {N : List Pth} {E : List Ent} (h : Plain N E) (q : Pth) : Part N E q 0 := fun s => by
  rw [h.t]
  constructor
  · rintro (h | h)
    · exact Or.inl h
    · exact Or.inr (Or.inl h)
  · rintro (h | h | h)
    · exact Or.inl h
    · exact Or.inr h
    · exact Or.inl (List.eq_nil_of_length_eq_zero (by omega))
theorem pre_snoc {q s : Pth} {k : Nat} (hk : k < q.length) : (s <+: q ∧ s.length ≤ k + 1) ↔ (s <+: q ∧ s.length ≤ k) ∨ s = q.take (k + 1) := by
  constructor
  · rintro ⟨h1, h2⟩
    rcases Nat.lt_or_ge k s.length with h | h
    · have := List.prefix_iff_eq_take.1 h1
      exact Or.inr (by rw [show k + 1 = s.length by omega]; exact this)
    · exact Or.inl ⟨h1, h⟩
  · rintro (h | rfl)
    · exact ⟨h.1, by omega⟩
    · exact ⟨List.take_prefix _ _, by rw [List.length_take]; omega⟩
/-- One node more on the way. -/
theorem Part.more {N : List Pth} {E : List Ent} {q : Pth} {k : Nat} (h : Part N E q k) (hk : k < q.length) : Part (q.take (k + 1) :: N) E q (k + 1) := fun s => by
  rw [List.mem_cons, h, pre_snoc hk]
  constructor
  · rintro (h | h | h | h)
    · exact Or.inr (Or.inr (Or.inr h))
    · exact Or.inl h
    · exact Or.inr (Or.inl h)
    · exact Or.inr (Or.inr (Or.inl h))
  · rintro (h | h | h | h)
    · exact Or.inr (Or.inl h)
    · exact Or.inr (Or.inr (Or.inl h))
    · exact Or.inr (Or.inr (Or.inr h))
    · exact Or.inl h
theorem Part.same {N : List Pth} {E : List Ent} {q : Pth} {k : Nat} (h : Part N E q k) (hk : k < q.length) (hm : q.take (k + 1) ∈ N) : Part N E q (k + 1) := fun s => by
  rw [pre_snoc hk]
  constructor
  · intro hs
    rcases (h s).1 hs with h | h | h
    · exact Or.inl h
    · exact Or.inr (Or.inl h)
    · exact Or.inr (Or.inr (Or.inl h))
  · rintro (h1 | h1 | h1 | rfl)
    · exact (h s).2 (Or.inl h1)
    · exact (h s).2 (Or.inr (Or.inl h1))
    · exact (h s).2 (Or.inr (Or.inr h1))
    · exact hm
theorem Part.add {N : List Pth} {E : List Ent} {q : Pth} {v : Int} (h : Part N E q q.length) (hn : N.Nodup) (he : E.Nodup) (hl : ∀ e ∈ E, e.1.length ≤ 32 ∧ -9223372036854775808 ≤ e.2 ∧ e.2 ≤ 9223372036854775807) (hq : q.length ≤ 32) (hv : -9223372036854775808 ≤ v ∧ v ≤ 9223372036854775807) : Plain N (addE E (q, v)) := by
  refine ⟨hn, nodup_addE he, fun s => ?_, fun e h => ?_⟩
  · rw [h s]
    constructor
    · rintro (h | ⟨e, h1, h2⟩ | h)
      · exact Or.inl h
      · exact Or.inr ⟨e, mem_addE.2 (Or.inr h1), h2⟩
      · exact Or.inr ⟨(q, v), mem_addE.2 (Or.inl rfl), h.1⟩
    · rintro (h | ⟨e, h1, h2⟩)
      · exact Or.inl h
      · rcases mem_addE.1 h1 with rfl | h1
        · exact Or.inr (Or.inr ⟨h2, h2.length_le⟩)
        · exact Or.inr (Or.inl ⟨e, h1, h2⟩)
  · rcases mem_addE.1 h with rfl | h
    · exact ⟨hq, hv⟩
    · exact hl e h
/-- Behind a value that is taken away the nodes of its way may be too many. -/
theorem Plain.dropped {N : List Pth} {E : List Ent} (h : Plain N E) {q : Pth} {v : Int} (hx : (q, v) ∈ E) : Part N (dropE E (q, v)) q q.length := fun s => by
  rw [h.t]
  constructor
  · rintro (h1 | ⟨e, h1, h2⟩)
    · exact Or.inl h1
    · rcases Classical.em (e = (q, v)) with rfl | c
      · exact Or.inr (Or.inr ⟨h2, h2.length_le⟩)
      · exact Or.inr (Or.inl ⟨e, mem_dropE.2 ⟨h1, c⟩, h2⟩)
  · rintro (h1 | ⟨e, h1, h2⟩ | h1)
    · exact Or.inl h1
    · exact Or.inr ⟨e, (mem_dropE.1 h1).1, h2⟩
    · exact Or.inr ⟨_, hx, h1.1⟩
/-- A node without values and ways is on the way to no entry: it may go. -/
theorem Part.less {N : List Pth} {E : List Ent} {q : Pth} {k : Nat} (h : Part N E q (k + 1)) (hk : k < q.length) (hn : N.Nodup) (hv : vals E (q.take (k + 1)) = []) (h0 : q.take (k + 1) ++ [false] ∉ N) (h1 : q.take (k + 1) ++ [true] ∉ N) :
    Part (N.erase (q.take (k + 1))) E q k := fun s => by
  rw [hn.mem_erase_iff, h s, pre_snoc hk]
  have hno : ∀ e ∈ E, ¬ q.take (k + 1) <+: e.1 := fun e he hp => by
    rcases pre_cases.1 hp with c | c | c
    · have : e.2 ∈ vals E (q.take (k + 1)) := mem_vals.2 (by rw [← c]; exact he)
      rw [hv] at this; cases this
    · exact h0 ((h _).2 (Or.inr (Or.inl ⟨e, he, c⟩)))
    · exact h1 ((h _).2 (Or.inr (Or.inl ⟨e, he, c⟩)))
  have hlen : (q.take (k + 1)).length = k + 1 := by rw [List.length_take]; omega
  constructor
  · rintro ⟨hne, c | c | c | c⟩
    · exact Or.inl c
    · exact Or.inr (Or.inl c)
    · exact Or.inr (Or.inr c)
    · exact absurd c hne
  · rintro (rfl | ⟨e, he, c⟩ | c)
    · exact ⟨fun e => by rw [← e] at hlen; simp at hlen, Or.inl rfl⟩
    · exact ⟨fun q => hno e he (by rw [← q]; exact c), Or.inr (Or.inl ⟨e, he, c⟩)⟩
    · refine ⟨fun e => ?_, Or.inr (Or.inr (Or.inl c))⟩
      rw [e, hlen] at c; omega
/-- .. else all that is left has some entry. -/
theorem Part.stop {N : List Pth} {E : List Ent} {q : Pth} {k : Nat} (h : Part N E q (k + 1)) (hk : k < q.length) (hv : vals E (q.take (k + 1)) ≠ [] ∨ q.take (k + 1) ++ [false] ∈ N ∨ q.take (k + 1) ++ [true] ∈ N) :
    ∀ s, s ∈ N ↔ s = [] ∨ ∃ e ∈ E, s <+: e.1 := fun s => by
  have hlen : (q.take (k + 1)).length = k + 1 := by rw [List.length_take]; omega
  have hch : ∀ b, q.take (k + 1) ++ [b] ∈ N → ∃ e ∈ E, q.take (k + 1) <+: e.1 := fun b hb => by
    rcases (h _).1 hb with c | ⟨e, he, c⟩ | c
    · simp at c
    · exact ⟨e, he, (List.prefix_append _ _).trans c⟩
    · have := c.2; rw [List.length_append, hlen] at this; simp at this; omega
  have he : ∃ e ∈ E, q.take (k + 1) <+: e.1 := by
    rcases hv with c | c | c
    · obtain ⟨v, hv⟩ := List.exists_mem_of_ne_nil _ c
      exact ⟨_, mem_vals.1 hv, List.prefix_rfl⟩
    · exact hch _ c
    · exact hch _ c
  rw [h s]
  constructor
  · rintro (c | c | c)
    · exact Or.inl c
    · exact Or.inr c
    · obtain ⟨e, h1, h2⟩ := he
      refine Or.inr ⟨e, h1, List.IsPrefix.trans ?_ h2⟩
      exact List.prefix_of_prefix_length_le c.1 (List.take_prefix _ _) (by rw [hlen]; exact c.2)
  · rintro (c | c)
    · exact Or.inl c
    · exact Or.inr (Or.inl c)
theorem Part.zero {N : List Pth} {E : List Ent} {q : Pth} (h : Part N E q 0) : ∀ s, s ∈ N ↔ s = [] ∨ ∃ e ∈ E, s <+: e.1 := fun s => by
  rw [h s]
  constructor
  · rintro (c | c | c)
    · exact Or.inl c
    · exact Or.inr c
    · exact Or.inl (List.eq_nil_of_length_eq_zero (by omega))
  · rintro (c | c)
    · exact Or.inl c
    · exact Or.inr (Or.inl c)
end Go.Proofs.Ytgcbngephokegaa
