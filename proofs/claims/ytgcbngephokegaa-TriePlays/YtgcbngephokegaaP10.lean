/- The document's Size, in plain: level by level the different first bits. No program in sight. -/
import Derived.Test.YtgcbngephokegaaP7
namespace Go.Proofs.Ytgcbngephokegaa
set_option linter.unusedVariables false
set_option linter.unusedSimpArgs false

/-- The number of an entry's first b bits. -/
def fst (b : Nat) (x : Ent) : Nat := ad x.1 / sz b
def seenF (b : Nat) (s : List Nat) (x : Ent) : List Nat := if x.1.length < b then s else if fst b x ∈ s then s else s ++ [fst b x]
def seen (r : List Ent) (b : Nat) : List Nat := r.foldl (seenF b) []
theorem seen_snoc (r : List Ent) (b : Nat) (i : Nat) (x : Ent) (h : r[i]? = some x) : seen (r.take (i + 1)) b = seenF b (seen (r.take i) b) x := by
  unfold seen
  rw [List.take_add_one, h, Option.toList_some, List.foldl_append]
  rfl
theorem seenF_nodup (b : Nat) (s : List Nat) (x : Ent) (h : s.Nodup) : (seenF b s x).Nodup := by
  unfold seenF
  split
  · exact h
  · split
    · exact h
    · next c => exact List.nodup_append.2 ⟨h, by simp, fun u hu z hz e => c (by have : z = fst b x := by simpa using hz
                                                                                rw [← this, ← e]; exact hu)⟩
theorem seenF_len (b : Nat) (s : List Nat) (x : Ent) : (seenF b s x).length ≤ s.length + 1 := by
  unfold seenF
  split
  · omega
  · split
    · omega
    · rw [List.length_append, List.length_singleton]; exact Nat.le_refl _
theorem foldl_seen_nodup (b : Nat) : ∀ (r : List Ent) (s : List Nat), s.Nodup → (r.foldl (seenF b) s).Nodup
  | [], s, h => h
  | x :: r, s, h => foldl_seen_nodup b r _ (seenF_nodup b s x h)
theorem foldl_seen_len (b : Nat) : ∀ (r : List Ent) (s : List Nat), (r.foldl (seenF b) s).length ≤ s.length + r.length
  | [], s => Nat.le_refl _
  | x :: r, s => by
    have h1 := foldl_seen_len b r (seenF b s x)
    have h2 := seenF_len b s x
    rw [List.foldl_cons, List.length_cons]; omega
theorem mem_seenF (b : Nat) (s : List Nat) (x : Ent) (y : Nat) : y ∈ seenF b s x ↔ y ∈ s ∨ (b ≤ x.1.length ∧ y = fst b x) := by
  unfold seenF
  split
  · next c => exact ⟨Or.inl, fun h => h.elim id (fun q => by omega)⟩
  · next c =>
    split
    · next d => exact ⟨Or.inl, fun h => h.elim id (fun q => by rw [q.2]; exact d)⟩
    · rw [List.mem_append, List.mem_singleton]
      exact or_congr Iff.rfl ⟨fun h => ⟨by omega, h⟩, fun h => h.2⟩
theorem mem_foldl_seen (b : Nat) : ∀ (r : List Ent) (s : List Nat) (y : Nat), y ∈ r.foldl (seenF b) s ↔ y ∈ s ∨ ∃ x ∈ r, b ≤ x.1.length ∧ y = fst b x
  | [], s, y => by simp
  | x :: r, s, y => by
    rw [List.foldl_cons, mem_foldl_seen b r, mem_seenF, or_assoc]
    refine or_congr Iff.rfl ⟨?_, ?_⟩
    · rintro (h | ⟨z, h1, h2⟩)
      · exact ⟨x, List.mem_cons_self .., h⟩
      · exact ⟨z, List.mem_cons_of_mem _ h1, h2⟩
    · rintro ⟨z, h1, h2⟩
      rcases List.mem_cons.1 h1 with rfl | h1
      · exact Or.inl h2
      · exact Or.inr ⟨z, h1, h2⟩
theorem seen_nodup (r : List Ent) (b : Nat) : (seen r b).Nodup := foldl_seen_nodup b r [] List.nodup_nil
theorem seen_len (r : List Ent) (b : Nat) : (seen r b).length ≤ r.length := by have := foldl_seen_len b r []; simpa [seen] using this
theorem mem_seen (r : List Ent) (b y : Nat) : y ∈ seen r b ↔ ∃ x ∈ r, b ≤ x.1.length ∧ y = fst b x := by
  unfold seen; rw [mem_foldl_seen]; simp
/-- So many nodes up to a level. -/
def szL (r : List Ent) : Nat → Nat
  | 0 => 1
  | b + 1 => szL r b + (seen r (b + 1)).length
theorem szL_le (r : List Ent) : ∀ b, szL r b ≤ 1 + b * r.length
  | 0 => by simp [szL]
  | b + 1 => by
    have h1 := szL_le r b
    have h2 := seen_len r (b + 1)
    show szL r b + _ ≤ _
    rw [Nat.succ_mul]; omega
theorem take_fst (q : Pth) (b : Nat) (hq : q.length ≤ 32) (hb : b ≤ q.length) : ad (q.take b) / sz b = ad q / sz b := by
  have e : q.take b = pth (ad q) b := by
    have := pth_take (ad q) q.length b hb
    rw [pth_ad q hq] at this
    exact this
  rw [e, ad_pth (ad q) (ad_lt q hq) b (by omega)]
  unfold cutA
  exact Nat.mul_div_cancel _ (sz_pos b)
theorem fst_inj {q s : Pth} {b : Nat} (hq : q.length = b) (hs : s.length = b) (hb : b ≤ 32) (h : ad q / sz b = ad s / sz b) : q = s := by
  have e := (pth_eq (ad_lt q (by omega)) (ad_lt s (by omega)) hb).2 h
  have e1 := pth_ad q (by omega)
  have e2 := pth_ad s (by omega)
  rw [hq] at e1
  rw [hs] at e2
  rw [← e1, ← e2, e]
theorem level_len {N : List Pth} {E r : List Ent} (hp : Plain N E) (hr : ∀ x, x ∈ r ↔ x ∈ E) (b : Nat) (hb0 : 0 < b) (hb : b ≤ 32) : (N.filter fun q => decide (q.length = b)).length = (seen r b).length := by
  rw [← List.length_map (f := fun q => ad q / sz b)]
  refine nodup_len ?_ (seen_nodup r b) (fun y => ?_)
  · refine List.pairwise_map.2 ?_
    refine List.Pairwise.imp_of_mem ?_ (hp.nn.filter _)
    intro q s hq hs hne e
    have h1 := of_decide_eq_true (List.mem_filter.1 hq).2
    have h2 := of_decide_eq_true (List.mem_filter.1 hs).2
    exact hne (fst_inj h1 h2 hb e)
  · rw [mem_seen, List.mem_map]
    constructor
    · rintro ⟨q, hq, rfl⟩
      obtain ⟨h1, h2⟩ := List.mem_filter.1 hq
      have h2 := of_decide_eq_true h2
      rcases (hp.t q).1 h1 with rfl | ⟨e, he, hpre⟩
      · simp at h2; omega
      · have hl := hpre.length_le
        refine ⟨e, (hr e).2 he, by omega, ?_⟩
        have e1 := List.prefix_iff_eq_take.1 hpre
        rw [h2] at e1
        show ad q / sz b = ad e.1 / sz b
        rw [e1]
        exact take_fst e.1 b (hp.le e he).1 (by omega)
    · rintro ⟨x, hx, hl, rfl⟩
      have hxE := (hr x).1 hx
      refine ⟨x.1.take b, List.mem_filter.2 ⟨(hp.t _).2 (Or.inr ⟨x, hxE, List.take_prefix _ _⟩), decide_eq_true (by rw [List.length_take]; omega)⟩, ?_⟩
      exact take_fst x.1 b (hp.le x hxE).1 hl
theorem szL_level {N : List Pth} {E r : List Ent} (hp : Plain N E) (hr : ∀ x, x ∈ r ↔ x ∈ E) : ∀ b, b ≤ 32 → szL r b = (N.filter fun q => decide (q.length ≤ b)).length
  | 0, _ => by
    have : (N.filter fun q => decide (q.length ≤ 0)).length = ([[]] : List Pth).length := nodup_len (hp.nn.filter _) (by simp) (fun q => by
      rw [List.mem_filter, List.mem_singleton]
      constructor
      · rintro ⟨-, h⟩
        have := of_decide_eq_true h
        exact List.length_eq_zero_iff.1 (by omega)
      · rintro rfl
        exact ⟨(hp.t []).2 (Or.inl rfl), rfl⟩)
    rw [this]; rfl
  | b + 1, h => by
    have h1 := szL_level hp hr b (by omega)
    have h2 := level_len hp hr (b + 1) (by omega) h
    show szL r b + (seen r (b + 1)).length = _
    rw [h1, ← h2, ← List.length_append]
    refine nodup_len (List.nodup_append.2 ⟨hp.nn.filter _, hp.nn.filter _, fun q hq s hs e => ?_⟩) (hp.nn.filter _) (fun q => ?_)
    · have h3 := of_decide_eq_true (List.mem_filter.1 hq).2
      have h4 := of_decide_eq_true (List.mem_filter.1 hs).2
      rw [e] at h3; omega
    · rw [List.mem_append, List.mem_filter, List.mem_filter, List.mem_filter]
      simp only [decide_eq_true_eq]
      constructor
      · rintro (⟨a, c⟩ | ⟨a, c⟩)
        · exact ⟨a, by omega⟩
        · exact ⟨a, by omega⟩
      · rintro ⟨a, c⟩
        rcases Nat.lt_or_ge b q.length with d | d
        · exact Or.inr ⟨a, by omega⟩
        · exact Or.inl ⟨a, d⟩
theorem szL_nodes {N : List Pth} {E r : List Ent} (hp : Plain N E) (hr : ∀ x, x ∈ r ↔ x ∈ E) : szL r 32 = N.length := by
  rw [szL_level hp hr 32 (Nat.le_refl _)]
  congr 1
  refine List.filter_eq_self.2 (fun q hq => decide_eq_true ?_)
  rcases (hp.t q).1 hq with rfl | ⟨e, he, hpre⟩
  · simp
  · exact Nat.le_trans hpre.length_le (hp.le e he).1
end Go.Proofs.Ytgcbngephokegaa
