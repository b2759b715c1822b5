/- A node and all below it, in order. -/
import Derived.Test.YtgcbngephokegaaK10
namespace Go.Proofs.Ytgcbngephokegaa
open Go.RowKit Go.Maps Go.MapKept Go.ChangeMaps Go.WideElems Go.Joins
set_option linter.unusedVariables false
set_option linter.unusedSimpArgs false

def eleB (x y : Ent) : Bool := plt x.1 y.1 || (decide (x.1 = y.1) && decide (x.2 ≤ y.2))
theorem eleB_iff (x y : Ent) : eleB x y = true ↔ x = y ∨ elt x y := by
  obtain ⟨p, v⟩ := x
  obtain ⟨q, u⟩ := y
  unfold eleB elt
  simp only [Bool.or_eq_true, Bool.and_eq_true, decide_eq_true_eq, Prod.mk.injEq]
  constructor
  · rintro (h | ⟨rfl, h⟩)
    · exact Or.inr (Or.inl h)
    · rcases Int.lt_or_eq_of_le h with h | h
      · exact Or.inr (Or.inr ⟨rfl, h⟩)
      · exact Or.inl ⟨rfl, h⟩
  · rintro (⟨rfl, rfl⟩ | h | ⟨rfl, h⟩)
    · exact Or.inr ⟨rfl, Int.le_refl _⟩
    · exact Or.inl h
    · exact Or.inr ⟨rfl, Int.le_of_lt h⟩
/-- The entries of some paths, in order. -/
def srt (E : List Ent) (S : Pth → Bool) : List Ent := (E.filter (fun x => S x.1)).mergeSort eleB
theorem srt_lst {E : List Ent} (hn : E.Nodup) (S : Pth → Bool) : Lst E (fun s => S s = true) (srt E S) := by
  have tr : ∀ a b c : Ent, eleB a b = true → eleB b c = true → eleB a c = true := fun a b c h1 h2 => by
    rw [eleB_iff] at h1 h2 ⊢
    rcases h1 with rfl | h1
    · exact h2
    · rcases h2 with rfl | h2
      · exact Or.inr h1
      · exact Or.inr (elt_trans h1 h2)
  have tot : ∀ a b : Ent, (eleB a b || eleB b a) = true := fun a b => by
    rw [Bool.or_eq_true, eleB_iff, eleB_iff]
    rcases elt_total a b with h | h | h
    · exact Or.inl (Or.inl h)
    · exact Or.inl (Or.inr h)
    · exact Or.inr (Or.inr h)
  have hp := List.mergeSort_perm (E.filter (fun x => S x.1)) eleB
  have h1 := List.pairwise_mergeSort tr tot (E.filter (fun x => S x.1))
  have h2 : ((E.filter (fun x => S x.1)).mergeSort eleB).Nodup := hp.nodup_iff.2 (hn.filter _)
  refine ⟨(List.Pairwise.and h1 h2).imp (fun {a b} h => ?_), fun x => ?_⟩
  · rcases (eleB_iff a b).1 h.1 with e | e
    · exact absurd e h.2
    · exact e
  · show x ∈ (E.filter (fun x => S x.1)).mergeSort eleB ↔ _
    rw [hp.mem_iff, List.mem_filter]
theorem srt_eq {E E' : List Ent} (hn : E.Nodup) (hn' : E'.Nodup) (he : ∀ x, x ∈ E ↔ x ∈ E') (S : Pth → Bool) : srt E S = srt E' S :=
  (srt_lst hn S).uniq (srt_lst hn' S) (fun x => by rw [he])
abbrev atQ (q : Pth) : Pth → Bool := fun s => decide (s = q)
abbrev upQ (q : Pth) : Pth → Bool := fun s => decide (q <+: s)
theorem srt_none {E : List Ent} (hn : E.Nodup) {S : Pth → Bool} (h : ∀ x ∈ E, S x.1 = false) : srt E S = [] :=
  (srt_lst hn S).uniq (lst_nil (S := fun s => S s = true) (fun x hx e => by rw [h x hx] at e; cases e)) (fun x => Iff.rfl)
theorem srt_node {E : List Ent} (hn : E.Nodup) (q : Pth) : srt E (atQ q) ++ srt E (upQ (q ++ [false])) ++ srt E (upQ (q ++ [true])) = srt E (upQ q) := by
  have hA := (srt_lst hn (atQ q)).mono (S' := fun s => s = q) (fun x _ => by simp)
  have h0 := (srt_lst hn (upQ (q ++ [false]))).mono (S' := fun s => q ++ [false] <+: s) (fun x _ => by simp)
  have h1 := (srt_lst hn (upQ (q ++ [true]))).mono (S' := fun s => q ++ [true] <+: s) (fun x _ => by simp)
  have h2 := (srt_lst hn (upQ q)).mono (S' := fun s => q <+: s) (fun x _ => by simp)
  refine Lst.uniq ((lst_app (lst_app hA h0 ?_) h1 ?_).mono (S' := fun s => q <+: s) (fun x hx => ?_)) h2 (fun x => Iff.rfl)
  · rintro p s rfl ⟨t, rfl⟩; rw [List.append_assoc]; exact plt_pre _ _ _
  · rintro p s (rfl | ⟨t, rfl⟩) ⟨u, rfl⟩
    · rw [List.append_assoc]; exact plt_pre _ _ _
    · rw [List.append_assoc, List.append_assoc]; exact plt_side _ _ _
  · rw [pre_cases (q := q)]; exact or_assoc
theorem srt_vals {E : List Ent} (hn : E.Nodup) {q : Pth} {vs : List Int} (hv : vs.Pairwise (· < ·)) (hm : ∀ v, v ∈ vs ↔ (q, v) ∈ E) : (vs.map fun v => (q, v)) = srt E (atQ q) :=
  (lst_vals hv hm).uniq (srt_lst hn (atQ q)) (fun x => by simp)
theorem srt_len {E : List Ent} (hn : E.Nodup) (S : Pth → Bool) : (srt E S).length ≤ E.length := by
  unfold srt; rw [List.length_mergeSort]; exact List.length_filter_le _ _
/-- What is behind what was found is no more than all. -/
theorem few_of {E r : List Ent} (hr : r.Nodup ∧ ∀ x ∈ r, x ∈ E) : r.length ≤ E.length := nodup_le r E hr.1 hr.2
theorem nodup_srt {E : List Ent} (hn : E.Nodup) (S : Pth → Bool) : (srt E S).Nodup := by
  unfold List.Nodup
  refine (srt_lst hn S).1.imp ?_
  intro a b h e
  rw [e] at h
  exact elt_irrefl b h
theorem nodup_app {E r : List Ent} (hn : E.Nodup) (S : Pth → Bool) (hr : r.Nodup ∧ ∀ x ∈ r, x ∈ E) (hd : ∀ x ∈ r, S x.1 = false) : (r ++ srt E S).Nodup ∧ ∀ x ∈ r ++ srt E S, x ∈ E := by
  refine ⟨List.nodup_append.2 ⟨hr.1, nodup_srt hn S, fun x hx y hy e => ?_⟩, fun x hx => ?_⟩
  · subst e
    have : S x.1 = true := (((srt_lst hn S).2 x).1 hy).2
    rw [hd x hx] at this; cases this
  · rcases List.mem_append.1 hx with h | h
    · exact hr.2 x h
    · exact (((srt_lst hn S).2 x).1 h).1
section
variable {pre : List Value} {a : TL} {N : List Pth} {E : List Ent} {nb ne : Nat} {Wo : World} {ob : Nat}
theorem take_srt (T : Tl Wo pre a N E nb ne) (hl : ∀ k, a.has N k → k < ob) (hE : E.length ≤ 100000) (q : Pth) (hq : q ∈ N) (hql : q.length ≤ 32) (W : World) (r : List Ent) (hr : r.Nodup ∧ ∀ x ∈ r, x ∈ E) (hW : Out Wo ob W r) :
    Calls Try.prog 49 #[pv (ad q : Nat) (q.length : Nat), ptr a pre q, .pointer (some ⟨ob, 0, none⟩)] W fun e w' => e = .returned (.tuple #[]) ∧ Out Wo ob w' (r ++ srt E (atQ q)) ∧ Kt ob W w' := by
  have := few_of hr
  refine (take_any W pre a N E nb ne Wo ob r T hl hE (by omega) q hq hql hW).mono ?_
  rintro e w' ⟨rfl, vs, h1, h2, h3, h4⟩
  rw [srt_vals T.en h1 h2] at h3
  exact ⟨rfl, h3, h4⟩
theorem each_any (T : Tl Wo pre a N E nb ne) (hl : ∀ k, a.has N k → k < ob) (hE : E.length ≤ 100000) (hN : ∀ q ∈ N, q.length ≤ 32) (hcl : ∀ q, (∃ e ∈ E, q <+: e.1) → q ∈ N) :
    ∀ (f : Nat) (q : Pth), q ∈ N → 32 - q.length < f → ∀ (W : World) (r : List Ent), (r.Nodup ∧ ∀ x ∈ r, x ∈ E) → (∀ x ∈ r, ¬ q <+: x.1) → Out Wo ob W r →
      Calls Try.prog 52 #[ptr a pre q, pv (ad q : Nat) (q.length : Nat), takeF ob] W fun e w' => e = .returned (.tuple #[]) ∧ Out Wo ob w' (r ++ srt E (upQ q)) ∧ Kt ob W w'
  | 0, q, _, hf, _, _, _, _, _ => by omega
  | f + 1, q, hq, hf, W, r, hr, hd, hW => by
    have hql := hN q hq
    have hc : ∀ w, Below ob Wo w → w.cell? ⟨a.bk q, off pre q, none⟩ = some (wyV a N (q ++ [false])) ∧ w.cell? ⟨a.bk q, off pre q + 1, none⟩ = some (wyV a N (q ++ [true])) := fun w hb => by
      have := (tl_cells (T.below hb hl) hq).1
      exact ⟨this.1, this.2.1⟩
    have hr1 := nodup_app T.en (atQ q) hr (fun x hx => decide_eq_false (fun e => hd x hx (by rw [e]; exact List.prefix_rfl)))
    have hd1 : ∀ y, ∀ x ∈ r ++ srt E (atQ q), ¬ q ++ [y] <+: x.1 := fun y x hx hp => by
      rcases List.mem_append.1 hx with h | h
      · exact hd x h ((List.prefix_append _ _).trans hp)
      · have e := of_decide_eq_true (((srt_lst T.en (atQ q)).2 x).1 h).2
        have := hp.length_le
        rw [e, List.length_append] at this; simp at this; omega
    have hr2 := nodup_app T.en (upQ (q ++ [false])) hr1 (fun x hx => decide_eq_false (hd1 false x hx))
    have hd2 : ∀ x ∈ r ++ srt E (atQ q) ++ srt E (upQ (q ++ [false])), ¬ q ++ [true] <+: x.1 := fun x hx hp => by
      rcases List.mem_append.1 hx with h | h
      · exact hd1 true x h hp
      · have e := of_decide_eq_true (((srt_lst T.en (upQ (q ++ [false]))).2 x).1 h).2
        obtain ⟨t, ht⟩ := hp
        obtain ⟨u, hu⟩ := e
        rw [← ht, List.append_assoc, List.append_assoc] at hu
        have := List.append_cancel_left hu
        simp at this
    have hT := fun w hO => take_srt T hl hE q hq hql w r hr hO
    have child : ∀ y, q ++ [y] ∈ N → q.length < 32 ∧ ptr a pre (q ++ [y]) = .pointer (some ⟨a.bk (q ++ [y]), 0, none⟩) := fun y hy => by
      have := hN _ hy
      rw [List.length_append] at this
      refine ⟨by simp at this; omega, ?_⟩
      unfold ptr off
      rw [if_neg (by simp)]
    have gone : ∀ y, q ++ [y] ∉ N → srt E (upQ (q ++ [y])) = [] := fun y hy => srt_none T.en (fun x hx => decide_eq_false (fun hp => hy (hcl _ ⟨x, hx, hp⟩)))
    have ih := fun y (hy : q ++ [y] ∈ N) => each_any T hl hE hN hcl f (q ++ [y]) hy (by have := (child y hy).1; rw [List.length_append]; simp; omega)
    have eq3 : r ++ srt E (upQ q) = r ++ srt E (atQ q) ++ srt E (upQ (q ++ [false])) ++ srt E (upQ (q ++ [true])) := by rw [← srt_node T.en q]; simp only [List.append_assoc]
    by_cases h0 : q ++ [false] ∈ N <;> by_cases h1 : q ++ [true] ∈ N
    · rw [wy_in h0, wy_in h1] at hc
      rw [eq3]
      have k0 := ih false h0
      have k1 := ih true h1
      rw [(child false h0).2] at k0
      rw [(child true h1).2] at k1
      exact each_11 W q hql _ _ _ _ Wo ob r _ _ _ (Lib.hid hW) (Lib.hid hc) (Lib.hid hT) (Lib.hid (fun w => with_any q (child false h0).1 false w)) (Lib.hid (fun w hO => k0 w _ hr1 (hd1 false) hO)) (Lib.hid (fun w => with_any q (child false h0).1 true w)) (Lib.hid (fun w hO => k1 w _ hr2 hd2 hO))
    · rw [wy_in h0, wy_out h1] at hc
      rw [eq3, gone true h1, List.append_nil]
      have k0 := ih false h0
      rw [(child false h0).2] at k0
      exact each_10 W q hql _ _ _ Wo ob r _ _ (Lib.hid hW) (Lib.hid hc) (Lib.hid hT) (Lib.hid (fun w => with_any q (child false h0).1 false w)) (Lib.hid (fun w hO => k0 w _ hr1 (hd1 false) hO))
    · rw [wy_out h0, wy_in h1] at hc
      rw [gone false h0, List.append_nil] at eq3 hr2 hd2
      rw [eq3]
      have k1 := ih true h1
      rw [(child true h1).2] at k1
      exact each_01 W q hql _ _ _ Wo ob r _ _ (Lib.hid hW) (Lib.hid hc) (Lib.hid hT) (Lib.hid (fun w => with_any q (child true h1).1 true w)) (Lib.hid (fun w hO => k1 w _ hr2 hd2 hO))
    · rw [wy_out h0, wy_out h1] at hc
      rw [eq3, gone false h0, gone true h1, List.append_nil, List.append_nil]
      exact each_00 W q hql _ _ Wo ob r _ (Lib.hid hW) (Lib.hid hc) (Lib.hid hT)
end
end Go.Proofs.Ytgcbngephokegaa
