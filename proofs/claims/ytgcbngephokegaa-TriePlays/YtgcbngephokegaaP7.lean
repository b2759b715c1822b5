/- The document's lists are the tree's entries, in order. No program in sight. -/
import Derived.Test.YtgcbngephokegaaP5
import Derived.Test.YtgcbngephokegaaK13
namespace Go.Proofs.Ytgcbngephokegaa
open Go.RowKit
set_option linter.unusedVariables false
set_option linter.unusedSimpArgs false

theorem all_lst {E : List Ent} (hn : E.Nodup) : (srt E (metQ [])).Pairwise elt ∧ ∀ x, x ∈ srt E (metQ []) ↔ x ∈ E := by
  have h := srt_lst hn (metQ [])
  exact ⟨h.1, fun x => (h.2 x).trans ⟨fun q => q.1, fun q => ⟨q, by simp⟩⟩⟩
theorem filter_srt {E : List Ent} (hn : E.Nodup) (S : Pth → Bool) (f : Ent → Bool) (h : ∀ x ∈ E, f x = S x.1) : (srt E (metQ [])).filter f = srt E S := by
  obtain ⟨h1, h2⟩ := all_lst hn
  have hs := srt_lst hn S
  refine sorted_uniq (h1.filter f) hs.1 (fun x => ?_)
  rw [List.mem_filter, h2, hs.2]
  exact ⟨fun q => ⟨q.1, (h x q.1).symm.trans q.2⟩, fun q => ⟨q.1, (h x q.1).trans q.2⟩⟩
theorem metL_srt {E : List Ent} (hn : E.Nodup) (q : Pth) : metL (srt E (metQ [])) q = srt E (metQ q) := filter_srt hn _ _ (fun x _ => rfl)
theorem isB_iff (A k : Nat) (v : Int) (x : Ent) (hA : A < 4294967296) (hk : k ≤ 32) (hr : A % sz k = 0) (hx : x.1.length ≤ 32) : isB A (k : Nat) v x = true ↔ x = (pth A k, v) := by
  unfold isB
  simp only [Bool.and_eq_true, beq_iff_eq]
  constructor
  · rintro ⟨h1, h2, h3⟩
    have e := pth_ad x.1 hx
    rw [show ad x.1 = A by omega, show x.1.length = k by omega] at e
    exact Prod.ext e.symm h3
  · rintro rfl
    show ((ad (pth A k) : Nat) : Int) = _ ∧ (((pth A k).length : Nat) : Int) = _ ∧ _
    rw [ad_right A k hA hk hr, pth_len]
    exact ⟨rfl, rfl, rfl⟩
theorem dropR_srt {E : List Ent} (hn : E.Nodup) (hle : ∀ x ∈ E, x.1.length ≤ 32) (A k : Nat) (v : Int) (hA : A < 4294967296) (hk : k ≤ 32) (hr : A % sz k = 0) : dropR (srt E (metQ [])) A (k : Nat) v = srt (dropE E (pth A k, v)) (metQ []) := by
  obtain ⟨h1, h2⟩ := all_lst hn
  have hn2 : (dropE E (pth A k, v)).Nodup := nodup_dropE hn
  obtain ⟨h3, h4⟩ := all_lst hn2
  refine sorted_uniq (h1.filter _) h3 (fun x => ?_)
  unfold dropR
  rw [List.mem_filter, h2, h4, mem_dropE]
  constructor
  · rintro ⟨q1, q2⟩
    refine ⟨q1, fun e => ?_⟩
    have := (isB_iff A k v x hA hk hr (hle x q1)).2 e
    rw [this] at q2; cases q2
  · rintro ⟨q1, q2⟩
    refine ⟨q1, ?_⟩
    cases c : isB A (k : Nat) v x with
    | false => rfl
    | true => exact absurd ((isB_iff A k v x hA hk hr (hle x q1)).1 c) q2
/-- What is put into an order where it belongs. -/
theorem ins_srt {E : List Ent} (hn : E.Nodup) (hle : ∀ x ∈ E, x.1.length ≤ 32) (x : Ent) (hx : x ∉ E) (hxl : x.1.length ≤ 32) (j : Nat) (hb : ∀ i y, i < j → (srt E (metQ []))[i]? = some y → befE y x = true) (ha : ∀ y, (srt E (metQ []))[j]? = some y → befE y x = false) :
    (srt E (metQ [])).take j ++ x :: (srt E (metQ [])).drop j = srt (addE E x) (metQ []) := by
  obtain ⟨h1, h2⟩ := all_lst hn
  obtain ⟨h3, h4⟩ := all_lst (nodup_addE (x := x) hn)
  generalize srt E (metQ []) = r at *
  have hlt : ∀ y ∈ r.take j, elt y x := fun y hy => by
    obtain ⟨i, hi⟩ := List.getElem?_of_mem hy
    rw [List.getElem?_take] at hi
    split at hi
    · next c =>
      have hyE := (h2 y).1 (List.mem_of_getElem? hi)
      exact (elt_bef (hle y hyE) hxl).2 (hb i y c hi)
    · cases hi
  have hgt : ∀ y ∈ r.drop j, elt x y := fun y hy => by
    have hyE := (h2 y).1 (List.mem_of_mem_drop hy)
    cases hd : r.drop j with
    | nil => rw [hd] at hy; cases hy
    | cons z l =>
      have hz : r[j]? = some z := by
        have := congrArg (·[0]?) hd
        simpa using this
      have hzE := (h2 z).1 (List.mem_of_getElem? hz)
      have hzx : elt x z := by
        rcases elt_total x z with e | e | e
        · exact absurd (by rw [e]; exact hzE) hx
        · exact e
        · have := (elt_bef (hle z hzE) hxl).1 e
          rw [ha z hz] at this; cases this
      rw [hd] at hy
      rcases List.mem_cons.1 hy with rfl | q
      · exact hzx
      · have hp : (r.drop j).Pairwise elt := h1.sublist (List.drop_sublist j r)
        rw [hd] at hp
        exact elt_trans hzx ((List.pairwise_cons.1 hp).1 y q)
  refine sorted_uniq ?_ h3 (fun y => ?_)
  · refine List.pairwise_append.2 ⟨h1.sublist (List.take_sublist j r), List.pairwise_cons.2 ⟨hgt, h1.sublist (List.drop_sublist j r)⟩, fun a qa b qb => ?_⟩
    rcases List.mem_cons.1 qb with e | q
    · rw [e]; exact hlt a qa
    · exact elt_trans (hlt a qa) (hgt b q)
  · rw [h4, mem_addE, ← h2 y, List.mem_append, List.mem_cons]
    constructor
    · rintro (q | q | q)
      · exact Or.inr (List.mem_of_mem_take q)
      · exact Or.inl q
      · exact Or.inr (List.mem_of_mem_drop q)
    · rintro (q | q)
      · exact Or.inr (Or.inl q)
      · rw [← List.take_append_drop j r] at q
        rcases List.mem_append.1 q with q | q
        · exact Or.inl q
        · exact Or.inr (Or.inr q)
theorem ofB_iff (A n : Nat) (x : Ent) (hA : A < 4294967296) (hn : n ≤ 32) (hx : x.1.length ≤ 32) : ofB A n x = atQ ((pth A 32).take n) x.1 := by
  rw [pth_take A 32 n hn]
  unfold ofB
  have e := pth_eq hA (ad_lt x.1 hx) hn
  rw [Bool.eq_iff_iff]
  simp only [Bool.and_eq_true, decide_eq_true_eq]
  constructor
  · rintro ⟨h1, h2⟩
    have h3 := e.2 h2
    rw [← h1, pth_ad x.1 hx, h1] at h3
    exact h3.symm
  · intro h
    have hl : x.1.length = n := by rw [h, pth_len]
    refine ⟨hl, e.1 ?_⟩
    rw [← h]
    have := pth_ad x.1 hx
    rw [hl] at this
    exact this.symm
theorem ofL_srt {E : List Ent} (hn : E.Nodup) (hle : ∀ x ∈ E, x.1.length ≤ 32) (A : Nat) (hA : A < 4294967296) : ofL (srt E (metQ [])) A 33 = srt E (metQ (pth A 32)) := by
  have key : ∀ n, n ≤ 33 → ofL (srt E (metQ [])) A n = srt E (lessQ (pth A 32) n) := by
    intro n
    induction n with
    | zero => intro _; rw [less_zero hn]; rfl
    | succ n ih =>
      intro h
      rw [← less_succ hn (pth A 32) n (by rw [pth_len]; omega), ← ih (by omega)]
      show _ ++ _ = _ ++ _
      congr 1
      exact filter_srt hn _ _ (fun x hx => ofB_iff A n x hA (by omega) (hle x hx))
  rw [key 33 (Nat.le_refl _), ← less_up hn (pth A 32), ← less_succ hn (pth A 32) 32 (by rw [pth_len]; omega), pth_len]
  congr 1
  refine (srt_lst hn _).uniq (srt_lst hn _) (fun x => ?_)
  constructor
  · rintro ⟨h1, h2⟩
    refine ⟨h1, ?_⟩
    rw [pth_take A 32 32 (Nat.le_refl _)] at h2
    have h2 := of_decide_eq_true h2
    exact decide_eq_true (by rw [h2]; exact List.prefix_refl _)
  · rintro ⟨h1, h2⟩
    refine ⟨h1, ?_⟩
    rw [pth_take A 32 32 (Nat.le_refl _)]
    have h2 := of_decide_eq_true h2
    refine decide_eq_true (h2.eq_of_length_le ?_).symm
    rw [pth_len]; exact hle x h1
end Go.Proofs.Ytgcbngephokegaa
