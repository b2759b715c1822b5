/- The document's Add and Drop of a tree's entries in order. -/
import Derived.Test.YtgcbngephokegaaP9
import Derived.Test.YtgcbngephokegaaP10
import Derived.Test.YtgcbngephokegaaKB1
namespace Go.Proofs.Ytgcbngephokegaa
open Go.RowKit
set_option linter.unusedVariables false
set_option linter.unusedSimpArgs false

/-- A tree's entries: each once, of no more than 32 bits. -/
def EOk (E : List Ent) : Prop := E.Nodup ∧ ∀ x ∈ E, x.1.length ≤ 32
abbrev all (E : List Ent) : List Ent := srt E (metQ [])
theorem dropE_self {E : List Ent} {x : Ent} (h : x ∉ E) : dropE E x = E := List.filter_eq_self.2 (fun y hy => by
  simp only [ne_eq, decide_not, Bool.not_eq_eq_eq_not, Bool.not_true, decide_eq_false_iff_not]
  rintro rfl; exact h hy)
theorem all_one (x : Ent) : all [x] = [x] := by
  obtain ⟨h1, h2⟩ := all_lst (E := [x]) (by simp)
  exact sorted_uniq h1 (List.pairwise_singleton _ _) h2
theorem dropE_len0 {E : List Ent} (hn : E.Nodup) (x : Ent) : (dropE E x).length = E.length ↔ x ∉ E := by
  constructor
  · intro h hx
    have := nodup_le (x :: dropE E x) E (List.nodup_cons.2 ⟨fun q => (mem_dropE.1 q).2 rfl, nodup_dropE hn⟩) (fun y hy => by
      rcases List.mem_cons.1 hy with rfl | q
      · exact hx
      · exact (mem_dropE.1 q).1)
    rw [List.length_cons] at this; omega
  · intro h
    rw [dropE_self h]
theorem drop_srt {E : List Ent} (h : EOk E) (A k : Nat) (v : Int) (hA : A < 4294967296) (hk : k ≤ 32) (hr : rightB A (k : Nat) = true) :
    dropK (all E) A (k : Nat) v = dropC E A (k : Nat) v ∧ dropZ (all E) A (k : Nat) v = all (dropF E A (k : Nat) v) := by
  have hm : A % sz k = 0 := (of_decide_eq_true hr).2.2
  have e := dropR_srt h.1 h.2 A k v hA hk hm
  unfold dropK dropZ dropC dropF
  rw [e, hr]
  simp only [if_true, Int.toNat_natCast]
  rw [srt_all_len h.1, srt_all_len (nodup_dropE h.1)]
  by_cases c : (pth A k, v) ∈ E
  · have : ¬ (dropE E (pth A k, v)).length = E.length := fun q => (dropE_len0 h.1 _).1 q c
    rw [if_neg this, if_pos c, if_neg this]
    exact ⟨rfl, rfl⟩
  · have : (dropE E (pth A k, v)).length = E.length := (dropE_len0 h.1 _).2 c
    rw [if_pos this, if_neg c, if_pos this]
    refine ⟨rfl, ?_⟩
    rw [dropE_self c]
theorem add_srt {E : List Ent} (h : EOk E) (A k : Nat) (v : Int) (hA : A < 4294967296) (hk : k ≤ 32) (hr : rightB A (k : Nat) = true) (j : Nat)
    (h1 : ∀ i y, i < j → (all E)[i]? = some y → befB (ad y.1) (y.1.length : Nat) y.2 A (k : Nat) v = true) (h2 : ∀ y, (all E)[j]? = some y → befB (ad y.1) (y.1.length : Nat) y.2 A (k : Nat) v = false) :
    addK (all E) j A k v = addC E A (k : Nat) v ∧ addR (all E) j A k v = all (addF E A (k : Nat) v) := by
  have hm : A % sz k = 0 := (of_decide_eq_true hr).2.2
  have ea := ad_right A k hA hk hm
  have hb : ∀ y : Ent, befE y (pth A k, v) = befB (ad y.1) (y.1.length : Nat) y.2 A (k : Nat) v := fun y => by
    unfold befE
    show befB _ _ _ (ad (pth A k)) ((pth A k).length : Nat) v = _
    rw [ea, pth_len]
  obtain ⟨a1, a2⟩ := all_lst h.1
  have key : isAt (all E) j A k v = true ↔ (pth A k, v) ∈ E := by
    unfold isAt
    constructor
    · intro q
      cases hy : (all E)[j]? with
      | none => rw [hy] at q; cases q
      | some y =>
        rw [hy] at q
        have hyE := (a2 y).1 (List.mem_of_getElem? hy)
        have := (isB_iff A k v y hA hk hm (h.2 y hyE)).1 q
        rw [← this]; exact hyE
    · intro hx
      obtain ⟨i, hi⟩ := List.getElem?_of_mem ((a2 _).2 hx)
      have hxl : ((pth A k, v) : Ent).1.length ≤ 32 := by show (pth A k).length ≤ 32; rw [pth_len]; exact hk
      rcases Nat.lt_trichotomy i j with q | q | q
      · have := h1 i _ q hi
        rw [← hb] at this
        exact absurd ((elt_bef hxl hxl).2 this) (elt_irrefl _)
      · subst q
        rw [hi]
        exact (isB_iff A k v _ hA hk hm hxl).2 rfl
      · have hjl : j < (all E).length := by
          rcases Nat.lt_or_ge i (all E).length with c | c
          · omega
          · rw [List.getElem?_eq_none c] at hi; cases hi
        have hy := List.getElem?_eq_getElem hjl
        have hil : i < (all E).length := by
          rcases Nat.lt_or_ge i (all E).length with c | c
          · exact c
          · rw [List.getElem?_eq_none c] at hi; cases hi
        have hlt := List.pairwise_iff_getElem.1 a1 j i hjl hil q
        rw [List.getElem?_eq_getElem hil] at hi
        have hi := Option.some.inj hi
        rw [hi] at hlt
        have := h2 _ hy
        rw [← hb, (elt_bef (h.2 _ ((a2 _).1 (List.getElem_mem hjl))) hxl).1 hlt] at this
        cases this
  unfold addK addR addC addF
  rw [hr]
  simp only [if_true, Int.toNat_natCast]
  by_cases c : (pth A k, v) ∈ E
  · rw [if_pos (key.2 c), if_pos c, if_pos (key.2 c)]
    refine ⟨rfl, ?_⟩
    unfold addE; rw [if_pos c]
  · have c2 : ¬ isAt (all E) j A k v = true := fun q => c (key.1 q)
    rw [if_neg c2, if_neg c, if_neg c2]
    refine ⟨rfl, ?_⟩
    exact ins_srt h.1 h.2 (pth A k, v) c (by show (pth A k).length ≤ 32; rw [pth_len]; exact hk) j (fun i y hi hy => by rw [hb]; exact h1 i y hi hy) (fun y hy => by rw [hb]; exact h2 y hy)
/-- What a call leaves: the list as it was, or a new one. -/
def Left (w w' : World) (b0 : Nat) (l u : Value) (r : List Ent) : Prop := REnts w' b0 u r ∧ Below w.heap.size w w' ∧ (u = l ∨ REnts w' w.heap.size u r)
theorem rdrop_any (W : World) (b0 : Nat) (l : Value) (E : List Ent) (h : EOk E) (A : Nat) (n v : Int) (hA : A < 4294967296) (hl : REnts W b0 l (all E)) (hlen : E.length ≤ 100000) (hb0 : b0 ≤ W.heap.size) :
    Calls Try.prog 10 #[l, pv (A : Nat) n, .int .i64 v] W fun e w' => ∃ u, e = .returned (.tuple #[u, .int .i64 (dropC E A n v)]) ∧ Left W w' b0 l u (all (dropF E A n v)) := by
  cases hr : rightB A n with
  | false =>
    refine (rdrop_wrong W l A n v hA hr).mono ?_
    rintro e w' ⟨rfl, hb⟩
    have e1 : dropC E A n v = 13 := by unfold dropC; rw [hr]; rfl
    have e2 : dropF E A n v = E := by unfold dropF; rw [hr]; rfl
    rw [e1, e2]
    exact ⟨l, rfl, Row.on hl hb, hb, Or.inl rfl⟩
  | true =>
    obtain ⟨h0, h1, -⟩ := of_decide_eq_true hr
    obtain ⟨k, rfl⟩ := Int.eq_ofNat_of_zero_le h0
    have hs := drop_srt h A k v hA (by omega) hr
    refine (rdrop_right W b0 l (all E) A (k : Nat) v hA hr hl (by rw [srt_all_len h.1]; exact hlen) hb0).mono ?_
    rintro e w' ⟨u, rfl, q1, q2, q3⟩
    rw [hs.2] at q1 q3
    exact ⟨u, by rw [hs.1], q1, q2, q3⟩
theorem radd_any (W : World) (b0 : Nat) (l : Value) (E : List Ent) (h : EOk E) (A : Nat) (n v : Int) (hA : A < 4294967296) (hl : REnts W b0 l (all E)) (hlen : E.length ≤ 100000) (hb0 : b0 ≤ W.heap.size) :
    Calls Try.prog 12 #[l, pv (A : Nat) n, .int .i64 v] W fun e w' => ∃ u, e = .returned (.tuple #[u, .int .i64 (addC E A n v)]) ∧ Left W w' b0 l u (all (addF E A n v)) := by
  cases hr : rightB A n with
  | false =>
    refine (radd_wrong W l A n v hA hr).mono ?_
    rintro e w' ⟨rfl, hb⟩
    have e1 : addC E A n v = 13 := by unfold addC; rw [hr]; rfl
    have e2 : addF E A n v = E := by unfold addF; rw [hr]; rfl
    rw [e1, e2]
    exact ⟨l, rfl, Row.on hl hb, hb, Or.inl rfl⟩
  | true =>
    obtain ⟨h0, h1, -⟩ := of_decide_eq_true hr
    obtain ⟨k, rfl⟩ := Int.eq_ofNat_of_zero_le h0
    cases E with
    | nil =>
      have e0 : all ([] : List Ent) = [] := List.length_eq_zero_iff.1 (srt_all_len List.nodup_nil)
      rw [e0] at hl
      have el : l = .slice none 0 0 := hl.2.2 rfl
      subst el
      refine (radd_nil W A k v hA (by omega) hr).mono ?_
      rintro e w' ⟨u, rfl, q1, q2⟩
      have e1 : addC [] A (k : Nat) v = 0 := by unfold addC; rw [hr]; rfl
      have e2 : all (addF [] A (k : Nat) v) = [(pth A k, v)] := by
        unfold addF addE; rw [hr, if_pos rfl, if_neg (by simp)]; exact all_one _
      rw [e1, e2]
      exact ⟨u, rfl, Row.base q1 hb0, q2, Or.inr q1⟩
    | cons x E' =>
      generalize hE : x :: E' = E at *
      have hp : 0 < E.length := by rw [← hE]; simp
      refine (radd_right W b0 l (all E) A k v hA (by omega) hr hl (by rw [srt_all_len h.1]; exact hlen) hb0 (by rw [srt_all_len h.1]; exact hp)).mono ?_
      rintro e w' ⟨j, u, hj, h1, h2, rfl, q1, q2, q3⟩
      have hs := add_srt h A k v hA (by omega) hr j h1.out h2.out
      rw [hs.2] at q1 q3
      exact ⟨u, by rw [hs.1], q1, q2, q3⟩
/-- One operation more. -/
def stepE (E : List Ent) (x : OpR) : List Ent := if x.d then dropF E x.a x.n x.v else addF E x.a x.n x.v
def stepC (E : List Ent) (x : OpR) : Int := if x.d then dropC E x.a x.n x.v else addC E x.a x.n x.v
def playL (L : List OpR) : List Ent := L.foldl stepE []
theorem playL_snoc (L : List OpR) (i : Nat) (x : OpR) (hx : L[i]? = some x) : playL (L.take (i + 1)) = stepE (playL (L.take i)) x := by
  unfold playL
  rw [List.take_add_one, hx, Option.toList_some, List.foldl_append]
  rfl
theorem foldl_step_len : ∀ (L : List OpR) (E : List Ent), (L.foldl stepE E).length ≤ E.length + L.length
  | [], E => Nat.le_refl _
  | x :: L, E => by
    have h1 := foldl_step_len L (stepE E x)
    have h2 : (stepE E x).length ≤ E.length + 1 := by
      unfold stepE
      split
      · have := dropF_len E x.a x.n x.v; omega
      · exact addF_len E x.a x.n x.v
    rw [List.foldl_cons, List.length_cons]; omega
theorem playL_len (L : List OpR) (i : Nat) : (playL (L.take i)).length ≤ i := by
  have := foldl_step_len (L.take i) []
  rw [List.length_take, List.length_nil] at this
  unfold playL; omega
end Go.Proofs.Ytgcbngephokegaa
