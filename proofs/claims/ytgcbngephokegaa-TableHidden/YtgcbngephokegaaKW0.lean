/- What the laws of trees want: entries put in one by one; entries read off a row. -/
import Derived.Test.YtgcbngephokegaaKA
import Derived.Test.YtgcbngephokegaaKO
namespace Go.Proofs.Ytgcbngephokegaa
open Go.RowKit Go.Maps Go.MapKept Go.ChangeMaps Go.WideElems Go.Joins
set_option linter.unusedVariables false

def addL (E : List Ent) (L : List OpR) : List Ent := L.foldl (fun E x => addF E x.a x.n x.v) E
theorem addL_snoc (E : List Ent) (L : List OpR) (i : Nat) (x : OpR) (hx : L[i]? = some x) : addL E (L.take (i + 1)) = addF (addL E (L.take i)) x.a x.n x.v := by
  unfold addL
  rw [List.take_add_one, hx, Option.toList_some, List.foldl_append]; rfl
theorem addF_len (E : List Ent) (A : Nat) (n v : Int) : (addF E A n v).length ≤ E.length + 1 := by
  unfold addF addE; split
  · split
    · omega
    · simp
  · omega
theorem addL_len (L : List OpR) : ∀ E : List Ent, (addL E L).length ≤ E.length + L.length := by
  unfold addL
  induction L with
  | nil => intro E; simp
  | cons x r ih => intro E; rw [List.foldl_cons, List.length_cons]; have := ih (addF E x.a x.n x.v); have := addF_len E x.a x.n x.v; omega
theorem mem_addF {E : List Ent} {A : Nat} {n v : Int} {y : Ent} : y ∈ addF E A n v ↔ y ∈ E ∨ (rightB A n = true ∧ y = (pth A n.toNat, v)) := by
  unfold addF
  cases h : rightB A n with
  | false => simp
  | true => simp only [if_true, mem_addE, true_and]; exact or_comm
theorem mem_addL {L : List OpR} : ∀ {E : List Ent} {y : Ent}, y ∈ addL E L ↔ y ∈ E ∨ ∃ x ∈ L, rightB x.a x.n = true ∧ y = (pth x.a x.n.toNat, x.v) := by
  unfold addL
  induction L with
  | nil => intro E y; simp
  | cons x r ih =>
    intro E y
    rw [List.foldl_cons, ih, mem_addF]
    constructor
    · rintro ((h | h) | ⟨z, h1, h2⟩)
      · exact Or.inl h
      · exact Or.inr ⟨x, List.mem_cons_self .., h⟩
      · exact Or.inr ⟨z, List.mem_cons_of_mem _ h1, h2⟩
    · rintro (h | ⟨z, h1, h2⟩)
      · exact Or.inl (Or.inl h)
      · rcases List.mem_cons.1 h1 with rfl | h1
        · exact Or.inl (Or.inr h2)
        · exact Or.inr ⟨z, h1, h2⟩
/-- An entry of a row. -/
theorem ents_at {w : World} {base : Nat} {v : Value} {r : List Ent} (h : Ents w base v r) (hn : 0 < r.length) : ∃ g cap, v = .slice (some ⟨g, 0, none⟩) r.length cap ∧ base ≤ g ∧ g < w.heap.size ∧
    ∀ i x, r[i]? = some x → w.cell? ⟨g, i * 3, none⟩ = some (.int .u32 (ad x.1 : Nat)) ∧ w.cell? ⟨g, i * 3 + 1, none⟩ = some (.int .i64 (x.1.length : Nat)) ∧ w.cell? ⟨g, i * 3 + 2, none⟩ = some (.int .i64 x.2) := by
  obtain ⟨g, cap, e, h1, h2, h3⟩ := Row.at h hn
  refine ⟨g, cap, e, h1, h2, fun i x hx => ?_⟩
  have hg := fun j (hj : j < 3) => flat_get ecell 3 r (fun _ _ => rfl) i j x hx hj
  refine ⟨h3 (i * 3) _ ?_, h3 (i * 3 + 1) _ ?_, h3 (i * 3 + 2) _ ?_⟩
  · have := hg 0 (by omega); rw [Nat.mul_comm] at this; exact this
  · have := hg 1 (by omega); rw [Nat.mul_comm] at this; exact this
  · have := hg 2 (by omega); rw [Nat.mul_comm] at this; exact this
theorem Ents.on {w w' : World} {base : Nat} {v : Value} {r : List Ent} (h : Ents w base v r) (hb : Below w.heap.size w w') : Ents w' base v r := Row.on h hb
/-- Two entries alike as they read are one. -/
theorem ent_eq {x y : Ent} (hx : x.1.length ≤ 32) (hy : y.1.length ≤ 32) (h1 : ad x.1 = ad y.1) (h2 : x.1.length = y.1.length) (h3 : x.2 = y.2) : x = y := by
  have e1 := pth_ad x.1 hx
  have e2 := pth_ad y.1 hy
  rw [h1, h2, e2] at e1
  exact Prod.ext e1.symm h3
/-- Entries that are met at an address. -/
theorem met_at {E : List Ent} (hn : E.Nodup) (hle : ∀ e ∈ E, e.1.length ≤ 32) (a : Nat) {x : Ent} (hx : x ∈ srt E (metQ (pth a 32))) : x ∈ E ∧ x.1 = pth a x.1.length ∧ x.1.length ≤ 32 := by
  obtain ⟨h1, h2⟩ := ((srt_lst hn _).2 x).1 hx
  have h2 := of_decide_eq_true h2
  have hl := hle x h1
  have hp : x.1 <+: pth a 32 := by
    rcases h2 with h2 | h2
    · exact h2
    · rw [h2.eq_of_length (Nat.le_antisymm h2.length_le (by rw [pth_len]; exact hl))]; exact List.prefix_rfl
  refine ⟨h1, ?_, hl⟩
  have := List.prefix_iff_eq_take.1 hp
  rw [pth_take a 32 _ hl] at this
  exact this
/-- .. in order: bits rise, or values do. -/
theorem met_lt {E : List Ent} (hn : E.Nodup) (hle : ∀ e ∈ E, e.1.length ≤ 32) (a : Nat) {k : Nat} {x y : Ent} (hx : (srt E (metQ (pth a 32)))[k]? = some x) (hy : (srt E (metQ (pth a 32)))[k + 1]? = some y) : x.1.length < y.1.length ∨ (x.1 = y.1 ∧ x.2 < y.2) := by
  have mx := met_at hn hle a (List.mem_of_getElem? hx)
  have my := met_at hn hle a (List.mem_of_getElem? hy)
  have hp := List.pairwise_iff_getElem.1 (srt_lst hn (metQ (pth a 32))).1
  have hk : k + 1 < (srt E (metQ (pth a 32))).length := by
    rcases Nat.lt_or_ge (k + 1) (srt E (metQ (pth a 32))).length with c | c
    · exact c
    · rw [List.getElem?_eq_none c] at hy; cases hy
  have := hp k (k + 1) (by omega) hk (by omega)
  rw [List.getElem?_eq_getElem (by omega)] at hx
  rw [List.getElem?_eq_getElem hk] at hy
  rw [Option.some.inj hx, Option.some.inj hy] at this
  rcases this with h | h
  · left
    rcases Nat.lt_or_ge x.1.length y.1.length with c | c
    · exact c
    · have hpre : y.1 <+: x.1 := by rw [mx.2.1, my.2.1]; exact pth_pre a c
      obtain ⟨t, ht⟩ := hpre
      cases t with
      | nil => rw [List.append_nil] at ht; rw [ht, plt_irrefl] at h; cases h
      | cons b t =>
        have := plt_pre y.1 b t
        rw [ht] at this
        have := plt_trans h this
        rw [plt_irrefl] at this; cases this
  · exact Or.inr h
theorem srt_all_len {E : List Ent} (hn : E.Nodup) : (srt E (metQ [])).length = E.length :=
  nodup_len (nodup_srt hn _) hn (fun x => ⟨fun h => (((srt_lst hn _).2 x).1 h).1, fun h => ((srt_lst hn _).2 x).2 ⟨h, decide_eq_true (Or.inr (List.nil_prefix ..))⟩⟩)
end Go.Proofs.Ytgcbngephokegaa
