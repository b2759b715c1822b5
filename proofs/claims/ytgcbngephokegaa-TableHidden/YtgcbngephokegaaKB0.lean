/- What TrieBack wants: what was put in, each once; taken out in another order. -/
import Derived.Test.YtgcbngephokegaaKW2
import Derived.Test.YtgcbngephokegaaK13
namespace Go.Proofs.Ytgcbngephokegaa
open Go.RowKit Go.Maps Go.MapKept Go.ChangeMaps Go.WideElems Go.Joins
set_option linter.unusedVariables false

theorem infoOp : (Try.prog.info? 36).map (fun i => (i.zero, i.size, i.bytes)) = some (some (.agg #[.bool false, .int .u32 0, .int .i64 0, .int .i64 0]), 4, 32) := by kernel_rfl
theorem ts_drop {W w : World} {p : Nat} {E : List Ent} (h : TS W p w E) (x : OpR) (hx : x.Ok) (hE : E.length ≤ 100000) :
    Calls Try.prog 9 #[.pointer (some ⟨p, 0, none⟩), pv (x.a : Nat) x.n, .int .i64 x.v] w fun e w' => e = .returned (.int .i64 (dropC E x.a x.n x.v)) ∧ TS W p w' (dropF E x.a x.n x.v) :=
  (tDrop h.t x.a x.n x.v hx.1 hx.2 hE).mono (fun e w' q => ⟨q.1, q.2.1, h.h.trans q.2.2⟩)
/-- The entry of an operation. -/
def pe (x : OpR) : Ent := (pth x.a x.n.toNat, x.v)
/-- What was put in. -/
structure Put (E1 E : List Ent) (P : List OpR) : Prop where
  m : ∀ y, y ∈ E ↔ y ∈ E1 ∨ ∃ x ∈ P, y = pe x
  n : (P.map pe).Nodup
  r : ∀ x ∈ P, pe x ∉ E1 ∧ rightB x.a x.n = true ∧ x.Ok
theorem put_nil (E1 : List Ent) : Put E1 E1 [] := ⟨fun y => by simp, List.nodup_nil, fun x h => by cases h⟩
theorem put_same {E1 E : List Ent} {P : List OpR} (h : Put E1 E P) (x : OpR) (hc : addC E x.a x.n x.v ≠ 0) : addF E x.a x.n x.v = E := by
  unfold addC at hc
  unfold addF addE
  cases hr : rightB x.a x.n with
  | false => rfl
  | true =>
    rw [hr] at hc
    simp only [if_true] at hc ⊢
    by_cases c : (pth x.a x.n.toNat, x.v) ∈ E
    · rw [if_pos c]
    · rw [if_neg c] at hc; exact absurd rfl hc
theorem put_more {E1 E : List Ent} {P : List OpR} (h : Put E1 E P) (x : OpR) (hx : x.Ok) (hc : addC E x.a x.n x.v = 0) : Put E1 (addF E x.a x.n x.v) (P ++ [x]) := by
  unfold addC at hc
  cases hr : rightB x.a x.n with
  | false => rw [hr] at hc; simp at hc
  | true =>
    rw [hr] at hc
    simp only [if_true] at hc
    have hn : pe x ∉ E := fun c => by
      have c : (pth x.a x.n.toNat, x.v) ∈ E := c
      rw [if_pos c] at hc; cases hc
    refine ⟨fun y => ?_, ?_, fun z hz => ?_⟩
    · rw [mem_addF, h.m, hr]
      constructor
      · rintro ((c | ⟨z, h1, h2⟩) | c)
        · exact Or.inl c
        · exact Or.inr ⟨z, List.mem_append_left _ h1, h2⟩
        · exact Or.inr ⟨x, List.mem_append_right _ (by simp), c.2⟩
      · rintro (c | ⟨z, h1, h2⟩)
        · exact Or.inl (Or.inl c)
        · rcases List.mem_append.1 h1 with h1 | h1
          · exact Or.inl (Or.inr ⟨z, h1, h2⟩)
          · rw [List.mem_singleton.1 h1] at h2; exact Or.inr ⟨rfl, h2⟩
    · rw [List.map_append]
      refine List.nodup_append.2 ⟨h.n, by simp, fun u hu z hz e => ?_⟩
      obtain ⟨t, ht, rfl⟩ := List.mem_map.1 hu
      have hz' : z = pe x := by simpa using hz
      exact hn ((h.m _).2 (Or.inr ⟨t, ht, by rw [← hz', e]⟩))
    · rcases List.mem_append.1 hz with h1 | h1
      · exact h.r z h1
      · rw [List.mem_singleton.1 h1]
        exact ⟨fun c => hn ((h.m _).2 (Or.inl c)), hr, hx⟩
/-- What is left when so many were taken out. -/
structure Took (E2 E : List Ent) (P : List OpR) (t i : Nat) : Prop where
  m : ∀ y, y ∈ E ↔ y ∈ E2 ∧ ∀ j, j < i → ∀ x, P[(j + t) % P.length]? = some x → y ≠ pe x
theorem took_nil (E2 : List Ent) (P : List OpR) (t : Nat) : Took E2 E2 P t 0 := ⟨fun y => ⟨fun h => ⟨h, fun j hj => by omega⟩, fun h => h.1⟩⟩
theorem mod_inj {n t i j : Nat} (hj : j < i) (hi : i < n) : (j + t) % n ≠ (i + t) % n := fun e => by
  have := Nat.div_add_mod (j + t) n
  have := Nat.div_add_mod (i + t) n
  rw [e] at *
  have h2 : n * ((i + t) / n) - n * ((j + t) / n) = i - j := by omega
  rw [← Nat.mul_sub] at h2
  cases hq : (i + t) / n - (j + t) / n with
  | zero => rw [hq] at h2; omega
  | succ k => rw [hq, Nat.mul_succ] at h2; omega
theorem took_more {E1 E2 E : List Ent} {P : List OpR} {t i : Nat} (h : Took E2 E P t i) (hp : Put E1 E2 P) (hi : i < P.length) {x : OpR} (hx : P[(i + t) % P.length]? = some x) :
    dropC E x.a x.n x.v = 0 ∧ Took E2 (dropF E x.a x.n x.v) P t (i + 1) := by
  have hxP := List.mem_of_getElem? hx
  have hr := (hp.r x hxP).2.1
  have hin : pe x ∈ E := by
    refine (h.m _).2 ⟨(hp.m _).2 (Or.inr ⟨x, hxP, rfl⟩), fun j hj z hz e => ?_⟩
    have hd := List.pairwise_iff_getElem.1 hp.n
    have l1 : (j + t) % P.length < P.length := Nat.mod_lt _ (by omega)
    have l2 : (i + t) % P.length < P.length := Nat.mod_lt _ (by omega)
    rw [List.getElem?_eq_getElem l1] at hz
    rw [List.getElem?_eq_getElem l2] at hx
    have e1 := Option.some.inj hz
    have e2 := Option.some.inj hx
    have hne := mod_inj (n := P.length) (t := t) hj hi
    rcases Nat.lt_or_gt_of_ne hne with c | c
    · have := hd _ _ (by rw [List.length_map]; exact l1) (by rw [List.length_map]; exact l2) c
      rw [List.getElem_map, List.getElem_map, e1, e2] at this
      exact this e.symm
    · have := hd _ _ (by rw [List.length_map]; exact l2) (by rw [List.length_map]; exact l1) c
      rw [List.getElem_map, List.getElem_map, e1, e2] at this
      exact this e
  constructor
  · unfold dropC; rw [hr]; simp only [if_true]; exact if_pos hin
  · refine ⟨fun y => ?_⟩
    unfold dropF
    rw [hr]
    simp only [if_true, mem_dropE, h.m]
    constructor
    · rintro ⟨⟨h1, h2⟩, h3⟩
      refine ⟨h1, fun j hj z hz => ?_⟩
      rcases Nat.lt_or_ge j i with c | c
      · exact h2 j c z hz
      · rw [show j = i by omega, hx] at hz
        cases hz; exact h3
    · rintro ⟨h1, h2⟩
      exact ⟨⟨h1, fun j hj => h2 j (by omega)⟩, h2 i (by omega) x hx⟩
theorem took_all {E1 E2 E : List Ent} {P : List OpR} {t : Nat} (h : Took E2 E P t P.length) (hp : Put E1 E2 P) : ∀ y, y ∈ E ↔ y ∈ E1 := fun y => by
  rw [h.m, hp.m]
  constructor
  · rintro ⟨c | ⟨x, hx, e⟩, h2⟩
    · exact c
    · obtain ⟨i, hi⟩ := List.getElem?_of_mem hx
      have hl : i < P.length := by
        rcases Nat.lt_or_ge i P.length with c | c
        · exact c
        · rw [List.getElem?_eq_none c] at hi; cases hi
      have h0 : t % P.length < P.length := Nat.mod_lt _ (by omega)
      have e2 : ((i + (P.length - t % P.length)) % P.length + t) % P.length = i := by
        rw [Nat.mod_add_mod]
        have := Nat.div_add_mod t P.length
        rw [show i + (P.length - t % P.length) + t = i + P.length * (t / P.length + 1) by rw [Nat.mul_add, Nat.mul_one]; omega, Nat.add_mul_mod_self_left, Nat.mod_eq_of_lt hl]
      exact absurd e (h2 ((i + (P.length - t % P.length)) % P.length) (Nat.mod_lt _ (by omega)) x (by rw [e2]; exact hi))
  · intro c
    refine ⟨Or.inl c, fun j _ x hx e => ?_⟩
    exact (hp.r x (List.mem_of_getElem? hx)).1 (by rw [← e]; exact c)
end Go.Proofs.Ytgcbngephokegaa
