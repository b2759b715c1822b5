/- What TablePlays wants besides. -/
import Derived.Test.YtgcbngephokegaaT24
namespace Go.Proofs.Ytgcbngephokegaa
open Go.RowKit
set_option linter.unusedVariables false
set_option linter.unusedSimpArgs false

theorem has_met (A : Nat) (hA : A < 4294967296) {x : Ru} (hx : rightB x.a x.n = true) (ho : x.a < 4294967296) : metQ (pth A 32) (re x).1 = hasQ A x := by
  obtain ⟨h0, h1, h2⟩ := of_decide_eq_true hx
  obtain ⟨m, hm⟩ := Int.eq_ofNat_of_zero_le h0
  have hml : m ≤ 32 := by omega
  rw [met_ru A 32 x m hA (Nat.le_refl _) (by show A % 2 ^ 0 = 0; omega) hx hm ho, decide_eq_true hml, Bool.true_and]
  have e : hasQ A x = decide (A / sz m = x.a / sz m) := by unfold hasQ; rw [hm]; rfl
  rw [e]
  by_cases c : A / sz m = x.a / sz m
  · rw [decide_eq_true c, Bool.true_or]
  · have hc2 : ¬ (32 ≤ m ∧ x.a / sz 32 = A / sz 32) := by
      rintro ⟨d, q⟩
      have : m = 32 := by omega
      subst this
      exact c q.symm
    rw [decide_eq_false c, Bool.false_or, ← Bool.decide_and, decide_eq_false hc2]
theorem head_find (m : List Ru) (f : Ru → Bool) : headR (m.filter f) = match m.find? f with
    | some r => (r, true)
    | none => (ru0, false) := by
  induction m with
  | nil => rfl
  | cons x m ih =>
    rw [List.find?_cons]
    cases c : f x with
    | true => rw [List.filter_cons_of_pos c]; rfl
    | false => rw [List.filter_cons_of_neg (by rw [c]; simp), ih]
theorem bestA_head {m : List Ru} (hr : MRight m) (A : Nat) (hA : A < 4294967296) : bestA m A = headR (meetR m A 32) := by
  have e : meetR m A 32 = m.filter (hasQ A) := by
    unfold meetR
    rw [right_32 A hA, if_pos rfl]
    refine List.filter_congr (fun x hx => ?_)
    exact has_met A hA (hr x hx).1 (hr x hx).2.1
  rw [e, head_find]
  rfl
def fndI (m : List Ru) (id : Int) : Bool := m.any fun x => decide (x.id = id)
theorem fndI_snoc (m : List Ru) (id : Int) (i : Nat) (x : Ru) (h : m[i]? = some x) : fndI (m.take (i + 1)) id = (fndI (m.take i) id || decide (x.id = id)) := by
  unfold fndI
  rw [List.take_add_one, h, Option.toList_some, List.any_append]
  simp
theorem fndI_find (m : List Ru) (id : Int) : (findI m id).2 = fndI m id := by
  unfold findI fndI
  cases h : m.find? (fun r => decide (r.id = id)) with
  | none =>
    symm
    rw [List.any_eq_false]
    intro x hx
    exact List.find?_eq_none.1 h x hx
  | some r =>
    symm
    rw [List.any_eq_true]
    have h2 := List.find?_some h
    exact ⟨r, List.mem_of_find?_eq_some h, h2⟩
theorem findI_is {m : List Ru} (hn : (m.map Ru.id).Nodup) {x : Ru} (hx : x ∈ m) {id : Int} (h : x.id = id) : (findI m id).1 = x := by
  rw [← h, findI_in hn hx]
theorem made_asked : ∀ (L : List ChR), Asked (madeL L) := fun L => by
  have : ∀ (L : List ChR) (m : List Ru), Asked m → Asked (L.foldl stepR2 m) := fun L => by
    induction L with
    | nil => exact fun m h => h
    | cons x L ih => exact fun m h => ih _ (h.step x)
  exact this _ _ asked_nil
end Go.Proofs.Ytgcbngephokegaa
