/- Best, by what is asked first. What TablePlays wants besides. -/
import Derived.Test.YtgcbngephokegaaT22
namespace Go.Proofs.Ytgcbngephokegaa
open Go.RowKit Go.Maps Go.MapKept Go.ChangeMaps Go.WideElems Go.Joins
set_option linter.unusedVariables false
set_option linter.unusedSimpArgs false

def headR : List Ru → Ru × Bool
  | [] => (ru0, false)
  | x :: _ => (x, true)
theorem right_32 (A : Nat) (hA : A < 4294967296) : rightB A 32 = true := decide_eq_true ⟨by omega, by omega, by show A % 2 ^ 0 = 0; omega⟩
theorem best_head {rs l : List Ru} (hm : ∀ r, r ∈ rs ↔ r ∈ l) (hl : Strict l) : bestOf rs = headR l := by
  cases l with
  | nil =>
    cases rs with
    | nil => rfl
    | cons y ys => have := (hm y).1 List.mem_cons_self; cases this
  | cons x xs =>
    cases rs with
    | nil => have := (hm x).2 List.mem_cons_self; cases this
    | cons y ys =>
      obtain ⟨h1, h2⟩ := minR_spec ys y
      have hx := h2 x ((hm x).2 List.mem_cons_self)
      have hmem := (hm _).1 h1
      show (minR y ys, true) = (x, true)
      rcases List.mem_cons.1 hmem with e | e
      · rw [e]
      · exact absurd ((List.pairwise_cons.1 hl).1 _ e) hx
theorem tbest_any {Z : Nat → Prop} {p : Nat} {W : World} {M : List Ru} (h : Tab Z p W M) (hM : Strict M) (A : Nat) (hA : A < 4294967296) (hl : M.length ≤ 100000) :
    Calls Try.prog 30 #[.pointer (some ⟨p, 0, none⟩), .int .u32 (A : Nat)] W fun e w' => e = .returned (.tuple #[rv (headR (meetR M A 32)).1, .bool (headR (meetR M A 32)).2]) ∧ Below W.heap.size W w' := by
  refine (best_any h A hA hl).mono ?_
  rintro e w' ⟨⟨rs, hrs, rfl⟩, hb⟩
  have : bestOf rs = headR (meetR M A 32) := best_head (fun r => by rw [hrs, mem_meetR (right_32 A hA)]; exact Iff.rfl) (meetR_strict hM A 32)
  exact ⟨by rw [this], hb⟩
/-- Without the first one. -/
theorem meet_drop {M : List Ru} (hn : (M.map Ru.id).Nodup) (A : Nat) (n : Int) {x : Ru} {xs : List Ru} (h : meetR M A n = x :: xs) : meetR (dropI M x.id) A n = xs := by
  have h1 : meetR (dropI M x.id) A n = (meetR M A n).filter (fun r => decide (r.id ≠ x.id)) := by
    unfold meetR dropI
    split
    · rw [List.filter_filter, List.filter_filter]
      congr 1
      funext r
      exact Bool.and_comm _ _
    · rfl
  have h2 := meetR_ids hn A n
  rw [h] at h1 h2
  rw [h1]
  obtain ⟨h3, h4⟩ := List.nodup_cons.1 h2
  rw [List.filter_cons_of_neg (by simp)]
  exact dropI_none h3
theorem meet_mem {M : List Ru} {A : Nat} {n : Int} {x : Ru} {xs : List Ru} (h : meetR M A n = x :: xs) : x ∈ M := by
  have : x ∈ meetR M A n := by rw [h]; exact List.mem_cons_self
  unfold meetR at this
  split at this
  · exact (List.mem_filter.1 this).1
  · cases this
/-- Put in again. -/
theorem put_again {M : List Ru} (h : Asked M) {x : Ru} (hx : x ∈ M) (hr : rightB x.a x.n = true) : taddC (dropI M x.id) x = 0 ∧ ∀ r, r ∈ M ↔ r ∈ taddF (dropI M x.id) x := by
  have hn : x.id ∉ (dropI M x.id).map Ru.id := fun q => by
    obtain ⟨y, hy, e⟩ := List.mem_map.1 q
    exact (mem_dropI.1 hy).2 e
  unfold taddC taddF
  rw [hr, if_pos rfl, if_pos rfl, if_neg hn, if_neg hn]
  refine ⟨rfl, fun r => ?_⟩
  rw [List.mem_cons, mem_dropI]
  constructor
  · intro q
    by_cases c : r.id = x.id
    · exact Or.inl (id_inj h.n q hx c)
    · exact Or.inr ⟨q, c⟩
  · rintro (q | q)
    · rw [q]; exact hx
    · exact q.1
theorem TM.grow {Y : Nat → Prop} {W w w' : World} {p : Nat} {lv : Value} {m : List Ru} (h : TM Y W p w lv m) (hb : Below w.heap.size w w') : TM (fun k => Y k ∨ (w.heap.size ≤ k ∧ k < w'.heap.size)) W p w' lv m :=
  ⟨(h.t.grow hb).less (fun k q => by
    rcases q with q | q | q
    · exact Or.inl (Or.inl q)
    · exact Or.inl (Or.inr q)
    · exact Or.inr q), h.h.trans (Hold.of hb), Row.on h.l hb, h.y.more (fun _ q => Or.inl q), h.a⟩
theorem TM.more {Y Y' : Nat → Prop} {W w : World} {p : Nat} {lv : Value} {m : List Ru} (h : TM Y W p w lv m) (hy : ∀ k, Y k ↔ Y' k) : TM Y' W p w lv m := by
  have : Y = Y' := funext (fun k => propext (hy k))
  rw [← this]; exact h
end Go.Proofs.Ytgcbngephokegaa
namespace Go.Proofs.Ytgcbngephokegaa
open Go.RowKit
set_option linter.unusedVariables false
set_option linter.unusedSimpArgs false

theorem has_met (A : Nat) (hA : A < 4294967296) {x : Ru} (hx : rightB x.a x.n = true) (ho : x.a < 4294967296) : metQ (pth A 32) (re x).1 = hasQ A x := by
  obtain ⟨h0, h1, h2⟩ := of_decide_eq_true hx
  obtain ⟨m, hm⟩ := Int.eq_ofNat_of_zero_le h0
  have hml : m ≤ 32 := by omega
  rw [met_ru A 32 x m hA (Nat.le_refl _) (by show A % 2 ^ 0 = 0; omega) hx hm ho, decide_eq_true hml, Bool.true_and]
  have e : hasQ A x = decide (A / sz m = x.a / sz m) := by unfold hasQ; rw [hm]; rfl
  rw [e]
  by_cases c : A / sz m = x.a / sz m
  · rw [decide_eq_true c, Bool.true_or]
  · have hc2 : ¬ (32 ≤ m ∧ x.a / sz 32 = A / sz 32) := by
      rintro ⟨d, q⟩
      have : m = 32 := by omega
      subst this
      exact c q.symm
    rw [decide_eq_false c, Bool.false_or, ← Bool.decide_and, decide_eq_false hc2]
theorem head_find (m : List Ru) (f : Ru → Bool) : headR (m.filter f) = match m.find? f with
    | some r => (r, true)
    | none => (ru0, false) := by
  induction m with
  | nil => rfl
  | cons x m ih =>
    rw [List.find?_cons]
    cases c : f x with
    | true => rw [List.filter_cons_of_pos c]; rfl
    | false => rw [List.filter_cons_of_neg (by rw [c]; simp), ih]
theorem bestA_head {m : List Ru} (hr : MRight m) (A : Nat) (hA : A < 4294967296) : bestA m A = headR (meetR m A 32) := by
  have e : meetR m A 32 = m.filter (hasQ A) := by
    unfold meetR
    rw [right_32 A hA, if_pos rfl]
    refine List.filter_congr (fun x hx => ?_)
    exact has_met A hA (hr x hx).1 (hr x hx).2.1
  rw [e, head_find]
  rfl
def fndI (m : List Ru) (id : Int) : Bool := m.any fun x => decide (x.id = id)
theorem fndI_snoc (m : List Ru) (id : Int) (i : Nat) (x : Ru) (h : m[i]? = some x) : fndI (m.take (i + 1)) id = (fndI (m.take i) id || decide (x.id = id)) := by
  unfold fndI
  rw [List.take_add_one, h, Option.toList_some, List.any_append]
  simp
theorem fndI_find (m : List Ru) (id : Int) : (findI m id).2 = fndI m id := by
  unfold findI fndI
  cases h : m.find? (fun r => decide (r.id = id)) with
  | none =>
    symm
    rw [List.any_eq_false]
    intro x hx
    exact List.find?_eq_none.1 h x hx
  | some r =>
    symm
    rw [List.any_eq_true]
    have h2 := List.find?_some h
    exact ⟨r, List.mem_of_find?_eq_some h, h2⟩
theorem findI_is {m : List Ru} (hn : (m.map Ru.id).Nodup) {x : Ru} (hx : x ∈ m) {id : Int} (h : x.id = id) : (findI m id).1 = x := by
  rw [← h, findI_in hn hx]
theorem made_asked : ∀ (L : List ChR), Asked (madeL L) := fun L => by
  have : ∀ (L : List ChR) (m : List Ru), Asked m → Asked (L.foldl stepR2 m) := fun L => by
    induction L with
    | nil => exact fun m h => h
    | cons x L ih => exact fun m h => ih _ (h.step x)
  exact this _ _ asked_nil
end Go.Proofs.Ytgcbngephokegaa
