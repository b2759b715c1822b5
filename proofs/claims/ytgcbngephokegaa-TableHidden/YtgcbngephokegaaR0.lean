/- The document's lists of rules, in plain. -/
import Derived.Test.YtgcbngephokegaaT16
import Derived.Test.YtgcbngephokegaaPK
namespace Go.Proofs.Ytgcbngephokegaa
open Go.RowKit
set_option linter.unusedVariables false
set_option linter.unusedSimpArgs false

theorem rcells_one (L : List Ru) : ∀ u ∈ L.flatMap Ru.cells, u.oneCell' = true := fun u hu => by
  obtain ⟨x, -, hx⟩ := List.mem_flatMap.1 hu
  simp [Ru.cells] at hx
  rcases hx with rfl | rfl | rfl | rfl | rfl | rfl <;> rfl
theorem rcells_len (L : List Ru) : (L.flatMap Ru.cells).length = L.length * 6 := by
  induction L with
  | nil => rfl
  | cons x L ih => rw [List.flatMap_cons, List.length_append, ih, List.length_cons]; show 6 + _ = _; omega
theorem rtake_get (m : List Ru) (j i : Nat) (u : Value) (h : ((m.take j).flatMap Ru.cells)[i]? = some u) : (m.flatMap Ru.cells)[i]? = some u := by
  have e : m.flatMap Ru.cells = (m.take j).flatMap Ru.cells ++ (m.drop j).flatMap Ru.cells := by rw [← List.flatMap_append, List.take_append_drop]
  have hl : i < ((m.take j).flatMap Ru.cells).length := by
    rcases Nat.lt_or_ge i ((m.take j).flatMap Ru.cells).length with q | q
    · exact q
    · rw [List.getElem?_eq_none q] at h; cases h
  rw [e, List.getElem?_append_left hl]; exact h
theorem rdrop_get (m : List Ru) (j i : Nat) (hj : j ≤ m.length) (u : Value) (h : ((m.drop j).flatMap Ru.cells)[i]? = some u) : (m.flatMap Ru.cells)[j * 6 + i]? = some u := by
  have e : m.flatMap Ru.cells = (m.take j).flatMap Ru.cells ++ (m.drop j).flatMap Ru.cells := by rw [← List.flatMap_append, List.take_append_drop]
  have hl : ((m.take j).flatMap Ru.cells).length = j * 6 := by rw [rcells_len, List.length_take]; omega
  rw [e, List.getElem?_append_right (by omega), hl, Nat.add_sub_cancel_left]; exact h
/-- Where a rule is put: behind the last one that is asked ahead of it. -/
def atN (m : List Ru) (x : Ru) : Nat → Nat
  | 0 => 0
  | i + 1 => match m[i]? with
    | some y => if aheadB y x then i + 1 else atN m x i
    | none => atN m x i
theorem atN_succ (m : List Ru) (x : Ru) (i : Nat) (y : Ru) (hy : m[i]? = some y) : atN m x (i + 1) = if aheadB y x then i + 1 else atN m x i := by
  show (match m[i]? with | some y => if aheadB y x then i + 1 else atN m x i | none => atN m x i) = _
  rw [hy]
theorem atN_le (m : List Ru) (x : Ru) : ∀ i, atN m x i ≤ i
  | 0 => Nat.le_refl _
  | i + 1 => by
    have := atN_le m x i
    show (match m[i]? with | some y => if aheadB y x then i + 1 else atN m x i | none => atN m x i) ≤ i + 1
    split
    · split
      · exact Nat.le_refl _
      · exact Nat.le_succ_of_le this
    · exact Nat.le_succ_of_le this
theorem atN_ahead (m : List Ru) (x : Ru) : ∀ i, i ≤ m.length → 0 < atN m x i → ∃ y, m[atN m x i - 1]? = some y ∧ aheadB y x = true
  | 0, _, h => by simp [atN] at h
  | i + 1, hi, h => by
    have hy := List.getElem?_eq_getElem (l := m) (i := i) (by omega)
    rw [atN_succ m x i _ hy] at h ⊢
    split at h
    · next c => rw [if_pos c]; exact ⟨_, hy, c⟩
    · next c => rw [if_neg c]; exact atN_ahead m x i (by omega) h
theorem atN_behind (m : List Ru) (x : Ru) : ∀ i, i ≤ m.length → ∀ k y, atN m x i ≤ k → k < i → m[k]? = some y → aheadB y x = false
  | 0, _, k, y, _, h, _ => by omega
  | i + 1, hi, k, y, h1, h2, hk => by
    have hy := List.getElem?_eq_getElem (l := m) (i := i) (by omega)
    rw [atN_succ m x i _ hy] at h1
    split at h1
    · omega
    · next c =>
      rcases Nat.lt_or_ge k i with q | q
      · exact atN_behind m x i (by omega) k y h1 q hk
      · obtain rfl : k = i := by omega
        rw [hy] at hk
        have := Option.some.inj hk
        rw [← this]
        simpa using c
def insR (m : List Ru) (x : Ru) : List Ru := m.take (atN m x m.length) ++ x :: m.drop (atN m x m.length)
theorem mem_insR {m : List Ru} {x r : Ru} : r ∈ insR m x ↔ r = x ∨ r ∈ m := by
  unfold insR
  generalize atN m x m.length = a
  rw [List.mem_append, List.mem_cons]
  constructor
  · rintro (q | q | q)
    · exact Or.inr (List.mem_of_mem_take q)
    · exact Or.inl q
    · exact Or.inr (List.mem_of_mem_drop q)
  · rintro (q | q)
    · exact Or.inr (Or.inl q)
    · rw [← List.take_append_drop a m] at q
      rcases List.mem_append.1 q with q | q
      · exact Or.inl q
      · exact Or.inr (Or.inr q)
theorem insR_len (m : List Ru) (x : Ru) : (insR m x).length = m.length + 1 := by
  unfold insR
  have := atN_le m x m.length
  rw [List.length_append, List.length_cons, List.length_take, List.length_drop]; omega
theorem insR_strict {m : List Ru} (h : Strict m) {x : Ru} (hn : x.id ∉ m.map Ru.id) : Strict (insR m x) := by
  have hA := atN_ahead m x m.length (Nat.le_refl _)
  have hB := atN_behind m x m.length (Nat.le_refl _)
  have hle := atN_le m x m.length
  unfold insR
  generalize atN m x m.length = a at *
  have hlt : ∀ y ∈ m.take a, compR y x < 0 := fun y hy => by
    obtain ⟨i, hi⟩ := List.getElem?_of_mem hy
    rw [List.getElem?_take] at hi
    split at hi
    · next c =>
      obtain ⟨z, hz, hz2⟩ := hA (by omega)
      have hz3 := (compR_lt z x).2 hz2
      have hil : i < m.length := by omega
      have hjl : a - 1 < m.length := by omega
      rw [List.getElem?_eq_getElem hil] at hi
      rw [List.getElem?_eq_getElem hjl] at hz
      have hi := Option.some.inj hi
      have hz := Option.some.inj hz
      rcases Nat.lt_or_ge i (a - 1) with q | q
      · have := List.pairwise_iff_getElem.1 h i (a - 1) hil hjl q
        rw [hi, hz] at this
        exact compR_trans _ _ _ this hz3
      · have : i = a - 1 := by omega
        subst this
        rw [← hi, hz]; exact hz3
    · cases hi
  have hgt : ∀ y ∈ m.drop a, compR x y < 0 := fun y hy => by
    obtain ⟨i, hi⟩ := List.getElem?_of_mem hy
    rw [List.getElem?_drop] at hi
    have hil : a + i < m.length := by
      rcases Nat.lt_or_ge (a + i) m.length with c | c
      · exact c
      · rw [List.getElem?_eq_none c] at hi; cases hi
    have h1 := hB (a + i) y (by omega) hil hi
    have h2 : ¬ compR y x < 0 := fun q => by rw [(compR_lt y x).1 q] at h1; cases h1
    have h3 : compR y x ≠ 0 := fun e => hn (List.mem_map.2 ⟨y, List.mem_of_mem_drop hy, ((compR_zero y x).1 e).2.2⟩)
    have := compR_neg y x
    omega
  refine List.pairwise_append.2 ⟨h.sublist (List.take_sublist a m), List.pairwise_cons.2 ⟨hgt, h.sublist (List.drop_sublist a m)⟩, fun u hu z hz => ?_⟩
  rcases List.mem_cons.1 hz with rfl | q
  · exact hlt u hu
  · exact compR_trans _ _ _ (hlt u hu) (hgt z q)
theorem ids_nodup {m m' : List Ru} (h : (m'.map Ru.id).Nodup) (hm : Strict m) (he : ∀ r, r ∈ m ↔ r ∈ m') (hn : m'.Nodup) : (m.map Ru.id).Nodup :=
  (((List.perm_ext_iff_of_nodup hm.nodup hn).2 he).map Ru.id).nodup_iff.2 h
/-- What the document's Add leaves. -/
def raddF (m : List Ru) (x : Ru) : List Ru := if rightB x.a x.n then (if x.id ∈ m.map Ru.id then m else insR m x) else m
/-- A list of rules as they are asked, of unlike IDs. -/
structure Asked (m : List Ru) : Prop where
  s : Strict m
  n : (m.map Ru.id).Nodup
theorem asked_nil : Asked [] := ⟨List.Pairwise.nil, List.nodup_nil⟩
theorem Asked.add {m : List Ru} (h : Asked m) (x : Ru) : Asked (raddF m x) ∧ (∀ r, r ∈ raddF m x ↔ r ∈ taddF m x) := by
  unfold raddF taddF
  split
  · split
    · exact ⟨h, fun r => Iff.rfl⟩
    · next c =>
      have hs := insR_strict h.s c
      have he : ∀ r, r ∈ insR m x ↔ r ∈ x :: m := fun r => by rw [mem_insR, List.mem_cons]
      exact ⟨⟨hs, ids_nodup (m' := x :: m) (List.nodup_cons.2 ⟨c, h.n⟩) hs he (List.nodup_cons.2 ⟨fun q => c (List.mem_map.2 ⟨x, q, rfl⟩), h.s.nodup⟩)⟩, he⟩
  · exact ⟨h, fun r => Iff.rfl⟩
theorem Asked.drop {m : List Ru} (h : Asked m) (id : Int) : Asked (dropI m id) := ⟨h.s.filter _, h.n.sublist (List.Sublist.map _ List.filter_sublist)⟩
theorem raddF_len (m : List Ru) (x : Ru) : (raddF m x).length ≤ m.length + 1 := by
  unfold raddF
  split
  · split
    · omega
    · rw [insR_len]; exact Nat.le_refl _
  · omega
theorem dropI_len (m : List Ru) (id : Int) : (dropI m id).length ≤ m.length := List.length_filter_le _ _
theorem Tab.add {Z : Nat → Prop} {p : Nat} {w : World} {m : List Ru} (hm : Asked m) (x : Ru) (h : Tab Z p w (taddF m x)) : Tab Z p w (raddF m x) := h.perm (hm.add x).2 (hm.add x).1.n
/-- What a call leaves: the list as it was, or a new one. -/
def RLeft (w w' : World) (b0 : Nat) (l u : Value) (r : List Ru) : Prop := Rules w' b0 u r ∧ Below w.heap.size w w' ∧ (u = l ∨ Rules w' w.heap.size u r)
end Go.Proofs.Ytgcbngephokegaa
