/- Slices of structs that are handed in, opened to lists of records. No program in sight. -/
import Derived.Test.YtgcbngephokegaaAt
import Derived.Test.YtgcbngephokegaaLaw
import Derived.Lib.SmallJoins
namespace Go.Proofs.Ytgcbngephokegaa
open Go.ChangeShapes Go.WideShapes Go.ChangeAt Go.RowKit Go.Joins Go.Deep Go.WideElems Go.Maps
set_option linter.unusedVariables false

/-- These cells lie behind a slice's address. -/
def Rw (w : World) (a : Option Addr) (cs : List Value) : Prop := ∀ j v, cs[j]? = some v → ∃ b off, a = some ⟨b, off, none⟩ ∧ w.cell? ⟨b, off + j, none⟩ = some v
theorem Rw.on {w w' : World} {a : Option Addr} {cs : List Value} (h : Rw w a cs) (hb : Below w.heap.size w w') : Rw w' a cs := fun j v hv => by
  obtain ⟨b, off, e, hc⟩ := h j v hv
  exact ⟨b, off, e, (hb.cell (p := ⟨b, off + j, none⟩) (cell_lt (o := off + j) (by rw [hc]; rfl))).trans hc⟩
theorem Rw.ad {w : World} {a : Option Addr} {c : Value} {cs : List Value} (h : Rw w a (c :: cs)) : ∃ b off, a = some ⟨b, off, none⟩ := by
  obtain ⟨b, off, e, -⟩ := h 0 c rfl; exact ⟨b, off, e⟩
theorem Rw.cell {w : World} {b off : Nat} {cs : List Value} (h : Rw w (some ⟨b, off, none⟩) cs) {j : Nat} {v : Value} (hv : cs[j]? = some v) : w.cell? ⟨b, off + j, none⟩ = some v := by
  obtain ⟨b', off', e, hc⟩ := h j v hv
  cases e; exact hc
theorem Rw.pre {w : World} {a : Option Addr} {cs ds : List Value} (h : Rw w a (cs ++ ds)) : Rw w a cs := fun j v hv => h j v (by
  rw [List.getElem?_append_left]
  · exact hv
  · rcases Nat.lt_or_ge j cs.length with q | q
    · exact q
    · rw [List.getElem?_eq_none q] at hv; cases hv)
theorem Rw.take {α : Type} {w : World} {a : Option Addr} {f : α → List Value} {L : List α} (h : Rw w a (L.flatMap f)) (k : Nat) : Rw w a ((L.take k).flatMap f) := by
  rw [← List.take_append_drop k L, List.flatMap_append] at h
  exact h.pre
/-- Where the j-th cell of the i-th of rows of k cells each stands. -/
theorem flat_get {α : Type} (f : α → List Value) (k : Nat) : ∀ (L : List α), (∀ x ∈ L, (f x).length = k) → ∀ (i j : Nat) (x : α), L[i]? = some x → j < k → (L.flatMap f)[k * i + j]? = (f x)[j]?
  | [], _, i, j, x, hx, _ => by simp at hx
  | y :: r, hk, 0, j, x, hx, hj => by
    simp at hx; subst hx
    rw [List.flatMap_cons, Nat.mul_zero, Nat.zero_add, List.getElem?_append_left (by rw [hk _ (by simp)]; exact hj)]
  | y :: r, hk, i + 1, j, x, hx, hj => by
    have hy : (f y).length = k := hk y (by simp)
    rw [List.flatMap_cons, List.getElem?_append_right (by rw [hy, Nat.mul_succ]; omega), hy, show k * (i + 1) + j - k = k * i + j by rw [Nat.mul_succ]; omega]
    exact flat_get f k r (fun x hx => hk x (by simp [hx])) i j x (by simpa using hx) hj
/-- The j-th cell of the i-th element. -/
theorem Rw.elem {α : Type} {w : World} {b off : Nat} {f : α → List Value} {L : List α} (k : Nat) (h : Rw w (some ⟨b, off, none⟩) (L.flatMap f)) (hk : ∀ x, (f x).length = k) {i : Nat} {x : α} (hx : L[i]? = some x) (j : Nat) {v : Value} (hv : (f x)[j]? = some v) :
    w.cell? ⟨b, off + i * k + j, none⟩ = some v := by
  have hj : j < k := by
    rw [← hk x]
    rcases Nat.lt_or_ge j (f x).length with q | q
    · exact q
    · rw [List.getElem?_eq_none q] at hv; cases hv
  have := h.cell (j := k * i + j) (by rw [flat_get f k L (fun x _ => hk x) i j x hx hj]; exact hv)
  rw [Nat.mul_comm i k, Nat.add_assoc]; exact this
theorem Rw.elemAd {α : Type} {w : World} {a : Option Addr} {f : α → List Value} {L : List α} (k : Nat) (h : Rw w a (L.flatMap f)) (hk : ∀ x, (f x).length = k + 1) {i : Nat} {x : α} (hx : L[i]? = some x) : ∃ b off, a = some ⟨b, off, none⟩ := by
  have e := flat_get f (k + 1) L (fun x _ => hk x) i 0 x hx (by omega)
  rw [List.getElem?_eq_getElem (show 0 < (f x).length by rw [hk]; omega)] at e
  obtain ⟨b, off, e, -⟩ := h _ _ e
  exact ⟨b, off, e⟩
theorem drop_at {α : Type} {l : List α} {i : Nat} (h : i < l.length) : ∃ x, l[i]? = some x ∧ l.drop i = x :: l.drop (i + 1) ∧ x ∈ l := ⟨l[i], List.getElem?_eq_getElem h, List.drop_eq_getElem_cons h, List.getElem_mem h⟩
theorem list_of {α : Type} (Pr : Nat → α → Prop) : ∀ n, (∀ i, i < n → ∃ x, Pr i x) → ∃ L : List α, L.length = n ∧ ∀ i x, L[i]? = some x → Pr i x
  | 0, _ => ⟨[], rfl, fun i x h => by simp at h⟩
  | n + 1, h => by
    obtain ⟨L, hl, hL⟩ := list_of Pr n (fun i hi => h i (by omega))
    obtain ⟨x, hx⟩ := h n (by omega)
    refine ⟨L ++ [x], by simp [hl], fun i y hy => ?_⟩
    rcases Nat.lt_or_ge i n with q | q
    · rw [List.getElem?_append_left (by omega)] at hy; exact hL i y hy
    · rw [List.getElem?_append_right (by omega), hl] at hy
      have e : i = n := by
        rcases Nat.eq_or_lt_of_le q with q | q
        · exact q.symm
        · rw [List.getElem?_eq_none (by simp; omega)] at hy; cases hy
      subst e
      simp at hy; subst hy; exact hx
theorem spot_none {w : World} {a : Addr} {v : Value} (h : w.cell? a = some v) : a.spot = none := by
  unfold World.cell? at h
  split at h
  · cases hs : a.spot with
    | none => rfl
    | some s => rw [hs] at h; simp at h
  · cases h
theorem add_plain {b off n : Nat} : (⟨b, off, none⟩ : Addr).add n = ⟨b, off + n, none⟩ := by
  unfold Addr.add
  split
  · rename_i e; rw [e]; rfl
  · rfl
section
variable {H : Type} {enc : TypeId × Value → H} {P : Program} {w : World} {base : Nat} {sp : Nat → Bool} {held : Bool} {n : Nat}
theorem slice_rows {α : Type} (f : α → List Value) (Ok : α → Prop) (k : Nat) {t e : TypeId} {cs : List Value} {x : DataW H × List MemPlace} (ht : P.underlying t = some (.slice e)) (hk : P.cellsOf e = k + 1) (hf : ∀ x, (f x).length = k + 1)
    (hd : ∀ (m : Nat) (cs : List Value) (y : DataW H × List MemPlace), cs.length = k + 1 → DataW.trod enc P w base sp held m e cs = some y → ∃ x, f x = cs ∧ Ok x)
    (h : DataW.trod enc P w base sp held n t cs = some x) : ∃ a c, ∃ L : List α, cs = [.slice a L.length c] ∧ Rw w a (L.flatMap f) ∧ (∀ x ∈ L, Ok x) ∧ L.length ≤ maxLen ∧ L.length ≤ c := by
  rcases DataW.trod_slice ht h with ⟨rfl, -⟩ | ⟨a, len, cap, elems, rest, m, -, rfl, -, -, hlc, hcm, hlen, hel, -, -⟩
  · exact ⟨none, 0, [], rfl, fun j v hv => by simp at hv, by simp, Nat.zero_le _, Nat.le_refl _⟩
  · rw [hk] at hel
    have each : ∀ i, i < len → ∃ x : α, Ok x ∧ ∀ j v, (f x)[j]? = some v → w.cell? ((a.add (i * (k + 1))).add j) = some v := fun i hi => by
      have e1 := hel i hi
      rw [List.getElem?_eq_getElem (by omega), Option.bind_eq_some_iff] at e1
      obtain ⟨cs, c1, c2⟩ := e1
      obtain ⟨-, l1, l2⟩ := World.cells?_some c1
      obtain ⟨x, hx, ox⟩ := hd m cs _ l1 c2
      refine ⟨x, ox, fun j v hv => ?_⟩
      rw [hx] at hv
      have hj : j < k + 1 := by
        rcases Nat.lt_or_ge j (k + 1) with q | q
        · exact q
        · rw [List.getElem?_eq_none (by omega)] at hv; cases hv
      rw [l2 j hj]; exact hv
    obtain ⟨L, hL, hP⟩ := list_of (fun i (x : α) => Ok x ∧ ∀ j v, (f x)[j]? = some v → w.cell? ((a.add (i * (k + 1))).add j) = some v) len each
    refine ⟨some a, cap, L, by rw [hL], fun m v hv => ?_, fun x hx => ?_, by omega, by omega⟩
    · have hmi : m / (k + 1) < L.length := by
        have hlt : m < (L.flatMap f).length := by
          rcases Nat.lt_or_ge m (L.flatMap f).length with q | q
          · exact q
          · rw [List.getElem?_eq_none q] at hv; cases hv
        have hfl : (L.flatMap f).length = (k + 1) * L.length := by
          have : ∀ L : List α, (L.flatMap f).length = (k + 1) * L.length := fun L => by
            induction L with
            | nil => rfl
            | cons y r ih => rw [List.flatMap_cons, List.length_append, ih, hf, List.length_cons, Nat.mul_succ]; omega
          exact this L
        rw [hfl] at hlt
        exact Nat.div_lt_of_lt_mul hlt
      have hmj : m % (k + 1) < k + 1 := Nat.mod_lt _ (by omega)
      have hm : (k + 1) * (m / (k + 1)) + m % (k + 1) = m := Nat.div_add_mod m (k + 1)
      have hx := List.getElem?_eq_getElem hmi
      have hg := flat_get f (k + 1) L (fun x _ => hf x) (m / (k + 1)) (m % (k + 1)) _ hx hmj
      rw [hm, hv] at hg
      have hc := (hP _ _ hx).2 (m % (k + 1)) v hg.symm
      have h0 : a.spot = none := by
        have i0 : 0 < L.length := Nat.lt_of_le_of_lt (Nat.zero_le _) hmi
        have hx0 := List.getElem?_eq_getElem i0
        have c0 := (hP _ _ hx0).2 0 _ (List.getElem?_eq_getElem (by rw [hf]; omega))
        rw [Nat.zero_mul] at c0
        exact spot_none (a := a) c0
      obtain ⟨b, off, s⟩ := a
      simp only at h0
      subst h0
      refine ⟨b, off, rfl, ?_⟩
      rw [add_plain, add_plain] at hc
      rw [show off + m = off + m / (k + 1) * (k + 1) + m % (k + 1) by rw [Nat.mul_comm (m / (k + 1))]; omega]
      exact hc
    · obtain ⟨i, hi⟩ := List.getElem?_of_mem hx
      exact (hP i x hi).1
theorem bool_cell {t : TypeId} {c : Value} {y : DataW H × List MemPlace} (ht : P.underlying t = some .bool) (h : DataW.trod enc P w base sp held n t [c] = some y) : ∃ x, c = .bool x := by
  obtain ⟨x, e, -⟩ := DataW.trod_bool ht h
  simp at e
  exact ⟨x, e⟩
theorem trod_field {t : TypeId} {fs : Array Field} {cs : List Value} {x : DataW H × List MemPlace} (ht : P.underlying t = some (.struct fs)) (h : DataW.trod enc P w base sp held n t cs = some x)
    (i : Nat) (T : TypeId) (o : Nat) (hf : fs[i]?.map (fun f => (f.type, f.offset)) = some (T, o)) : ∃ m y, DataW.trod enc P w base sp held m T ((cs.drop o).take (P.cellsOf T)) = some y := by
  obtain ⟨xs, m, -, -, -, hl, k⟩ := DataW.trod_struct ht h
  rw [Option.map_eq_some_iff] at hf
  obtain ⟨f, hf, he⟩ := hf
  obtain ⟨rfl, rfl⟩ := Prod.mk.inj he
  have hi : i < fs.size := by
    rcases Nat.lt_or_ge i fs.size with q | q
    · exact q
    · rw [Array.getElem?_eq_none q] at hf; cases hf
  have := k i f hf
  rw [List.getElem?_eq_getElem (by omega)] at this
  exact ⟨m, _, this⟩
theorem int_cell {q : IntKind} {t : TypeId} {c : Value} {y : DataW H × List MemPlace} (ht : P.underlying t = some (.int q)) (h : DataW.trod enc P w base sp held n t [c] = some y) : ∃ x, c = .int q x ∧ (Lit.int q x).wf = true := by
  obtain ⟨x, e, -, wx⟩ := DataW.trod_int ht h
  simp at e
  exact ⟨x, e, wx⟩
end
end Go.Proofs.Ytgcbngephokegaa
