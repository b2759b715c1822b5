/- How a topology that is handed in reads. -/
import Derived.Test.YtoiopjdbmaffeaaFO
import Derived.Test.YtoiopjdbmaffeaaT9
namespace Go.Proofs.Ytoiopjdbmaffeaa
open Go.ChangeShapes Go.WideShapes Go.ChangeAt Go.RowKit Go.Joins Go.Deep Go.WideElems Go.Maps

theorem list_of {α : Type} (Pr : Nat → α → Prop) : ∀ n, (∀ i, i < n → ∃ x, Pr i x) → ∃ L : List α, L.length = n ∧ ∀ i x, L[i]? = some x → Pr i x
  | 0, _ => ⟨[], rfl, fun i x h => by simp at h⟩
  | n + 1, h => by
    obtain ⟨L, hl, hL⟩ := list_of Pr n (fun i hi => h i (by omega))
    obtain ⟨x, hx⟩ := h n (by omega)
    refine ⟨L ++ [x], by simp [hl], fun i y hy => ?_⟩
    rcases Nat.lt_or_ge i n with q | q
    · rw [List.getElem?_append_left (by omega)] at hy; exact hL i y hy
    · rw [List.getElem?_append_right (by omega), hl] at hy
      have e : i = n := by
        rcases Nat.eq_or_lt_of_le q with q | q
        · exact q.symm
        · rw [List.getElem?_eq_none (by simp; omega)] at hy; cases hy
      subst e
      simp at hy; subst hy; exact hx
theorem spot_none {w : World} {a : Addr} {v : Value} (h : w.cell? a = some v) : a.spot = none := by
  unfold World.cell? at h
  split at h
  · cases hs : a.spot with
    | none => rfl
    | some s => rw [hs] at h; simp at h
  · cases h
theorem add_plain {b off n : Nat} : (⟨b, off, none⟩ : Addr).add n = ⟨b, off + n, none⟩ := by
  unfold Addr.add
  split
  · rename_i e; rw [e]; rfl
  · rfl
section
variable {H : Type} {enc : TypeId × Value → H} {P : Program} {w : World} {base : Nat} {sp : Nat → Bool} {held : Bool} {n : Nat}
theorem slice_rows {α : Type} (f : α → List Value) (Ok : α → Prop) (k : Nat) {t e : TypeId} {cs : List Value} {x : DataW H × List MemPlace} (ht : P.underlying t = some (.slice e)) (hk : P.cellsOf e = k + 1) (hf : ∀ x, (f x).length = k + 1)
    (hd : ∀ (m : Nat) (cs : List Value) (y : DataW H × List MemPlace), cs.length = k + 1 → DataW.trod enc P w base sp held m e cs = some y → ∃ x, f x = cs ∧ Ok x)
    (h : DataW.trod enc P w base sp held n t cs = some x) : ∃ a c, ∃ L : List α, cs = [.slice a L.length c] ∧ Rw w a (L.flatMap f) ∧ (∀ x ∈ L, Ok x) ∧ (a = none → c = 0) := by
  rcases DataW.trod_slice ht h with ⟨rfl, -⟩ | ⟨a, len, cap, elems, rest, m, -, rfl, -, -, -, -, hlen, hel, -, -⟩
  · exact ⟨none, 0, [], rfl, fun j v hv => by simp at hv, by simp, fun _ => rfl⟩
  · rw [hk] at hel
    have each : ∀ i, i < len → ∃ x : α, Ok x ∧ ∀ j v, (f x)[j]? = some v → w.cell? ((a.add (i * (k + 1))).add j) = some v := fun i hi => by
      have e1 := hel i hi
      rw [List.getElem?_eq_getElem (by omega), Option.bind_eq_some_iff] at e1
      obtain ⟨cs, c1, c2⟩ := e1
      obtain ⟨-, l1, l2⟩ := World.cells?_some c1
      obtain ⟨x, hx, ox⟩ := hd m cs _ l1 c2
      refine ⟨x, ox, fun j v hv => ?_⟩
      rw [hx] at hv
      have hj : j < k + 1 := by
        rcases Nat.lt_or_ge j (k + 1) with q | q
        · exact q
        · rw [List.getElem?_eq_none (by omega)] at hv; cases hv
      rw [l2 j hj]; exact hv
    obtain ⟨L, hL, hP⟩ := list_of (fun i (x : α) => Ok x ∧ ∀ j v, (f x)[j]? = some v → w.cell? ((a.add (i * (k + 1))).add j) = some v) len each
    refine ⟨some a, cap, L, by rw [hL], fun m v hv => ?_, fun x hx => ?_, fun e => by cases e⟩
    · have hmi : m / (k + 1) < L.length := by
        have hlt : m < (L.flatMap f).length := by
          rcases Nat.lt_or_ge m (L.flatMap f).length with q | q
          · exact q
          · rw [List.getElem?_eq_none q] at hv; cases hv
        have hfl : (L.flatMap f).length = (k + 1) * L.length := by
          have : ∀ L : List α, (L.flatMap f).length = (k + 1) * L.length := fun L => by
            induction L with
            | nil => rfl
            | cons y r ih => rw [List.flatMap_cons, List.length_append, ih, hf, List.length_cons, Nat.mul_succ]; omega
          exact this L
        rw [hfl] at hlt
        exact Nat.div_lt_of_lt_mul hlt
      have hmj : m % (k + 1) < k + 1 := Nat.mod_lt _ (by omega)
      have hm : (k + 1) * (m / (k + 1)) + m % (k + 1) = m := Nat.div_add_mod m (k + 1)
      have hx := List.getElem?_eq_getElem hmi
      have hg := flat_get f (k + 1) L (fun x _ => hf x) (m / (k + 1)) (m % (k + 1)) _ hx hmj
      rw [hm, hv] at hg
      have hc := (hP _ _ hx).2 (m % (k + 1)) v hg.symm
      have h0 : a.spot = none := by
        have i0 : 0 < L.length := Nat.lt_of_le_of_lt (Nat.zero_le _) hmi
        have hx0 := List.getElem?_eq_getElem i0
        have c0 := (hP _ _ hx0).2 0 _ (List.getElem?_eq_getElem (by rw [hf]; omega))
        rw [Nat.zero_mul] at c0
        exact spot_none (a := a) c0
      obtain ⟨b, off, s⟩ := a
      simp only at h0
      subst h0
      refine ⟨b, off, rfl, ?_⟩
      rw [add_plain, add_plain] at hc
      rw [show off + m = off + m / (k + 1) * (k + 1) + m % (k + 1) by rw [Nat.mul_comm (m / (k + 1))]; omega]
      exact hc
    · obtain ⟨i, hi⟩ := List.getElem?_of_mem hx
      exact (hP i x hi).1
theorem bool_cell {t : TypeId} {c : Value} {y : DataW H × List MemPlace} (ht : P.underlying t = some .bool) (h : DataW.trod enc P w base sp held n t [c] = some y) : ∃ x, c = .bool x := by
  obtain ⟨x, e, -⟩ := DataW.trod_bool ht h
  simp at e
  exact ⟨x, e⟩
theorem cellsBool : Try.prog.cellsOf 4 = 1 := by kernel_rfl
theorem cellsLnk : Try.prog.cellsOf 52 = 4 := by kernel_rfl
theorem cellsAce : Try.prog.cellsOf 43 = 13 := by kernel_rfl
theorem cellsInts : Try.prog.cellsOf 22 = 1 := by kernel_rfl
theorem cellsLnks : Try.prog.cellsOf 23 = 1 := by kernel_rfl
theorem cellsAces : Try.prog.cellsOf 24 = 1 := by kernel_rfl
theorem cellsTop : Try.prog.cellsOf 26 = 3 := by kernel_rfl
set_option maxRecDepth 100000 in
theorem lnk_dec (m : Nat) (cs : List Value) (y : DataW H × List MemPlace) (hl : cs.length = 3 + 1) (h : DataW.trod enc Try.prog w base sp held m 52 cs = some y) : ∃ x : Lk, x.cells = cs ∧ x.Ok := by
  match cs, hl with
  | [c0, c1, c2, c3], _ =>
    obtain ⟨m0, y0, h0⟩ := trod_field Try.underlying52 h 0 3 0 rfl
    obtain ⟨m1, y1, h1⟩ := trod_field Try.underlying52 h 1 3 1 rfl
    obtain ⟨m2, y2, h2⟩ := trod_field Try.underlying52 h 2 3 2 rfl
    obtain ⟨m3, y3, h3⟩ := trod_field Try.underlying52 h 3 3 3 rfl
    simp only [cellsInt, List.drop_zero, List.drop_succ_cons, List.take_succ_cons, List.take_zero] at h0 h1 h2 h3
    obtain ⟨x0, rfl, w0⟩ := int_cell Try.underlying3 h0
    obtain ⟨x1, rfl, w1⟩ := int_cell Try.underlying3 h1
    obtain ⟨x2, rfl, w2⟩ := int_cell Try.underlying3 h2
    obtain ⟨x3, rfl, w3⟩ := int_cell Try.underlying3 h3
    exact ⟨⟨x0, x1, x2, x3⟩, rfl, ⟨w0, w1⟩, ⟨w2, w3⟩⟩
set_option maxRecDepth 100000 in
theorem ace_dec (m : Nat) (cs : List Value) (y : DataW H × List MemPlace) (hl : cs.length = 12 + 1) (h : DataW.trod enc Try.prog w base sp held m 43 cs = some y) : ∃ x : Ac, x.cells = cs ∧ x.Ok := by
  match cs, hl with
  | [c0, c1, c2, c3, c4, c5, c6, c7, c8, c9, c10, c11, c12], _ =>
    obtain ⟨m0, y0, h0⟩ := trod_field Try.underlying43 h 0 3 0 rfl
    obtain ⟨m1, y1, h1⟩ := trod_field Try.underlying43 h 1 3 1 rfl
    obtain ⟨m2, y2, h2⟩ := trod_field Try.underlying43 h 2 4 2 rfl
    obtain ⟨m3, y3, h3⟩ := trod_field Try.underlying43 h 3 4 3 rfl
    obtain ⟨m4, y4, h4⟩ := trod_field Try.underlying43 h 4 41 4 rfl
    simp only [cellsInt, cellsBool, cellsFlt, List.drop_zero, List.drop_succ_cons, List.take_succ_cons, List.take_zero] at h0 h1 h2 h3 h4
    obtain ⟨x0, rfl, -⟩ := int_cell Try.underlying3 h0
    obtain ⟨x1, rfl, -⟩ := int_cell Try.underlying3 h1
    obtain ⟨x2, rfl⟩ := bool_cell Try.underlying4 h2
    obtain ⟨x3, rfl⟩ := bool_cell Try.underlying4 h3
    obtain ⟨a, k, b, j, p, l, hh, u, v, B, rfl, rfl, rfl, rfl, rfl, rfl, rfl, rfl, rfl⟩ := flt_cells h4
    exact ⟨⟨x0, x1, x2, x3, a, k, b, j, p, l, hh, u, v⟩, rfl, ⟨B.a, B.b⟩⟩
def intC (x : Int) : List Value := [.int .i64 x]
theorem int_dec (m : Nat) (cs : List Value) (y : DataW H × List MemPlace) (hl : cs.length = 0 + 1) (h : DataW.trod enc Try.prog w base sp held m 3 cs = some y) : ∃ x : Int, intC x = cs ∧ True := by
  match cs, hl with
  | [c], _ =>
    obtain ⟨x, rfl, -⟩ := int_cell Try.underlying3 h
    exact ⟨x, rfl, trivial⟩
theorem ints_flat (l : List Int) : l.flatMap intC = ints l := by
  unfold ints intC
  induction l with
  | nil => rfl
  | cons x r ih => rw [List.flatMap_cons, ih]; rfl
set_option maxRecDepth 100000 in
theorem top_open {b0 : Nat} {v : Value} {d : DataW H} {p : List MemPlace} (hv : Value.okWide Try.prog w .any b0 26 v) (h : DataW.Trod enc Try.prog w 0 sp held 26 v d p) :
    ∃ ps ls es pa pc la lc aa ac, Tp w v ps ls es pa pc la lc aa ac ∧ (aa = none → ac = 0) := by
  obtain ⟨cs, rfl, hsz⟩ := okWide_struct Try.underlying26 hv
  obtain ⟨c0, c1, c2, rfl⟩ := array3 (hsz.trans cellsTop)
  obtain ⟨fuel, hf⟩ := h
  have hf' : DataW.trod enc Try.prog w 0 sp held fuel 26 [c0, c1, c2] = some (d, p) := by simpa [Value.cells] using hf
  obtain ⟨m0, y0, h0⟩ := trod_field Try.underlying26 hf' 0 22 0 rfl
  obtain ⟨m1, y1, h1⟩ := trod_field Try.underlying26 hf' 1 23 1 rfl
  obtain ⟨m2, y2, h2⟩ := trod_field Try.underlying26 hf' 2 24 2 rfl
  simp only [cellsInts, cellsLnks, cellsAces, List.drop_zero, List.drop_succ_cons, List.take_succ_cons, List.take_zero] at h0 h1 h2
  obtain ⟨pa, pc, ps, e0, r0, -⟩ := slice_rows intC (fun _ => True) 0 Try.underlying22 cellsInt (fun _ => rfl) int_dec h0
  obtain ⟨la, lc, ls, e1, r1, o1, -⟩ := slice_rows Lk.cells Lk.Ok 3 Try.underlying23 cellsLnk (fun _ => rfl) lnk_dec h1
  obtain ⟨aa, ac, es, e2, r2, o2, n2⟩ := slice_rows Ac.cells Ac.Ok 12 Try.underlying24 cellsAce (fun _ => rfl) ace_dec h2
  simp at e0 e1 e2
  subst e0 e1 e2
  exact ⟨ps, ls, es, pa, pc, la, lc, aa, ac, ⟨rfl, by rw [← ints_flat]; exact r0, r1, r2, o1, o2⟩, n2⟩
end
end Go.Proofs.Ytoiopjdbmaffeaa
