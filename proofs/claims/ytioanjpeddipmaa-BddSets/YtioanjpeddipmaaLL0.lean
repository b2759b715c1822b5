/- Maps of which no more is wanted than that some keys are there; expressions that are handed in. -/
import Derived.Test.YtioanjpeddipmaaLM0
namespace Go.Proofs.Ytioanjpeddipmaa
open Go.ChangeShapes Go.WideShapes Go.ChangeAt Go.RowKit Go.Joins Go.Deep Go.WideElems Go.Maps Go.MapKept Go.ChangeMaps
set_option linter.unusedVariables false

section
variable {κ : Type} {P : Program} {tk te t : TypeId} {kv : κ → Value}
/-- Block b is a map that has these keys, and no more than n in all. -/
def MapB (P : Program) (tk te : TypeId) (kv : κ → Value) (w : World) (b n : Nat) (ks : List κ) : Prop :=
  ∃ es clock, w.heap[b]? = some (.map es clock) ∧ Fit (H := Unit) P tk (plainElem P te) es clock ∧ es.size ≤ n ∧ ∀ k ∈ ks, ∃ x ∈ es.toList, x.key = kv k
theorem MapB.made (w : World) : MapB P tk te kv (w.alloc (.map #[] 0)) w.heap.size 0 [] := by
  obtain ⟨es, clock, h1, h2, h3, h4⟩ := World.ownsMap_made (H := Unit) w P tk (plainElem P te)
  have h5 : es = #[] := by
    have k := (MapKept.heap_alloc w (.map #[] 0)).1
    rw [k] at h1; cases h1; rfl
  subst h5
  exact ⟨#[], clock, h1, h2, by simp, by simp⟩
theorem MapB.same {w w' : World} {b n : Nat} {ks : List κ} (h : MapB P tk te kv w b n ks) (hb : w'.heap[b]? = w.heap[b]?) : MapB P tk te kv w' b n ks := by
  obtain ⟨es, clock, h1, h2⟩ := h
  exact ⟨es, clock, hb.trans h1, h2⟩
theorem MapB.lt {w : World} {b n : Nat} {ks : List κ} (h : MapB P tk te kv w b n ks) : b < w.heap.size := by
  obtain ⟨es, clock, h1, -⟩ := h
  rcases Nat.lt_or_ge b w.heap.size with q | q
  · exact q
  · rw [Array.getElem?_eq_none q] at h1; cases h1
theorem mapB_store (K : Keyed P tk) (ht : P.underlying t = some (.map tk te)) (hv : ∀ x : Bool, plainElem (H := Unit) P te (.bool x) = some (.lit (.bool x), [])) {w : World} {b n : Nat} {ks : List κ} (h : MapB P tk te kv w b n ks) {k : κ} {l : Lit} (hk : keyOf P tk (kv k) = some l) (v : Bool) (hn : n < maxLen) :
    ∃ w', (Instr.mapUpdate t (.map (some b)) (kv k) (.bool v)).run P w = .ok () w' ∧ MapB P tk te kv w' b (n + 1) (k :: ks) ∧ Only b w w' := by
  obtain ⟨es, clock, hb, F, hs, hks⟩ := h
  obtain ⟨es', clock', hrun, F', -⟩ := fit_store (R' := plainElem P te) K ht hb F (by omega) (fun _ _ _ _ hz => hz) hk (hv v)
  have inj : ∀ es2 c2, (Instr.mapUpdate t (.map (some b)) (kv k) (.bool v)).run P w = .ok () (setBlock w b (.map es2 c2)) → es' = es2 := fun es2 c2 h2 => by
    rw [hrun] at h2
    have q := (Result.ok.inj h2).2
    have k1 := heap_setBlock_same hb (.map es' clock')
    rw [q, heap_setBlock_same hb] at k1
    cases k1; rfl
  refine ⟨_, hrun, ⟨es', clock', heap_setBlock_same hb _, F', ?_⟩, Only.set hb⟩
  rcases K.find w hk es.toList F.keys with ⟨h1, h2⟩ | ⟨j, e0, h1, h2, h3⟩
  · have e := inj (es.push ⟨kv k, .bool v, clock⟩) (clock + 1) (by simp [Instr.mapUpdate, run_underlying ht, MapKept.run_getObj_map hb, K.check w false hk, h1, MapKept.run_setObj_map _ hb, Result.andThen, setBlock])
    subst e
    refine ⟨by simp; omega, fun q hq => ?_⟩
    rcases List.mem_cons.1 hq with rfl | hq
    · exact ⟨⟨kv q, .bool v, clock⟩, by simp, rfl⟩
    · obtain ⟨x, x1, x2⟩ := hks q hq
      exact ⟨x, by simp [x1], x2⟩
  · have hj : es[j]? = some e0 := by simpa using h2
    have e := inj (es.modify j (fun e' => { e' with key := kv k, val := .bool v })) clock (by simp [Instr.mapUpdate, run_underlying ht, MapKept.run_getObj_map hb, K.check w false hk, h1, hj, h3, K.stays w hk, MapKept.run_setObj_map _ hb, Result.andThen, setBlock])
    subst e
    have hmem : ∀ x ∈ es.toList, ∃ y ∈ (es.modify j (fun e' => { e' with key := kv k, val := .bool v })).toList, y.key = x.key := fun x hx => by
      obtain ⟨i, hi, ex⟩ := List.getElem_of_mem hx
      rw [Array.toList_modify]
      rcases Nat.decEq j i with c | c
      · exact ⟨x, List.mem_of_getElem? (i := i) (by rw [List.getElem?_modify, List.getElem?_eq_getElem hi, ex]; simp [c]), rfl⟩
      · subst c
        refine ⟨{ x with key := kv k, val := .bool v }, List.mem_of_getElem? (i := j) (by rw [List.getElem?_modify, List.getElem?_eq_getElem hi, ex]; simp), ?_⟩
        have : x = e0 := by rw [List.getElem?_eq_getElem hi] at h2; cases h2; exact ex.symm
        rw [this]; exact h3.symm
    refine ⟨by simpa using (Nat.le_succ_of_le hs), fun q hq => ?_⟩
    rcases List.mem_cons.1 hq with rfl | hq
    · obtain ⟨y, y1, y2⟩ := hmem e0 (List.mem_of_getElem? h2)
      exact ⟨y, y1, y2.trans h3⟩
    · obtain ⟨x, x1, x2⟩ := hks q hq
      obtain ⟨y, y1, y2⟩ := hmem x x1
      exact ⟨y, y1, y2.trans x2⟩
theorem mapB_len (ht : P.underlying t = some (.map tk te)) {w : World} {b n : Nat} {ks : List κ} (h : MapB P tk te kv w b n ks) : ∃ (m : Nat) (vs : List Value), vs.length = m ∧ m ≤ n ∧ (∀ k ∈ ks, kv k ∈ vs) ∧ ∀ ty, (Builtin.len_ #[t] ty #[.map (some b)]).run P w = .ok (.int .i64 (m : Nat)) w := by
  obtain ⟨es, clock, hb, F, hs, hks⟩ := h
  refine ⟨es.size, es.toList.map (·.key), by simp, hs, fun k hk => ?_, fun ty => by simp [Builtin.len_, run_underlying ht, MapKept.run_getObj_map hb, goInt, Result.andThen]⟩
  obtain ⟨x, x1, x2⟩ := hks k hk
  exact List.mem_map.2 ⟨x, x1, x2⟩
end
theorem cellsInt' : Try.prog.cellsOf 3 = 1 := by kernel_rfl
theorem cellsBool' : Try.prog.cellsOf 4 = 1 := by kernel_rfl
theorem cellsEx : Try.prog.cellsOf 61 = 6 := by kernel_rfl
section
variable {H : Type} {enc : TypeId × Value → H} {w : World} {base : Nat} {sp : Nat → Bool} {held : Bool}
set_option maxRecDepth 100000 in
theorem ex_dec (m : Nat) (cs : List Value) (y : DataW H × List MemPlace) (hl : cs.length = 5 + 1) (h : DataW.trod enc Try.prog w base sp held m 61 cs = some y) : ∃ x : Ex, x.cells = cs ∧ (-9223372036854775808 ≤ x.v ∧ x.v ≤ 9223372036854775807) := by
  match cs, hl with
  | [c0, c1, c2, c3, c4, c5], _ =>
    obtain ⟨m0, y0, h0⟩ := trod_field Try.underlying61 h 0 3 0 rfl
    obtain ⟨m1, y1, h1⟩ := trod_field Try.underlying61 h 1 3 1 rfl
    obtain ⟨m2, y2, h2⟩ := trod_field Try.underlying61 h 2 3 2 rfl
    obtain ⟨m3, y3, h3⟩ := trod_field Try.underlying61 h 3 3 3 rfl
    obtain ⟨m4, y4, h4⟩ := trod_field Try.underlying61 h 4 3 4 rfl
    obtain ⟨m5, y5, h5⟩ := trod_field Try.underlying61 h 5 4 5 rfl
    simp only [cellsInt', cellsBool', List.drop_zero, List.drop_succ_cons, List.take_succ_cons, List.take_zero] at h0 h1 h2 h3 h4 h5
    obtain ⟨x0, rfl, -⟩ := int_cell Try.underlying3 h0
    obtain ⟨x1, rfl, -⟩ := int_cell Try.underlying3 h1
    obtain ⟨x2, rfl, -⟩ := int_cell Try.underlying3 h2
    obtain ⟨x3, rfl, -⟩ := int_cell Try.underlying3 h3
    obtain ⟨x4, rfl, w4⟩ := int_cell Try.underlying3 h4
    obtain ⟨x5, rfl⟩ := bool_cell Try.underlying4 h5
    obtain ⟨b1, b2⟩ := bounds_i64 w4
    exact ⟨⟨x0, x1, x2, x3, x4, x5⟩, rfl, b1, by omega⟩
/-- Expressions that are handed in. -/
structure Exs (w : World) (v : Value) (L : List Ex) (la : Option Addr) (lc : Nat) : Prop where
  v : v = .slice la L.length lc
  r : Rw w la (L.flatMap Ex.cells)
  ok : ∀ x ∈ L, -9223372036854775808 ≤ x.v ∧ x.v ≤ 9223372036854775807
  len : L.length ≤ maxLen
  cap : L.length ≤ lc
theorem exs_open {v : Value} {d : DataW H} {p : List MemPlace} (h : DataW.Trod enc Try.prog w 0 sp held 22 v d p) (hv : ∃ c, v.cells.toList = [c] ∧ v = c) : ∃ L la lc, Exs w v L la lc := by
  obtain ⟨fuel, hf⟩ := h
  obtain ⟨c, hc, rfl⟩ := hv
  rw [hc] at hf
  obtain ⟨la, lc, L, e0, r0, o0, l0, c0⟩ := slice_rows Ex.cells (fun x => -9223372036854775808 ≤ x.v ∧ x.v ≤ 9223372036854775807) 5 Try.underlying22 cellsEx (fun _ => rfl) ex_dec hf
  simp at e0
  exact ⟨L, la, lc, e0, r0, o0, l0, c0⟩
end
end Go.Proofs.Ytioanjpeddipmaa
