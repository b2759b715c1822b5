/- A node's map, nil or not: what is asked of it, put in, taken out; whether a node is empty. -/
import Derived.Test.YtgcbngephokegaaK5
namespace Go.Proofs.Ytgcbngephokegaa
open Go.RowKit Go.Maps Go.MapKept Go.ChangeMaps Go.WideElems Go.Joins
set_option linter.unusedVariables false
set_option linter.unusedSimpArgs false

abbrev Mo (w : World) (m : Option Nat) (l : List Int) : Prop := MapO Try.prog 3 w m l
abbrev Tl (w : World) (pre : List Value) (a : TL) (N : List Pth) (E : List Ent) (nb ne : Nat) : Prop := Lie Try.prog 3 w pre a N E nb ne
def I64 (v : Int) : Prop := -9223372036854775808 ≤ v ∧ v ≤ 9223372036854775807
theorem key_z (v : Int) (h : I64 v) : keyOf Try.prog 3 (zK v) = some (.int .i64 v) := Maps.keyOf_int_mk Try.underlying3 (by
  rw [Lit.wf, Bool.and_eq_true, decide_eq_true_eq, decide_eq_true_eq, show IntKind.i64.min = -9223372036854775808 from rfl, show IntKind.i64.max = 9223372036854775807 from rfl]; exact h)
theorem zK_inj (a b : Int) (h : zK a = zK b) : a = b := by unfold zK at h; simpa using h
set_option maxRecDepth 100000 in
theorem zeroUnit (w : World) : (zeroValue 88).run Try.prog w = .ok (.agg #[]) w := by kernel_rfl
theorem unitL_one {l : List Int} (h : l.Nodup) : ((unitL l).map (·.1)).Nodup := by
  have e : (unitL l).map (·.1) = l := by unfold unitL; rw [List.map_map]; exact List.map_id l
  rw [e]; exact h
theorem mo_len {w : World} {m : Option Nat} {l : List Int} (h : Mo w m l) (hn : l.Nodup) (ty : TypeId) : (Builtin.len_ #[29] ty #[.map m]).run Try.prog w = .ok (.int .i64 (l.length : Nat)) w := by
  cases m with
  | none =>
    have : l = [] := h
    subst this
    simp [Builtin.len_, run_underlying Try.underlying29, goInt, Result.andThen]
  | some b =>
    have := mapV_len Try.underlying29 zK_inj h (unitL_one hn) ty
    rwa [show (unitL l).length = l.length by unfold unitL; simp] at this
theorem mo_look {w : World} {m : Option Nat} {l : List Int} (h : Mo w m l) (hn : l.Nodup) (v : Int) (hv : I64 v) : (Instr.lookup 29 (.map m) (.int .i64 v) true).run Try.prog w = .ok (.tuple #[.agg #[], .bool (decide (v ∈ l))]) w := by
  cases m with
  | none =>
    have : l = [] := h
    subst this
    have hf : (Instr.findKey 3 (.int .i64 v) []).run Try.prog w = .ok none w := by
      rcases keyedInt.find w (key_z v hv) [] (fun _ h => by cases h) with ⟨k1, -⟩ | ⟨j, e0, -, k2, -⟩
      · exact k1
      · simp at k2
    simp [Instr.lookup, run_underlying Try.underlying29, show (Instr.checkKey true 10000 3 (.int .i64 v)).run Try.prog w = .ok () w from keyedInt.check w true (key_z v hv), hf, zeroUnit, Result.andThen]
  | some b =>
    by_cases c : v ∈ l
    · rw [decide_eq_true c]
      exact mapV_some keyedInt Try.underlying29 zeroUnit zK_inj true h (key_z v hv) (v := ()) (mem_unitL.2 c) (unitL_one hn)
    · rw [decide_eq_false c]
      refine mapV_none keyedInt Try.underlying29 zeroUnit zK_inj true h (key_z v hv) (fun q => c ?_)
      obtain ⟨p, hp, e⟩ := List.mem_map.1 q
      have := mem_unitL.1 hp
      rwa [e] at this
theorem mo_put {w : World} {b : Nat} {l : List Int} (h : Mo w (some b) l) (hl : l.length ≤ 1000000) (v : Int) (hv : I64 v) (hn : v ∉ l) :
    ∃ w', (Instr.mapUpdate 29 (.map (some b)) (.int .i64 v) (.agg #[])).run Try.prog w = .ok () w' ∧ Mo w' (some b) (v :: l) ∧ Only b w w' := by
  refine mapV_store (m' := unitL (v :: l)) (v := ()) keyedInt Try.underlying29 zK_inj h (key_z v hv) (by unfold unitL; rw [List.length_map]; exact Nat.lt_of_le_of_lt hl (by decide)) (fun p => ?_)
  rw [mem_unitL, mem_unitL, List.mem_cons]
  constructor
  · rintro (e | e)
    · exact Or.inl (Prod.ext e rfl)
    · exact Or.inr ⟨e, fun k => hn (by rw [← k]; exact e)⟩
  · rintro (e | e)
    · exact Or.inl (by rw [e])
    · exact Or.inr e.1
theorem mo_del {w : World} {m : Option Nat} {l l' : List Int} (h : Mo w m l) (v : Int) (hv : I64 v) (hin : v ∈ l) (hl : ∀ x, x ∈ l' ↔ x ∈ l ∧ x ≠ v) (ty : TypeId) :
    ∃ b w', m = some b ∧ (Builtin.delete_ #[29, 3] ty #[.map m, .int .i64 v]).run Try.prog w = .ok (.tuple #[]) w' ∧ Mo w' (some b) l' ∧ Only b w w' := by
  cases m with
  | none => have : l = [] := h; subst this; cases hin
  | some b =>
    obtain ⟨w', h1, h2, h3⟩ := mapV_del (m' := unitL l') (ty := ty) keyedInt Try.underlying29 zK_inj h (key_z v hv) (fun p => by rw [mem_unitL, mem_unitL]; exact hl p.1)
    exact ⟨b, w', rfl, h1, h2, h3⟩
set_option maxRecDepth 100000 in
theorem eq_ways (x y : Option Addr) (w : World) : (Op.equalIn 10000 28 (.agg #[.pointer x, .pointer y]) (.agg #[.pointer none, .pointer none])).run Try.prog w = .ok (x.isNone && y.isNone) w := by
  obtain ⟨i, hi⟩ : ∃ i, Try.prog.info? 27 = some i := by
    cases h : Try.prog.info? 27 with
    | none => exact absurd h (by decide +kernel)
    | some i => exact ⟨i, rfl⟩
  have hu : Try.prog.underlying 27 = some (.pointer (Try.prog.pointee 27)) := by kernel_rfl
  have p0 : ∀ (xs : Array Value) (j : Nat) (v : Option Addr) (h : xs[j]? = some (.pointer v)) (w : World), (part 27 xs j).run Try.prog w = .ok (.pointer v) w := fun xs j v h w => by
    simp [part, go_sem]
    rw [h]; rfl
  rw [run_equalIn_array w 9999 #[.pointer x, .pointer y] #[.pointer none, .pointer none] Try.underlying28 hi, show Try.prog.cellsOf 27 = 1 by kernel_rfl, show List.range 2 = [0, 1] from rfl]
  simp only [Op.eqItems, Sem.run_bind, p0 #[.pointer x, .pointer y] (0 * 1) x rfl, p0 #[.pointer none, .pointer none] (0 * 1) none rfl, Result.andThen_ok, run_equalIn_pointer_nil _ _ _ _ hu]
  cases h : x.isNone with
  | false => simp
  | true =>
    simp only [Bool.not_true, Bool.false_eq_true, if_false, Sem.run_bind, p0 #[.pointer x, .pointer y] (1 * 1) y rfl, p0 #[.pointer none, .pointer none] (1 * 1) none rfl, Result.andThen_ok, run_equalIn_pointer_nil _ _ _ _ hu]
    cases h2 : y.isNone <;> simp
set_option maxRecDepth 100000 in
set_option maxHeartbeats 1000000 in
theorem empty_core (b o : Nat) (x y : Option Addr) (m : Option Nat) (n : Nat) (W : World) (h0 : W.cell? ⟨b, o, none⟩ = some (.pointer x)) (h1 : W.cell? ⟨b, o + 1, none⟩ = some (.pointer y)) (h2 : W.cell? ⟨b, o + 2, none⟩ = some (.map m))
    (hl : ∀ ty, (Builtin.len_ #[29] ty #[.map m]).run Try.prog W = .ok (.int .i64 (n : Nat)) W) :
    Calls Try.prog 44 #[.pointer (some ⟨b, o, none⟩)] W fun e w' => e = .returned (.bool (decide (n = 0) && (x.isNone && y.isNone))) ∧ W = w' := by
  have hq := eq_ways x y
  by_cases c : (n : Int) = 0
  · have c1 : ((n : Int) == 0) = true := by simp [c]
    rw [show decide (n = 0) = true from decide_eq_true (by omega), Bool.true_and]
    generalize (x.isNone && y.isNone) = t at hq ⊢
    go_enter Try.func44, Try.ntmps44
    go_wp2
    go_ret
    exact ⟨rfl, rfl⟩
  · have c1 : ((n : Int) == 0) = false := by simp [c]; omega
    rw [show decide (n = 0) = false from decide_eq_false (by omega), Bool.false_and]
    go_enter Try.func44, Try.ntmps44
    go_wp2
    go_ret
    exact ⟨rfl, rfl⟩
/-- Add, behind its loop, of a value that is there. -/
theorem tl_cells {w : World} {pre : List Value} {a : TL} {N : List Pth} {E : List Ent} {nb ne : Nat} (h : Tl w pre a N E nb ne) {q : Pth} (hq : q ∈ N) :
    (w.cell? ⟨a.bk q, off pre q, none⟩ = some (wyV a N (q ++ [false])) ∧ w.cell? ⟨a.bk q, off pre q + 1, none⟩ = some (wyV a N (q ++ [true])) ∧ w.cell? ⟨a.bk q, off pre q + 2, none⟩ = some (.map (a.mp q))) ∧
    (w.frozen? ⟨a.bk q, off pre q, none⟩ = false ∧ w.frozen? ⟨a.bk q, off pre q + 1, none⟩ = false ∧ w.frozen? ⟨a.bk q, off pre q + 2, none⟩ = false) := by
  have hn := h.node hq
  exact ⟨⟨(hn 0 _ rfl).1, (hn 1 _ rfl).1, (hn 2 _ rfl).1⟩, (hn 0 _ rfl).2, (hn 1 _ rfl).2, (hn 2 _ rfl).2⟩
theorem tl_cnt {w : World} {pre : List Value} {a : TL} {N : List Pth} {E : List Ent} {nb ne : Nat} (h : Tl w pre a N E nb ne) :
    (w.cell? ⟨a.bk [], pre.length + 3, none⟩ = some (.int .i64 (nb : Nat)) ∧ w.cell? ⟨a.bk [], pre.length + 4, none⟩ = some (.int .i64 (ne : Nat))) ∧
    (w.frozen? ⟨a.bk [], pre.length + 3, none⟩ = false ∧ w.frozen? ⟨a.bk [], pre.length + 4, none⟩ = false) := by
  have hn := h.c.cnt
  exact ⟨⟨(hn 0 _ rfl).1, (hn 1 _ rfl).1⟩, (hn 0 _ rfl).2, (hn 1 _ rfl).2⟩
end Go.Proofs.Ytgcbngephokegaa
