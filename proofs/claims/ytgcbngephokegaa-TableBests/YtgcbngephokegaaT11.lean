/- maps.Values of a map of rules: its iterator gives each rule once. -/
import Derived.Test.YtgcbngephokegaaT9
import Derived.Shelf.SlIterI.Nil
namespace Go.Proofs.Ytgcbngephokegaa
open Go.RowKit Go.Maps Go.MapKept Go.ChangeMaps Go.WideElems Go.Joins Go.Sort Go.Shelf Go.WideShapes
set_option linter.unusedVariables false
set_option linter.unusedSimpArgs false

/-- How an element reads: as itself. -/
def heldElem (v : Value) : Option (DataW Value × List MemPlace) := some (.held v, [])
section
variable {P : Program} {tk : TypeId} {w : World} {b : Nat} {ν : Type} {vv : ν → Value} {m : List (Int × ν)}
theorem held_rd {x : MapEntry} {y : Lit × DataW Unit} (h : WideElems.rd P tk anyElem x = some y) : WideElems.rd P tk heldElem x = some (y.1, .held x.val) := by
  have hk := WideElems.rd_key h
  unfold WideElems.rd
  simp [hk, heldElem]
theorem val_owns (K : Keyed P tk) (hk : P.underlying tk = some (.int .i64)) (h : MapV P tk zK vv w b m) :
    ∃ D0 : DataW Value, w.ownsMap P tk heldElem b m.length D0 ∧ Maps.size D0 ≤ m.length ∧ (intKeys D0).Nodup ∧ (∀ x, x ∈ intKeys D0 ↔ x ∈ m.map (·.1)) ∧ (∀ x, has D0 (.int .i64 x) = true → x ∈ m.map (·.1)) ∧
      ∀ x r, (x, r) ∈ m → ∀ zd, D0.atKey (.int .i64 x) zd = .held (vv r) := by
  obtain ⟨es, clock, h1, F, h2, h3⟩ := h
  have hs := MapV.size F h2
  have F' : Fit (H := Value) P tk heldElem es clock := ⟨F.size, F.stamped, fun x hx => by obtain ⟨y, hy⟩ := F.reads x hx; exact ⟨_, held_rd hy⟩⟩
  have hkey : ∀ e ∈ es.toList, ∃ v : Int, (rg P tk heldElem e).1 = .int .i64 v ∧ e.key = encZ v ∧ (rg P tk heldElem e).2 = .held e.val := fun e he => by
    obtain ⟨y, hy⟩ := F.reads e he
    obtain ⟨v, e1, e2, -⟩ := Maps.keyOf_i64 hk (WideElems.rd_key hy)
    have := rg_of (held_rd hy)
    exact ⟨v, by rw [this]; exact e2, e1, by rw [this]⟩
  have hap := apart_of_rising _ (fit_rising K F')
  have hpw : ((es.toList.map (rg P tk heldElem)).foldr DataW.insert []).Pairwise (fun p q => p.1 ≠ q.1) := (List.Perm.pairwise_iff (R := fun (p q : Lit × DataW Value) => p.1 ≠ q.1) (fun h e => h e.symm) (sorted_perm _)).2 hap
  have hin : ∀ x, x ∈ intKeys (.map ((es.toList.map (rg P tk heldElem)).foldr DataW.insert []) : DataW Value) ↔ x ∈ m.map (·.1) := fun x => by
    show x ∈ ((es.toList.map (rg P tk heldElem)).foldr DataW.insert []).map (fun p => Go.intOf p.1) ↔ _
    rw [List.mem_map, List.mem_map]
    constructor
    · rintro ⟨p, hp, rfl⟩
      rw [mem_sorted] at hp
      obtain ⟨e, he, rfl⟩ := List.mem_map.1 hp
      obtain ⟨v, k1, k2, -⟩ := hkey e he
      obtain ⟨q, hq, k3, -⟩ := h2 e he
      rw [k1]
      have : v = q.1 := encZ_inj (k2.symm.trans k3)
      exact ⟨q, hq, this.symm⟩
    · rintro ⟨q, hq, rfl⟩
      obtain ⟨e, he, k3, -⟩ := h3 q hq
      obtain ⟨v, k1, k2, -⟩ := hkey e he
      refine ⟨_, mem_sorted.2 (List.mem_map.2 ⟨e, he, rfl⟩), ?_⟩
      rw [k1]
      exact encZ_inj (k2.symm.trans k3)
  refine ⟨.map ((es.toList.map (rg P tk heldElem)).foldr DataW.insert []), ⟨es, clock, h1, F', hs, rfl⟩, ?_, ?_, hin, fun x hx => ?_, fun x r hr zd => ?_⟩
  · show ((es.toList.map (rg P tk heldElem)).foldr DataW.insert []).length ≤ _
    rw [length_sorted]; simpa using hs
  · show (((es.toList.map (rg P tk heldElem)).foldr DataW.insert []).map fun p => Go.intOf p.1).Nodup
    refine ((sorted_perm _).map _).nodup_iff.2 ?_
    refine List.pairwise_map.2 (hap.imp_of_mem (fun {p q} hp hq hne e => hne ?_))
    obtain ⟨e1, he1, rfl⟩ := List.mem_map.1 hp
    obtain ⟨e2, he2, rfl⟩ := List.mem_map.1 hq
    obtain ⟨v1, k1, -⟩ := hkey e1 he1
    obtain ⟨v2, k2, -⟩ := hkey e2 he2
    rw [k1, k2] at e ⊢
    exact congrArg _ e
  · have hk2 : ∀ p ∈ ((es.toList.map (rg P tk heldElem)).foldr DataW.insert []), ∃ x, p.1 = .int .i64 x := fun p hp => by
      rw [mem_sorted] at hp
      obtain ⟨e, he, rfl⟩ := List.mem_map.1 hp
      obtain ⟨v, k1, -⟩ := hkey e he
      exact ⟨v, k1⟩
    rw [has_eq, List.any_eq_true] at hx
    obtain ⟨p, hp, hsk⟩ := hx
    obtain ⟨a, ha⟩ := hk2 p hp
    rw [ha] at hsk
    refine (hin x).1 (List.mem_map.2 ⟨p, hp, ?_⟩)
    rw [ha]
    simpa [Lit.sameKey, Go.intOf] using hsk
  · obtain ⟨e, he, k3, k4⟩ := h3 (x, r) hr
    obtain ⟨v, k1, k2, k5⟩ := hkey e he
    have hv : v = x := encZ_inj (k2.symm.trans k3)
    refine WideAt.atKey_mem zd (by unfold WideAt.IsKeyLit; trivial) hpw (mem_sorted.2 (List.mem_map.2 ⟨e, he, ?_⟩))
    refine Prod.ext (by rw [k1, hv]) ?_
    rw [k5, k4]
end
end Go.Proofs.Ytgcbngephokegaa
