/- The values of a node in order: slices.Sorted(maps.Keys(set)). -/
import Derived.Test.YtgcbngephokegaaK3
import Derived.Test.YtgcbngephokegaaIter
import Derived.Test.YtgcbngephokegaaProg
namespace Go.Proofs.Ytgcbngephokegaa
open Go.RowKit Go.Maps Go.MapKept Go.ChangeMaps Go.WideElems Go.Joins Go.Sort Go.Shelf Go.WideShapes
set_option linter.unusedVariables false

section
variable {P : Program} {tk : TypeId} {w : World} {b : Nat} {l : List Int}
theorem set_owns (K : Keyed P tk) (hk : P.underlying tk = some (.int .i64)) (h : MapV P tk zK uV w b (unitL l)) :
    ∃ D0 : DataW Unit, w.ownsMap P tk anyElem b l.length D0 ∧ Maps.size D0 ≤ l.length ∧ (intKeys D0).Nodup ∧ ∀ x, x ∈ intKeys D0 ↔ x ∈ l := by
  obtain ⟨es, clock, h1, F, h2, h3⟩ := h
  have hl : (unitL l).length = l.length := by unfold unitL; simp
  have hs := MapV.size F h2
  rw [hl] at hs
  have hkey : ∀ e ∈ es.toList, ∃ v : Int, (rg P tk anyElem e).1 = .int .i64 v ∧ e.key = encZ v := fun e he => by
    obtain ⟨y, hy⟩ := F.reads e he
    obtain ⟨v, e1, e2, -⟩ := Maps.keyOf_i64 hk (rd_key hy)
    exact ⟨v, by rw [rg_of hy]; exact e2, e1⟩
  refine ⟨.map ((es.toList.map (rg P tk anyElem)).foldr DataW.insert []), ⟨es, clock, h1, F, hs, rfl⟩, ?_, ?_, fun x => ?_⟩
  · show ((es.toList.map (rg P tk anyElem)).foldr DataW.insert []).length ≤ _
    rw [length_sorted]; simpa using hs
  · show (((es.toList.map (rg P tk anyElem)).foldr DataW.insert []).map fun p => Go.intOf p.1).Nodup
    refine ((sorted_perm _).map _).nodup_iff.2 ?_
    have hap := apart_of_rising _ (fit_rising K F)
    refine List.pairwise_map.2 (hap.imp_of_mem (fun {p q} hp hq hne e => hne ?_))
    obtain ⟨e1, he1, rfl⟩ := List.mem_map.1 hp
    obtain ⟨e2, he2, rfl⟩ := List.mem_map.1 hq
    obtain ⟨v1, k1, -⟩ := hkey e1 he1
    obtain ⟨v2, k2, -⟩ := hkey e2 he2
    rw [k1, k2] at e ⊢
    exact congrArg _ e
  · show x ∈ ((es.toList.map (rg P tk anyElem)).foldr DataW.insert []).map (fun p => Go.intOf p.1) ↔ _
    rw [List.mem_map]
    constructor
    · rintro ⟨p, hp, rfl⟩
      rw [mem_sorted] at hp
      obtain ⟨e, he, rfl⟩ := List.mem_map.1 hp
      obtain ⟨v, k1, k2⟩ := hkey e he
      obtain ⟨q, hq, k3, -⟩ := h2 e he
      rw [k1]
      show v ∈ l
      have : v = q.1 := encZ_inj (k2.symm.trans k3)
      rw [this]; exact mem_unitL.1 hq
    · intro hx
      obtain ⟨e, he, k3, -⟩ := h3 (x, ()) (mem_unitL.2 hx)
      obtain ⟨v, k1, k2⟩ := hkey e he
      refine ⟨_, mem_sorted.2 (List.mem_map.2 ⟨e, he, rfl⟩), ?_⟩
      rw [k1]
      exact encZ_inj (k2.symm.trans k3)
end
theorem sort_lt {l : List Int} (h : l.Nodup) : (l.mergeSort leI).Pairwise (· < ·) := by
  have tr : ∀ a b c : Int, leI a b = true → leI b c = true → leI a c = true := fun a b c h1 h2 => by simp only [leI, decide_eq_true_eq] at *; exact Int.le_trans h1 h2
  have tot : ∀ a b : Int, (leI a b || leI b a) = true := fun a b => by simp only [leI, Bool.or_eq_true, decide_eq_true_eq]; exact Int.le_total a b
  have h1 := List.pairwise_mergeSort tr tot l
  have h2 : (l.mergeSort leI).Nodup := ((List.mergeSort_perm l leI).nodup_iff).2 h
  have := List.Pairwise.and h1 h2
  refine this.imp (fun {a b} h => ?_)
  have := h.1
  simp only [leI, decide_eq_true_eq] at this
  have := h.2
  omega
theorem keyedInt : Keyed Try.prog 3 := Maps.int_keyed Try.underlying3
abbrev keysF (w : World) : Value := .func (.func 69) #[] #[.pointer (some ⟨w.heap.size, 0, none⟩)]
theorem keys_any (mb : Option Nat) (w : World) : Calls Try.prog 51 #[.map mb] w fun e w' => e = .returned (keysF w) ∧ w.alloc (.cells #[.map mb] 29) = w' := by
  have h : CallsIn Fence.wide 5 Try.prog 51 #[.map mb] w fun e w' => e = .returned (keysF w) ∧ w' = w.alloc (.cells #[.map mb] 29) := AnyZI.keys_in Try.keysA Fence.wide 5 trivial rfl mb w
  exact ((callsIn_wide (n := 5)).1 h).mono (fun e w' q => ⟨q.1, q.2.symm⟩)
theorem sorts_in (m : Nat) : AnyZI.SortsIn Try.prog Try.sortedA_ren Fence.wide m :=
  ⟨fun blk off cap ss W hH hblk hsz => callsIn_wide.2 (AnyM.slices_Sort_int Try.sortA blk off cap ss W hH hblk hsz),
   fun p cap W => callsIn_wide.2 (AnyM.slices_Sort_int_none Try.sortA p cap W)⟩
/-- What slices.Sorted hands back. -/
def Vs (w' : World) (base : Nat) (v : Value) (vs : List Int) : Prop := vs.Pairwise (· < ·) ∧ w'.ownsRow base 3 1 v vs.length (vs.map encZ) ∧ (v = .slice none 0 0 ↔ vs = [])
set_option maxHeartbeats 1000000 in
theorem sorted_some (w : World) (b : Nat) (l : List Int) (h : MapV Try.prog 3 zK uV w b (unitL l)) (hl : l.length ≤ 1000000) :
    Calls Try.prog 50 #[keysF w] (w.alloc (.cells #[.map (some b)] 29)) fun e w' => ∃ (v : Value) (vs : List Int), e = .returned v ∧ (∀ x, x ∈ vs ↔ x ∈ l) ∧ Vs w' (w.heap.size + 1) v vs ∧ Below (w.heap.size + 1) (w.alloc (.cells #[.map (some b)] 29)) w' := by
  obtain ⟨D0, hown, hsz, hnd, hmem⟩ := set_owns keyedInt Try.underlying3 h
  have hbl := hown.lt
  have hmx : 1000000 ≤ maxLen := by decide
  have hseq : SeqGives Fence.wide 2 Try.prog 69 #[.pointer (some ⟨w.heap.size, 0, none⟩)] encZ (fun ss => ss.Perm (intKeys D0)) (Maps.size D0) (w.alloc (.cells #[.map (some b)] 29)) :=
    AnyZI.keys_gives (ρ := Try.keysA_ren) { Try.keysA with } Fence.wide _ trivial rfl (by omega) w.heap.size b l.length D0 _ (by simp) (by simp) (by
      obtain ⟨es, clock, hb, Ft, hs, hD⟩ := hown
      exact ⟨es, clock, (Below.heap_alloc _ _ b hbl).trans hb, Ft, hs, hD⟩)
  have cS := AnyZI.sorted_in Try.sortedA Fence.wide 5 trivial trivial trivial trivial rfl (by omega) (sorts_in _) (enters_of Try.func68 (by kernel_rfl) rfl) 69 #[.pointer (some ⟨w.heap.size, 0, none⟩)] trivial (enters_of Try.func69 (by kernel_rfl) rfl) _ _ (by omega) (by omega) _ hseq
  change CallsIn _ _ Try.prog 50 _ _ _ at cS
  refine ((callsIn_wide (n := 5)).1 cS).mono ?_
  rintro e w' ⟨v, ss, rfl, hp, hrow, hnil, hb⟩
  have hn : ss.Nodup := hp.nodup_iff.2 hnd
  refine ⟨v, ss.mergeSort leI, rfl, fun x => ?_, ⟨sort_lt hn, ?_, ?_⟩, ?_⟩
  · rw [(List.mergeSort_perm ss leI).mem_iff, hp.mem_iff]; exact hmem x
  · rw [List.length_mergeSort]
    simp only [World.size_alloc] at hrow
    exact hrow
  · rw [hnil]
    constructor
    · rintro rfl; simp
    · intro e
      have := congrArg List.length e
      rw [List.length_mergeSort] at this
      exact List.eq_nil_of_length_eq_zero this
  · simpa using hb
set_option maxHeartbeats 1000000 in
theorem sorted_none (w : World) :
    Calls Try.prog 50 #[keysF w] (w.alloc (.cells #[.map none] 29)) fun e w' => ∃ (v : Value) (vs : List Int), e = .returned v ∧ vs = [] ∧ Vs w' (w.heap.size + 1) v vs ∧ Below (w.heap.size + 1) (w.alloc (.cells #[.map none] 29)) w' := by
  have hseq : SeqGives Fence.wide 2 Try.prog 69 #[.pointer (some ⟨w.heap.size, 0, none⟩)] encZ (fun ss : List Int => ss = []) 0 (w.alloc (.cells #[.map none] 29)) :=
    AnyZI.keys_gives_nil (ρ := Try.keysA_ren) { Try.keysA with } Fence.wide _ trivial rfl w.heap.size _ (by simp) (by simp)
  have cS := AnyZI.sorted_in Try.sortedA Fence.wide 5 trivial trivial trivial trivial rfl (by omega) (sorts_in _) (enters_of Try.func68 (by kernel_rfl) rfl) 69 #[.pointer (some ⟨w.heap.size, 0, none⟩)] trivial (enters_of Try.func69 (by kernel_rfl) rfl) _ 0 (Nat.zero_le _) (by omega) _ hseq
  change CallsIn _ _ Try.prog 50 _ _ _ at cS
  refine ((callsIn_wide (n := 5)).1 cS).mono ?_
  rintro e w' ⟨v, ss, rfl, rfl, hrow, hnil, hb⟩
  exact ⟨v, [], rfl, rfl, ⟨List.Pairwise.nil, by simp only [World.size_alloc, List.mergeSort_nil, List.map_nil] at hrow; exact hrow, hnil⟩, by simpa using hb⟩
end Go.Proofs.Ytgcbngephokegaa
