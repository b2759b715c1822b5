/- Maps to true by the list of their keys; nodes as keys. -/
import Derived.Test.YtioanjpeddipmaaAY
namespace Go.Proofs.Ytioanjpeddipmaa
open Go.RowKit Go.Maps Go.MapKept Go.ChangeMaps Go.WideElems Go.Joins
open Go.WideMaps (KeyLaw)
set_option linter.unusedVariables false

section
variable {κ : Type} {P : Program} {tk te t : TypeId} {kv : κ → Value}
/-- Block b is a map of just these keys, each to true. -/
def MapT (P : Program) (tk te : TypeId) (kv : κ → Value) (w : World) (b : Nat) (ks : List κ) : Prop :=
  ∃ es clock, w.heap[b]? = some (.map es clock) ∧ Fit (H := Unit) P tk (plainElem P te) es clock ∧ (∀ x ∈ es.toList, ∃ k ∈ ks, x.key = kv k ∧ x.val = .bool true) ∧ (∀ k ∈ ks, ∃ x ∈ es.toList, x.key = kv k ∧ x.val = .bool true)
theorem MapT.same {w w' : World} {b : Nat} {ks : List κ} (h : MapT P tk te kv w b ks) (hb : w'.heap[b]? = w.heap[b]?) : MapT P tk te kv w' b ks := by
  obtain ⟨es, clock, h1, h2⟩ := h
  exact ⟨es, clock, hb.trans h1, h2⟩
theorem MapT.lt {w : World} {b : Nat} {ks : List κ} (h : MapT P tk te kv w b ks) : b < w.heap.size := by
  obtain ⟨es, clock, h1, -⟩ := h
  rcases Nat.lt_or_ge b w.heap.size with q | q
  · exact q
  · rw [Array.getElem?_eq_none q] at h1; cases h1
theorem MapT.made (w : World) : MapT P tk te kv (w.alloc (.map #[] 0)) w.heap.size [] := by
  obtain ⟨es, clock, h1, h2, h3, h4⟩ := World.ownsMap_made (H := Unit) w P tk (plainElem P te)
  have h5 : es = #[] := by
    have k := (MapKept.heap_alloc w (.map #[] 0)).1
    rw [k] at h1; cases h1; rfl
  subst h5
  exact ⟨#[], clock, h1, h2, by simp, by simp⟩
theorem mapT_none (K : Keyed P tk) (ht : P.underlying t = some (.map tk te)) (hz : ∀ w, (zeroValue te).run P w = .ok (.bool false) w) (hi : ∀ a b, kv a = kv b → a = b) {w : World} {b : Nat} {ks : List κ} (h : MapT P tk te kv w b ks) {k : κ} {l : Lit} (hk : keyOf P tk (kv k) = some l) (hn : k ∉ ks) :
    (Instr.lookup t (.map (some b)) (kv k) false).run P w = .ok (.bool false) w := by
  obtain ⟨es, clock, hb, F, h1, h2⟩ := h
  rcases fit_look false K ht (hz w) hb F hk with ⟨hr, -⟩ | ⟨e0, y, hm, hk', -⟩
  · exact hr
  · obtain ⟨p, hp, e, -⟩ := h1 e0 hm
    exact absurd (by rw [hi _ _ (e.symm.trans hk')] at hp; exact hp) hn
theorem mapT_some (K : Keyed P tk) (ht : P.underlying t = some (.map tk te)) (hz : ∀ w, (zeroValue te).run P w = .ok (.bool false) w) {w : World} {b : Nat} {ks : List κ} (h : MapT P tk te kv w b ks) {k : κ} {l : Lit} (hk : keyOf P tk (kv k) = some l) (hm : k ∈ ks) :
    (Instr.lookup t (.map (some b)) (kv k) false).run P w = .ok (.bool true) w := by
  obtain ⟨es, clock, hb, F, h1, h2⟩ := h
  rcases fit_look false K ht (hz w) hb F hk with ⟨-, hn, -⟩ | ⟨e0, y, hme, hk', hr, -⟩
  · obtain ⟨x, hx, e, -⟩ := h2 _ hm
    exact absurd e (hn x hx)
  · obtain ⟨p, hp, e, ev⟩ := h1 e0 hme
    rw [ev] at hr
    exact hr
theorem mapT_store (K : Keyed P tk) (ht : P.underlying t = some (.map tk te)) (hi : ∀ a b, kv a = kv b → a = b) (hv : plainElem (H := Unit) P te (.bool true) = some (.lit (.bool true), [])) {w : World} {b : Nat} {ks : List κ} (h : MapT P tk te kv w b ks) {k : κ} {l : Lit} (hk : keyOf P tk (kv k) = some l) (hn : k ∉ ks) (hlen : ks.length < maxLen) :
    ∃ w', (Instr.mapUpdate t (.map (some b)) (kv k) (.bool true)).run P w = .ok () w' ∧ MapT P tk te kv w' b (k :: ks) ∧ Only b w w' := by
  obtain ⟨es, clock, hb, F, h1, h2⟩ := h
  have hno : ∀ x ∈ es.toList, x.key ≠ kv k := fun x hx hk' => by
    obtain ⟨p, hp, e, -⟩ := h1 x hx
    exact hn (by rw [hi _ _ (e.symm.trans hk')] at hp; exact hp)
  have hfind : (Instr.findKey tk (kv k) es.toList).run P w = .ok none w := by
    rcases K.find w hk es.toList F.keys with ⟨k1, -⟩ | ⟨j, e0, -, k2, k3⟩
    · exact k1
    · exact absurd k3 (hno e0 (List.mem_of_getElem? k2))
  have hsz : es.size ≤ ks.length := by
    have := nodup_sub (es.toList.map (·.key)) (ks.map kv) F.stamped.2.2 (fun v hv => by
      obtain ⟨x, hx, rfl⟩ := List.mem_map.1 hv
      obtain ⟨p, hp, e, -⟩ := h1 x hx
      exact List.mem_map.2 ⟨p, hp, e.symm⟩)
    simpa using this
  obtain ⟨es', clock', hrun, F', -⟩ := fit_store (R' := plainElem P te) K ht hb F (by omega) (fun _ _ _ _ hz => hz) hk hv
  have hrun2 : (Instr.mapUpdate t (.map (some b)) (kv k) (.bool true)).run P w = .ok () (setBlock w b (.map (es.push ⟨kv k, .bool true, clock⟩) (clock + 1))) := by
    simp [Instr.mapUpdate, run_underlying ht, MapKept.run_getObj_map hb, K.check w false hk, hfind, MapKept.run_setObj_map _ hb, Result.andThen, setBlock]
  have heq : es' = es.push ⟨kv k, .bool true, clock⟩ := by
    rw [hrun] at hrun2
    have q := (Result.ok.inj hrun2).2
    have k1 := heap_setBlock_same hb (.map es' clock')
    rw [q, heap_setBlock_same hb] at k1
    cases k1; rfl
  subst heq
  refine ⟨_, hrun, ⟨_, _, heap_setBlock_same hb _, F', fun x hx => ?_, fun p hp => ?_⟩, Only.set hb⟩
  · rw [Array.toList_push, List.mem_append, List.mem_singleton] at hx
    rcases hx with hx | rfl
    · obtain ⟨p, hp, e⟩ := h1 x hx
      exact ⟨p, List.mem_cons_of_mem _ hp, e⟩
    · exact ⟨k, List.mem_cons_self .., rfl, rfl⟩
  · rcases List.mem_cons.1 hp with rfl | hp
    · exact ⟨⟨kv p, .bool true, clock⟩, by simp, rfl, rfl⟩
    · obtain ⟨x, k1, k2⟩ := h2 p hp
      exact ⟨x, by simp [k1], k2⟩
theorem MapT.perm {w : World} {b : Nat} {ks ks' : List κ} (h : MapT P tk te kv w b ks) (hm : ∀ k, k ∈ ks ↔ k ∈ ks') : MapT P tk te kv w b ks' := by
  obtain ⟨es, clock, h1, h2, h3, h4⟩ := h
  exact ⟨es, clock, h1, h2, fun x hx => by obtain ⟨p, hp, e⟩ := h3 x hx; exact ⟨p, (hm p).1 hp, e⟩, fun p hp => h4 p ((hm p).2 hp)⟩
end
theorem wideTri : (match Try.prog.underlying 48 with | some (.array _ _) | some (.struct _) => true | _ => false) = true := by rw [Try.underlying48]
theorem lawTri : KeyLaw Try.prog 48 := deep_law_laid laidOutA (m := 2) (by omega) (of_decide_eq_true (by kernel_rfl)) (by kernel_rfl) wideTri
theorem keyedTri : Keyed Try.prog 48 := Keyed.of_law lawTri
theorem zeroBool (w : World) : (zeroValue 4).run Try.prog w = .ok (.bool false) w := by kernel_rfl
set_option maxRecDepth 100000 in
theorem key_tri (n : Nd) (h : n.Ok) : ∃ l, keyOf Try.prog 48 (nv n) = some l := by
  have ht : DataW.Trod (fun _ => ()) Try.prog default 0 (fun _ => true) true 48 (nv n) (.agg [.lit (.int .i64 (n.v : Nat)), .lit (.int .i64 (n.l : Nat)), .lit (.int .i64 (n.h : Nat))]) [] :=
    ⟨2, by simp [nv, Value.cells, DataW.trod, Try.underlying48, Try.underlying3, show Try.prog.cellsOf 48 = 3 by kernel_rfl, show Try.prog.cellsOf 3 = 1 by kernel_rfl, List.range_succ, wf64 _ h.1, wf64 _ h.2.1, wf64 _ h.2.2]⟩
  exact ⟨_, (keyOf_asKey (by kernel_rfl) wideTri (by simp [nv, Value.formed, Try.underlying48]; kernel_rfl) ht).1⟩
theorem Sta.only {Z : Nat → Prop} {p : Nat} {w w' : World} {most : Nat} {ns : List Nd} {b : Nat} (h : Sta Z p w most ns) (hO : Only b w w') (hb : Z b) : Sta Z p w' most ns := by
  obtain ⟨a, h1, h2, h3, h4, h5⟩ := h
  have K : Keep (fun i => i = b) w w' := (Keep.refl _ _).only hO (fun _ => rfl)
  exact ⟨a, h1, h2.keep K (fun i hi e => h4 i hi (by rw [e]; exact hb)), h3, h4, fun k hk => by rw [hO.size]; exact h5 k hk⟩
theorem node_ok {ns : List Nd} (h : WF ns) (hl : ns.length ≤ 262144) {f : Nat} (hf : f < ns.length) : (ns.getD f bot).Ok := by
  rcases Nat.lt_or_ge f 2 with q | q
  · have : f = 0 ∨ f = 1 := by omega
    rcases this with rfl | rfl
    · rw [getD_some h.z]; exact ⟨by decide, by decide, by decide⟩
    · rw [getD_some h.o]; exact ⟨by decide, by decide, by decide⟩
  · obtain ⟨a, b, -, -, -, c⟩ := h.parts q hf
    unfold lv at c
    exact ⟨by omega, by omega, by omega⟩
/-- Nodes from the third on. -/
def inner (ns : List Nd) (k : Nat) : List Nd := (ns.take k).drop 2
theorem inner_mem {ns : List Nd} {k : Nat} {n : Nd} : n ∈ inner ns k ↔ ∃ f, 2 ≤ f ∧ f < k ∧ ns[f]? = some n := by
  unfold inner
  constructor
  · intro h
    obtain ⟨i, hi⟩ := List.getElem?_of_mem h
    rw [List.getElem?_drop] at hi
    have := lt_of_get hi
    rw [List.length_take] at this
    rw [List.getElem?_take, if_pos (by omega)] at hi
    exact ⟨2 + i, by omega, by omega, hi⟩
  · rintro ⟨f, h2, hk, hf⟩
    refine List.mem_of_getElem? (i := f - 2) ?_
    rw [List.getElem?_drop, show 2 + (f - 2) = f by omega, List.getElem?_take, if_pos hk]; exact hf
theorem inner_not {ns : List Nd} (h : WF ns) {k : Nat} (hk : k < ns.length) : ns.getD k bot ∉ inner ns k := fun q => by
  obtain ⟨f, -, hf, e⟩ := inner_mem.1 q
  have := h.inj f k _ e (get_of_lt hk)
  omega
theorem inner_succ {ns : List Nd} {k : Nat} (h2 : 2 ≤ k) (hk : k < ns.length) (n : Nd) : n ∈ ns.getD k bot :: inner ns k ↔ n ∈ inner ns (k + 1) := by
  rw [List.mem_cons, inner_mem, inner_mem]
  constructor
  · rintro (rfl | ⟨f, a, b, c⟩)
    · exact ⟨k, h2, by omega, get_of_lt hk⟩
    · exact ⟨f, a, by omega, c⟩
  · rintro ⟨f, a, b, c⟩
    rcases Nat.lt_or_ge f k with q | q
    · exact Or.inr ⟨f, a, q, c⟩
    · have : f = k := by omega
      subst this
      rw [get_of_lt hk] at c
      exact Or.inl (Option.some.inj c).symm
theorem inner_two (ns : List Nd) {k : Nat} (hk : k ≤ 2) (n : Nd) : n ∉ inner ns k := fun q => by
  obtain ⟨f, a, b, -⟩ := inner_mem.1 q
  omega
end Go.Proofs.Ytioanjpeddipmaa
