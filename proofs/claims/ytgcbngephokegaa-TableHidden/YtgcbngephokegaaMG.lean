/- Maps with integer elements that a call made, by the list of what they hold; a world that is another but for one block. No program in sight. -/
import Derived.Test.YtgcbngephokegaaBlk
import Derived.Maps.Own
import Derived.Maps.Range
import Derived.WideKeyEntry
import Derived.DeepKeys4
import Derived.MapViews
import Derived.Lib.SmallJoins
namespace Go.Proofs.Ytgcbngephokegaa
open Go.RowKit Go.Maps Go.MapKept Go.ChangeMaps Go.WideElems Go.Joins
open Go.WideMaps (KeyLaw)
set_option linter.unusedVariables false

theorem nodup_sub {α : Type} : ∀ (l r : List α), l.Nodup → (∀ x ∈ l, x ∈ r) → l.length ≤ r.length
  | [], r, _, _ => Nat.zero_le _
  | a :: l, r, hn, hs => by
    haveI : DecidableEq α := fun a b => Classical.propDecidable _
    obtain ⟨h1, h2⟩ := List.nodup_cons.1 hn
    have ha := hs a (List.mem_cons_self ..)
    have := nodup_sub l (r.erase a) h2 (fun x hx => by
      refine (List.mem_erase_of_ne (fun e : x = a => h1 (by rw [← e]; exact hx))).2 (hs x (List.mem_cons_of_mem _ hx)))
    rw [List.length_erase_of_mem ha] at this
    have := List.length_pos_of_mem ha
    simp only [List.length_cons]; omega
/-- w' is w but for block b. -/
structure Only (b : Nat) (w w' : World) : Prop where
  os : w'.os = w.os
  tape : w'.tape = w.tape
  out : w'.output = w.output
  size : w'.heap.size = w.heap.size
  blk : ∀ i, i ≠ b → w'.heap[i]? = w.heap[i]?
theorem Only.refl (b : Nat) (w : World) : Only b w w := ⟨rfl, rfl, rfl, rfl, fun _ _ => rfl⟩
theorem Only.set {w : World} {b : Nat} {es : Array MapEntry} {clock : Nat} {o' : Obj} (h : w.heap[b]? = some (.map es clock)) : Only b w (setBlock w b o') :=
  ⟨rfl, rfl, rfl, by simp [setBlock], fun i hi => heap_setBlock_other h _ (fun e => hi (by rw [e]))⟩
theorem Only.below {w w' W : World} {n b : Nat} (h : Only b w w') (hb : Below n W w) (hn : n ≤ b) : Below n W w' := by
  refine ⟨by rw [h.os]; exact hb.os, by rw [h.tape]; exact hb.tape, by rw [h.out]; exact hb.output, by rw [h.size]; exact hb.size, fun i hi => ?_⟩
  rw [h.blk i (by omega)]; exact hb.block i hi
theorem Only.cell {w w' : World} {b : Nat} {es : Array MapEntry} {clock : Nat} (h : Only b w w') (hb : w.heap[b]? = some (.map es clock)) (i o : Nat) (hc : (w.cell? ⟨i, o, none⟩).isSome = true) : w'.cell? ⟨i, o, none⟩ = w.cell? ⟨i, o, none⟩ := by
  have hi : i ≠ b := fun e => by subst e; simp [World.cell?, hb] at hc
  simp only [World.cell?, h.blk i hi]
section
variable {κ : Type} {P : Program} {tk te t : TypeId} {kv : κ → Value}
/-- Block b is a map of just these, each key once. -/
def MapG (P : Program) (tk te : TypeId) (kv : κ → Value) (w : World) (b : Nat) (m : List (κ × Nat)) : Prop :=
  ∃ es clock, w.heap[b]? = some (.map es clock) ∧ Fit (H := Unit) P tk (plainElem P te) es clock ∧ (∀ x ∈ es.toList, ∃ p ∈ m, x.key = kv p.1 ∧ x.val = .int .i64 (p.2 : Nat)) ∧ (∀ p ∈ m, ∃ x ∈ es.toList, x.key = kv p.1 ∧ x.val = .int .i64 (p.2 : Nat))
theorem MapG.lt {w : World} {b : Nat} {m : List (κ × Nat)} (h : MapG P tk te kv w b m) : b < w.heap.size := by
  obtain ⟨es, clock, h1, -⟩ := h
  rcases Nat.lt_or_ge b w.heap.size with q | q
  · exact q
  · rw [Array.getElem?_eq_none q] at h1; cases h1
theorem MapG.isMap {w : World} {b : Nat} {m : List (κ × Nat)} (h : MapG P tk te kv w b m) : ∃ es clock, w.heap[b]? = some (.map es clock) := by
  obtain ⟨es, clock, h1, -⟩ := h
  exact ⟨es, clock, h1⟩
theorem MapG.drew {w : World} {b : Nat} {m : List (κ × Nat)} (h : MapG P tk te kv w b m) : MapG P tk te kv w.drew b m := h
theorem MapG.same {w w' : World} {b : Nat} {m : List (κ × Nat)} (h : MapG P tk te kv w b m) (hb : w'.heap[b]? = w.heap[b]?) : MapG P tk te kv w' b m := by
  obtain ⟨es, clock, h1, h2⟩ := h
  exact ⟨es, clock, hb.trans h1, h2⟩
theorem MapG.perm {w : World} {b : Nat} {m m' : List (κ × Nat)} (h : MapG P tk te kv w b m) (hm : ∀ p, p ∈ m ↔ p ∈ m') : MapG P tk te kv w b m' := by
  obtain ⟨es, clock, h1, h2, h3, h4⟩ := h
  exact ⟨es, clock, h1, h2, fun x hx => by obtain ⟨p, hp, e⟩ := h3 x hx; exact ⟨p, (hm p).1 hp, e⟩, fun p hp => h4 p ((hm p).2 hp)⟩
theorem MapG.made (w : World) : MapG P tk te kv (w.alloc (.map #[] 0)) w.heap.size [] := by
  obtain ⟨es, clock, h1, h2, h3, h4⟩ := World.ownsMap_made (H := Unit) w P tk (plainElem P te)
  have h5 : es = #[] := by
    have k := (MapKept.heap_alloc w (.map #[] 0)).1
    rw [k] at h1; cases h1; rfl
  subst h5
  exact ⟨#[], clock, h1, h2, by simp, by simp⟩
theorem MapG.size {w : World} {b : Nat} {m : List (κ × Nat)} {es : Array MapEntry} {clock : Nat} (F : Fit (H := Unit) P tk (plainElem P te) es clock) (h : ∀ x ∈ es.toList, ∃ p ∈ m, x.key = kv p.1 ∧ x.val = .int .i64 (p.2 : Nat)) : es.size ≤ m.length := by
  have := nodup_sub (es.toList.map (·.key)) (m.map (fun p => kv p.1)) F.stamped.2.2 (fun v hv => by
    obtain ⟨x, hx, rfl⟩ := List.mem_map.1 hv
    obtain ⟨p, hp, e, -⟩ := h x hx
    exact List.mem_map.2 ⟨p, hp, e.symm⟩)
  simpa using this
theorem mapG_none (K : Keyed P tk) (ht : P.underlying t = some (.map tk te)) (hz : ∀ w, (zeroValue te).run P w = .ok (.int .i64 0) w) (hi : ∀ a b, kv a = kv b → a = b) (c : Bool) {w : World} {b : Nat} {m : List (κ × Nat)} (h : MapG P tk te kv w b m) {k : κ} {l : Lit} (hk : keyOf P tk (kv k) = some l) (hn : k ∉ m.map (·.1)) :
    (Instr.lookup t (.map (some b)) (kv k) c).run P w = .ok (if c then .tuple #[.int .i64 0, .bool false] else .int .i64 0) w := by
  obtain ⟨es, clock, hb, F, h1, h2⟩ := h
  rcases fit_look c K ht (hz w) hb F hk with ⟨hr, -⟩ | ⟨e0, y, hm, hk', -⟩
  · exact hr
  · obtain ⟨p, hp, e, -⟩ := h1 e0 hm
    exact absurd (List.mem_map.2 ⟨p, hp, hi _ _ (e.symm.trans hk')⟩) hn
theorem mapG_some (K : Keyed P tk) (ht : P.underlying t = some (.map tk te)) (hz : ∀ w, (zeroValue te).run P w = .ok (.int .i64 0) w) (hi : ∀ a b, kv a = kv b → a = b) (c : Bool) {w : World} {b : Nat} {m : List (κ × Nat)} (h : MapG P tk te kv w b m) {k : κ} {v : Nat} {l : Lit} (hk : keyOf P tk (kv k) = some l) (hm : (k, v) ∈ m) (hone : (m.map (·.1)).Nodup) :
    (Instr.lookup t (.map (some b)) (kv k) c).run P w = .ok (if c then .tuple #[.int .i64 v, .bool true] else .int .i64 v) w := by
  obtain ⟨es, clock, hb, F, h1, h2⟩ := h
  rcases fit_look c K ht (hz w) hb F hk with ⟨-, hn, -⟩ | ⟨e0, y, hme, hk', hr, -⟩
  · obtain ⟨x, hx, e, -⟩ := h2 _ hm
    exact absurd e (hn x hx)
  · obtain ⟨p, hp, e, ev⟩ := h1 e0 hme
    have e1 : p.1 = k := hi _ _ (e.symm.trans hk')
    have e2 : p.2 = v := by
      clear h1 h2 ht
      induction m with
      | nil => cases hp
      | cons q r ih =>
        obtain ⟨n1, n2⟩ := List.nodup_cons.1 hone
        rcases List.mem_cons.1 hp with hp1 | hp1
        · rcases List.mem_cons.1 hm with hm1 | hm1
          · rw [hp1, ← hm1]
          · exact absurd (List.mem_map.2 ⟨_, hm1, by show k = q.1; rw [← hp1, e1]⟩) n1
        · rcases List.mem_cons.1 hm with hm1 | hm1
          · exact absurd (List.mem_map.2 ⟨_, hp1, by show p.1 = q.1; rw [← hm1, e1]⟩) n1
          · exact ih hm1 n2 hp1
    rw [ev, e2] at hr
    exact hr
theorem mapG_store (K : Keyed P tk) (ht : P.underlying t = some (.map tk te)) (he : P.underlying te = some (.int .i64)) (hi : ∀ a b, kv a = kv b → a = b) {w : World} {b : Nat} {m : List (κ × Nat)} (h : MapG P tk te kv w b m) {k : κ} {v : Nat} {l : Lit} (hk : keyOf P tk (kv k) = some l) (hn : k ∉ m.map (·.1)) (hv : v ≤ 9223372036854775807) (hlen : m.length < maxLen) :
    ∃ w', (Instr.mapUpdate t (.map (some b)) (kv k) (.int .i64 v)).run P w = .ok () w' ∧ MapG P tk te kv w' b ((k, v) :: m) ∧ Only b w w' := by
  obtain ⟨es, clock, hb, F, h1, h2⟩ := h
  have hno : ∀ x ∈ es.toList, x.key ≠ kv k := fun x hx hk' => by
    obtain ⟨p, hp, e, -⟩ := h1 x hx
    exact hn (List.mem_map.2 ⟨p, hp, hi _ _ (e.symm.trans hk')⟩)
  have hfind : (Instr.findKey tk (kv k) es.toList).run P w = .ok none w := by
    rcases K.find w hk es.toList F.keys with ⟨k1, -⟩ | ⟨j, e0, -, k2, k3⟩
    · exact k1
    · exact absurd k3 (hno e0 (List.mem_of_getElem? k2))
  have hsz := MapG.size (w := w) (b := b) F h1
  obtain ⟨es', clock', hrun, F', -⟩ := fit_store (R' := plainElem P te) K ht hb F (by omega) (fun _ _ _ _ hz => hz) hk (plainElem_int (H := Unit) he (show (Lit.int .i64 (v : Int)).wf = true by rw [Lit.wf, Bool.and_eq_true, decide_eq_true_eq, decide_eq_true_eq, show IntKind.i64.min = -9223372036854775808 from rfl, show IntKind.i64.max = 9223372036854775807 from rfl]; omega))
  have hrun2 : (Instr.mapUpdate t (.map (some b)) (kv k) (.int .i64 v)).run P w = .ok () (setBlock w b (.map (es.push ⟨kv k, .int .i64 v, clock⟩) (clock + 1))) := by
    simp [Instr.mapUpdate, run_underlying ht, MapKept.run_getObj_map hb, K.check w false hk, hfind, MapKept.run_setObj_map _ hb, Result.andThen, setBlock]
  have heq : es' = es.push ⟨kv k, .int .i64 v, clock⟩ ∧ clock' = clock + 1 := by
    rw [hrun] at hrun2
    have q := (Result.ok.inj hrun2).2
    have k1 := heap_setBlock_same hb (.map es' clock')
    rw [q, heap_setBlock_same hb] at k1
    cases k1; exact ⟨rfl, rfl⟩
  obtain ⟨rfl, rfl⟩ := heq
  refine ⟨_, hrun, ⟨_, _, heap_setBlock_same hb _, F', fun x hx => ?_, fun p hp => ?_⟩, Only.set hb⟩
  · rw [Array.toList_push, List.mem_append, List.mem_singleton] at hx
    rcases hx with hx | rfl
    · obtain ⟨p, hp, e⟩ := h1 x hx
      exact ⟨p, List.mem_cons_of_mem _ hp, e⟩
    · exact ⟨(k, v), List.mem_cons_self .., rfl, rfl⟩
  · rcases List.mem_cons.1 hp with rfl | hp
    · exact ⟨⟨kv k, .int .i64 v, clock⟩, by simp, rfl, rfl⟩
    · obtain ⟨x, k1, k2⟩ := h2 p hp
      exact ⟨x, by simp [k1], k2⟩
theorem mapG_del (K : Keyed P tk) (ht : P.underlying t = some (.map tk te)) (hi : ∀ a b, kv a = kv b → a = b) {ty : TypeId} {w : World} {b : Nat} {m m' : List (κ × Nat)} (h : MapG P tk te kv w b m) {k : κ} {l : Lit} (hk : keyOf P tk (kv k) = some l) (hm : ∀ p, p ∈ m' ↔ p ∈ m ∧ p.1 ≠ k) :
    ∃ w', (Builtin.delete_ #[t, tk] ty #[.map (some b), kv k]).run P w = .ok (.tuple #[]) w' ∧ MapG P tk te kv w' b m' ∧ Only b w w' := by
  obtain ⟨es, clock, hb, F, h1, h2⟩ := h
  obtain ⟨es', hrun, F', -, -, -, hwho⟩ := fit_drop_who (ty := ty) K ht hb F hk
  refine ⟨_, hrun, ⟨_, _, heap_setBlock_same hb _, F', fun x hx => ?_, fun p hp => ?_⟩, Only.set hb⟩
  · obtain ⟨q1, q2⟩ := (hwho x).1 hx
    obtain ⟨p, hp, e⟩ := h1 x q1
    exact ⟨p, (hm p).2 ⟨hp, fun e1 => q2 (by rw [e.1, e1])⟩, e⟩
  · obtain ⟨q1, q2⟩ := (hm p).1 hp
    obtain ⟨x, k1, k2⟩ := h2 p q1
    exact ⟨x, (hwho x).2 ⟨k1, fun e1 => q2 (hi _ _ (k2.1.symm.trans e1))⟩, k2⟩
end
end Go.Proofs.Ytgcbngephokegaa
