/- Maps of any values that a call made, by the list of what they hold. No program in sight. -/
import Derived.Test.YtgcbngephokegaaMG
namespace Go.Proofs.Ytgcbngephokegaa
open Go.RowKit Go.Maps Go.MapKept Go.ChangeMaps Go.WideElems Go.Joins
open Go.WideMaps (KeyLaw)
set_option linter.unusedVariables false

/-- How an element reads: nothing is asked of it. -/
def anyElem (v : Value) : Option (DataW Unit × List MemPlace) := some (.lit (.bool true), [])
theorem one_val {κ ν : Type} : ∀ {m : List (κ × ν)} {k : κ} {v u : ν}, (m.map (·.1)).Nodup → (k, v) ∈ m → (k, u) ∈ m → v = u
  | [], _, _, _, _, h, _ => by cases h
  | q :: r, k, v, u, hn, h1, h2 => by
    obtain ⟨n1, n2⟩ := List.nodup_cons.1 hn
    rcases List.mem_cons.1 h1 with e1 | e1
    · rcases List.mem_cons.1 h2 with e2 | e2
      · rw [← e1] at e2; exact (Prod.mk.inj e2).2.symm
      · exact absurd (List.mem_map.2 ⟨_, e2, by show k = q.1; rw [← e1]⟩) n1
    · rcases List.mem_cons.1 h2 with e2 | e2
      · exact absurd (List.mem_map.2 ⟨_, e1, by show k = q.1; rw [← e2]⟩) n1
      · exact one_val n2 e1 e2
section
variable {κ ν : Type} {P : Program} {tk te t : TypeId} {kv : κ → Value} {vv : ν → Value}
/-- Block b is a map of just these. -/
def MapV (P : Program) (tk : TypeId) (kv : κ → Value) (vv : ν → Value) (w : World) (b : Nat) (m : List (κ × ν)) : Prop :=
  ∃ es clock, w.heap[b]? = some (.map es clock) ∧ Fit (H := Unit) P tk anyElem es clock ∧ (∀ x ∈ es.toList, ∃ p ∈ m, x.key = kv p.1 ∧ x.val = vv p.2) ∧ (∀ p ∈ m, ∃ x ∈ es.toList, x.key = kv p.1 ∧ x.val = vv p.2)
theorem MapV.lt {w : World} {b : Nat} {m : List (κ × ν)} (h : MapV P tk kv vv w b m) : b < w.heap.size := by
  obtain ⟨es, clock, h1, -⟩ := h
  rcases Nat.lt_or_ge b w.heap.size with q | q
  · exact q
  · rw [Array.getElem?_eq_none q] at h1; cases h1
theorem MapV.isMap {w : World} {b : Nat} {m : List (κ × ν)} (h : MapV P tk kv vv w b m) : ∃ es clock, w.heap[b]? = some (.map es clock) := by
  obtain ⟨es, clock, h1, -⟩ := h
  exact ⟨es, clock, h1⟩
theorem MapV.same {w w' : World} {b : Nat} {m : List (κ × ν)} (h : MapV P tk kv vv w b m) (hb : w'.heap[b]? = w.heap[b]?) : MapV P tk kv vv w' b m := by
  obtain ⟨es, clock, h1, h2⟩ := h
  exact ⟨es, clock, hb.trans h1, h2⟩
theorem MapV.on {w w' : World} {b : Nat} {m : List (κ × ν)} (h : MapV P tk kv vv w b m) (hb : Below w.heap.size w w') : MapV P tk kv vv w' b m := h.same (hb.block _ h.lt)
theorem MapV.perm {w : World} {b : Nat} {m m' : List (κ × ν)} (h : MapV P tk kv vv w b m) (hm : ∀ p, p ∈ m ↔ p ∈ m') : MapV P tk kv vv w b m' := by
  obtain ⟨es, clock, h1, h2, h3, h4⟩ := h
  exact ⟨es, clock, h1, h2, fun x hx => by obtain ⟨p, hp, e⟩ := h3 x hx; exact ⟨p, (hm p).1 hp, e⟩, fun p hp => h4 p ((hm p).2 hp)⟩
theorem MapV.made (w : World) : MapV P tk kv vv (w.alloc (.map #[] 0)) w.heap.size [] :=
  ⟨#[], 0, (MapKept.heap_alloc w _).1, ⟨by simp, stamped_empty 0, by simp⟩, by simp, by simp⟩
theorem MapV.size {m : List (κ × ν)} {es : Array MapEntry} {clock : Nat} (F : Fit (H := Unit) P tk anyElem es clock) (h : ∀ x ∈ es.toList, ∃ p ∈ m, x.key = kv p.1 ∧ x.val = vv p.2) : es.size ≤ m.length := by
  have := nodup_sub (es.toList.map (·.key)) (m.map (fun p => kv p.1)) F.stamped.2.2 (fun v hv => by
    obtain ⟨x, hx, rfl⟩ := List.mem_map.1 hv
    obtain ⟨p, hp, e, -⟩ := h x hx
    exact List.mem_map.2 ⟨p, hp, e.symm⟩)
  simpa using this
theorem nodup_kv (hi : ∀ a b : κ, kv a = kv b → a = b) : ∀ {m : List (κ × ν)}, (m.map (·.1)).Nodup → (m.map (fun p => kv p.1)).Nodup
  | [], _ => List.nodup_nil
  | q :: r, h => by
    obtain ⟨n1, n2⟩ := List.nodup_cons.1 h
    refine List.nodup_cons.2 ⟨fun e => ?_, nodup_kv hi n2⟩
    obtain ⟨p, hp, e⟩ := List.mem_map.1 e
    exact n1 (List.mem_map.2 ⟨p, hp, hi _ _ e⟩)
theorem MapV.count {m : List (κ × ν)} {es : Array MapEntry} {clock : Nat} (hi : ∀ a b, kv a = kv b → a = b) (F : Fit (H := Unit) P tk anyElem es clock) (h : ∀ x ∈ es.toList, ∃ p ∈ m, x.key = kv p.1 ∧ x.val = vv p.2) (h' : ∀ p ∈ m, ∃ x ∈ es.toList, x.key = kv p.1 ∧ x.val = vv p.2) (hone : (m.map (·.1)).Nodup) : es.size = m.length := by
  refine Nat.le_antisymm (MapV.size F h) ?_
  have := nodup_sub (m.map (fun p => kv p.1)) (es.toList.map (·.key)) (nodup_kv hi hone) (fun v hv => by
    obtain ⟨p, hp, rfl⟩ := List.mem_map.1 hv
    obtain ⟨x, hx, e, -⟩ := h' p hp
    exact List.mem_map.2 ⟨x, hx, e⟩)
  simpa using this
/-- 'len(m)'. -/
theorem mapV_len (ht : P.underlying t = some (.map tk te)) (hi : ∀ a b, kv a = kv b → a = b) {w : World} {b : Nat} {m : List (κ × ν)} (h : MapV P tk kv vv w b m) (hone : (m.map (·.1)).Nodup) (ty : TypeId) : (Builtin.len_ #[t] ty #[.map (some b)]).run P w = .ok (.int .i64 (m.length : Nat)) w := by
  obtain ⟨es, clock, hb, F, h1, h2⟩ := h
  rw [← MapV.count hi F h1 h2 hone]
  simp [Builtin.len_, run_underlying ht, MapKept.run_getObj_map hb, goInt]
theorem mapV_none (K : Keyed P tk) (ht : P.underlying t = some (.map tk te)) {z : Value} (hz : ∀ w, (zeroValue te).run P w = .ok z w) (hi : ∀ a b, kv a = kv b → a = b) (c : Bool) {w : World} {b : Nat} {m : List (κ × ν)} (h : MapV P tk kv vv w b m) {k : κ} {l : Lit} (hk : keyOf P tk (kv k) = some l) (hn : k ∉ m.map (·.1)) :
    (Instr.lookup t (.map (some b)) (kv k) c).run P w = .ok (if c then .tuple #[z, .bool false] else z) w := by
  obtain ⟨es, clock, hb, F, h1, h2⟩ := h
  rcases fit_look c K ht (hz w) hb F hk with ⟨hr, -⟩ | ⟨e0, y, hm, hk', -⟩
  · exact hr
  · obtain ⟨p, hp, e, -⟩ := h1 e0 hm
    exact absurd (List.mem_map.2 ⟨p, hp, hi _ _ (e.symm.trans hk')⟩) hn
theorem mapV_some (K : Keyed P tk) (ht : P.underlying t = some (.map tk te)) {z : Value} (hz : ∀ w, (zeroValue te).run P w = .ok z w) (hi : ∀ a b, kv a = kv b → a = b) (c : Bool) {w : World} {b : Nat} {m : List (κ × ν)} (h : MapV P tk kv vv w b m) {k : κ} {v : ν} {l : Lit} (hk : keyOf P tk (kv k) = some l) (hm : (k, v) ∈ m) (hone : (m.map (·.1)).Nodup) :
    (Instr.lookup t (.map (some b)) (kv k) c).run P w = .ok (if c then .tuple #[vv v, .bool true] else vv v) w := by
  obtain ⟨es, clock, hb, F, h1, h2⟩ := h
  rcases fit_look c K ht (hz w) hb F hk with ⟨-, hn, -⟩ | ⟨e0, y, hme, hk', hr, -⟩
  · obtain ⟨x, hx, e, -⟩ := h2 _ hm
    exact absurd e (hn x hx)
  · obtain ⟨p, hp, e, ev⟩ := h1 e0 hme
    have e1 : p.1 = k := hi _ _ (e.symm.trans hk')
    have e2 : p.2 = v := one_val hone (by rw [← e1]; exact hp) hm
    rw [ev, e2] at hr
    exact hr
/-- What a store leaves: the key's own entry is the new one. -/
theorem fit_put (K : Keyed P tk) (ht : P.underlying t = some (.map tk te)) (hi : ∀ a b, kv a = kv b → a = b) {w : World} {b : Nat} {m m' : List (κ × ν)} {es : Array MapEntry} {clock : Nat} (hb : w.heap[b]? = some (.map es clock)) (F : Fit (H := Unit) P tk anyElem es clock)
    (h1 : ∀ x ∈ es.toList, ∃ p ∈ m, x.key = kv p.1 ∧ x.val = vv p.2) (h2 : ∀ p ∈ m, ∃ x ∈ es.toList, x.key = kv p.1 ∧ x.val = vv p.2) {k : κ} {v : ν} {l : Lit} (hk : keyOf P tk (kv k) = some l) (hlen : m.length < maxLen) (hm : ∀ p, p ∈ m' ↔ p = (k, v) ∨ (p ∈ m ∧ p.1 ≠ k)) :
    ∃ es' clock', (Instr.mapUpdate t (.map (some b)) (kv k) (vv v)).run P w = .ok () (setBlock w b (.map es' clock')) ∧ Fit (H := Unit) P tk anyElem es' clock' ∧ (∀ x ∈ es'.toList, ∃ p ∈ m', x.key = kv p.1 ∧ x.val = vv p.2) ∧ (∀ p ∈ m', ∃ x ∈ es'.toList, x.key = kv p.1 ∧ x.val = vv p.2) := by
  have hsz := MapV.size F h1
  obtain ⟨es', clock', hrun, F', -, -, -, hwho⟩ := fit_store (R' := anyElem) (yv := (.lit (.bool true), [])) K ht hb F (by omega) (fun _ _ _ _ hz => hz) hk rfl
  refine ⟨es', clock', hrun, F', fun x hx => ?_, fun p hp => ?_⟩
  · rcases hwho x hx with ⟨q1, q2⟩ | ⟨q1, q2⟩
    · obtain ⟨p, hp, e1, e2⟩ := h1 x q1
      exact ⟨p, (hm p).2 (Or.inr ⟨hp, fun e => q2 (by rw [e1, e])⟩), e1, e2⟩
    · exact ⟨(k, v), (hm _).2 (Or.inl rfl), q1, q2⟩
  · rcases K.find w hk es.toList F.keys with ⟨k1, k2⟩ | ⟨j, e0, k1, k2, k3⟩
    · have hrun2 : (Instr.mapUpdate t (.map (some b)) (kv k) (vv v)).run P w = .ok () (setBlock w b (.map (es.push ⟨kv k, vv v, clock⟩) (clock + 1))) := by
        simp [Instr.mapUpdate, run_underlying ht, MapKept.run_getObj_map hb, K.check w false hk, k1, MapKept.run_setObj_map _ hb, Result.andThen, setBlock]
      have heq : es' = es.push ⟨kv k, vv v, clock⟩ := by
        rw [hrun] at hrun2
        have q := (Result.ok.inj hrun2).2
        have k1 := heap_setBlock_same hb (.map es' clock')
        rw [q, heap_setBlock_same hb] at k1
        cases k1; rfl
      subst heq
      rcases (hm p).1 hp with rfl | ⟨hp, hne⟩
      · exact ⟨⟨kv k, vv v, clock⟩, by simp, rfl, rfl⟩
      · obtain ⟨x, q1, q2⟩ := h2 p hp
        exact ⟨x, by simp [q1], q2⟩
    · have hj : es[j]? = some e0 := by simpa using k2
      have hrun2 : (Instr.mapUpdate t (.map (some b)) (kv k) (vv v)).run P w = .ok () (setBlock w b (.map (es.modify j (fun e' => { e' with key := kv k, val := vv v })) clock)) := by
        simp [Instr.mapUpdate, run_underlying ht, MapKept.run_getObj_map hb, K.check w false hk, k1, hj, k3, K.stays w hk, MapKept.run_setObj_map _ hb, Result.andThen, setBlock]
      have heq : es' = es.modify j (fun e' => { e' with key := kv k, val := vv v }) := by
        rw [hrun] at hrun2
        have q := (Result.ok.inj hrun2).2
        have k1 := heap_setBlock_same hb (.map es' clock')
        rw [q, heap_setBlock_same hb] at k1
        cases k1; rfl
      subst heq
      have hlt : j < es.toList.length := lt_of_get' k2
      rcases (hm p).1 hp with rfl | ⟨hp, hne⟩
      · refine ⟨{ e0 with key := kv k, val := vv v }, ?_, rfl, rfl⟩
        rw [Array.toList_modify]
        exact List.mem_of_getElem? (i := j) (by rw [List.getElem?_modify_eq, k2]; rfl)
      · obtain ⟨x, q1, q2, q3⟩ := h2 p hp
        refine ⟨x, ?_, q2, q3⟩
        obtain ⟨i, hx⟩ := List.getElem?_of_mem q1
        have hij : j ≠ i := fun e => by
          subst e
          rw [hx] at k2
          cases k2
          exact hne (hi _ _ (q2.symm.trans k3))
        rw [Array.toList_modify]
        exact List.mem_of_getElem? (i := i) (by simp [hij, hx])
where
  lt_of_get' {α : Type} {l : List α} {i : Nat} {x : α} (h : l[i]? = some x) : i < l.length := by
    rcases Nat.lt_or_ge i l.length with q | q
    · exact q
    · rw [List.getElem?_eq_none q] at h; cases h
theorem mapV_store (K : Keyed P tk) (ht : P.underlying t = some (.map tk te)) (hi : ∀ a b, kv a = kv b → a = b) {w : World} {b : Nat} {m m' : List (κ × ν)} (h : MapV P tk kv vv w b m) {k : κ} {v : ν} {l : Lit} (hk : keyOf P tk (kv k) = some l) (hlen : m.length < maxLen) (hm : ∀ p, p ∈ m' ↔ p = (k, v) ∨ (p ∈ m ∧ p.1 ≠ k)) :
    ∃ w', (Instr.mapUpdate t (.map (some b)) (kv k) (vv v)).run P w = .ok () w' ∧ MapV P tk kv vv w' b m' ∧ Only b w w' := by
  obtain ⟨es, clock, hb, F, h1, h2⟩ := h
  obtain ⟨es', clock', hrun, F', k1, k2⟩ := fit_put K ht hi hb F h1 h2 hk hlen hm
  exact ⟨_, hrun, ⟨_, _, heap_setBlock_same hb _, F', k1, k2⟩, Only.set hb⟩
theorem mapV_del (K : Keyed P tk) (ht : P.underlying t = some (.map tk te)) (hi : ∀ a b, kv a = kv b → a = b) {ty : TypeId} {w : World} {b : Nat} {m m' : List (κ × ν)} (h : MapV P tk kv vv w b m) {k : κ} {l : Lit} (hk : keyOf P tk (kv k) = some l) (hm : ∀ p, p ∈ m' ↔ p ∈ m ∧ p.1 ≠ k) :
    ∃ w', (Builtin.delete_ #[t, tk] ty #[.map (some b), kv k]).run P w = .ok (.tuple #[]) w' ∧ MapV P tk kv vv w' b m' ∧ Only b w w' := by
  obtain ⟨es, clock, hb, F, h1, h2⟩ := h
  obtain ⟨es', hrun, F', -, -, -, hwho⟩ := fit_drop_who (ty := ty) K ht hb F hk
  refine ⟨_, hrun, ⟨_, _, heap_setBlock_same hb _, F', fun x hx => ?_, fun p hp => ?_⟩, Only.set hb⟩
  · obtain ⟨q1, q2⟩ := (hwho x).1 hx
    obtain ⟨p, hp, e⟩ := h1 x q1
    exact ⟨p, (hm p).2 ⟨hp, fun e1 => q2 (by rw [e.1, e1])⟩, e⟩
  · obtain ⟨q1, q2⟩ := (hm p).1 hp
    obtain ⟨x, k1, k2⟩ := h2 p q1
    exact ⟨x, (hwho x).2 ⟨k1, fun e1 => q2 (hi _ _ (k2.1.symm.trans e1))⟩, k2⟩
end
end Go.Proofs.Ytgcbngephokegaa
