/- 'm[k] op= v' on maps by what they hold; pairs as keys; how many pairs are met. -/
import Derived.Test.YteiemcnjcdjglaaG99bdff5f4b
import Derived.Test.YteiemcnjcdjglaaG212a414aca
import Derived.WideKeyEntry
namespace Go.Proofs.Yteiemcnjcdjglaa
open Go.RowKit Go.Maps Go.MapKept Go.ChangeMaps Go.WideElems Go.Joins
open Go.WideMaps (KeyLaw)
set_option linter.unusedVariables false
set_option linter.unusedSimpArgs false

section
variable {κ ν : Type} {P : Program} {tk te t : TypeId} {kv : κ → Value} {vv : ν → Value}
theorem mapV_entry (K : KeyLaw P tk) (ht : P.underlying t = some (.map tk te)) {z : Value} (hz : ∀ w, (zeroValue te).run P w = .ok z w) (hi : ∀ a b, kv a = kv b → a = b) {w : World} {b : Nat} {m m' : List (κ × ν)} (h : MapV P tk kv vv w b m) {k : κ} {u v : ν} {l : Lit} (hk : keyOf P tk (kv k) = some l) (hone : (m.map (·.1)).Nodup)
    (hu : (k, u) ∈ m ∨ (k ∉ m.map (·.1) ∧ vv u = z)) (hlen : m.length < maxLen) (hm : ∀ p, p ∈ m' ↔ p = (k, v) ∨ (p ∈ m ∧ p.1 ≠ k)) :
    ∃ (st : Nat) (w1 w2 : World), (Instr.mapEntry t (.map (some b)) (kv k)).run P w = .ok (.tuple #[vv u, .int .i64 (st : Nat)]) w1 ∧ (Instr.lookup t (.map (some b)) (kv k) false).run P w1 = .ok (vv u) w1 ∧ (Instr.entryStore t (.map (some b)) (.int .i64 (st : Nat)) (vv v)).run P w1 = .ok () w2 ∧ MapV P tk kv vv w2 b m' ∧ Only b w w1 ∧ Only b w w2 := by
  have KD : Keyed P tk := Keyed.of_law K
  obtain ⟨es, clock, hb, F, h1, h2⟩ := h
  obtain ⟨v0, st, es1, clock1, e1, e2, e3⟩ := entry_then_store (t := t) K ht hz hb F hk
  have hb1 : (setBlock w b (.map es1 clock1)).heap[b]? = some (.map es1 clock1) := heap_setBlock_same hb _
  obtain ⟨es', clock', r1, r2⟩ := e3 _ (vv v) hb1
  obtain ⟨es2, clock2, s1, s2, s3, s4⟩ := fit_put KD ht hi hb F h1 h2 hk hlen hm
  have heq : es' = es2 ∧ clock' = clock2 := by
    rw [r2] at s1
    have q := (Result.ok.inj s1).2
    have k1 := heap_setBlock_same hb (.map es' clock')
    rw [q, heap_setBlock_same hb] at k1
    cases k1; exact ⟨rfl, rfl⟩
  obtain ⟨rfl, rfl⟩ := heq
  have hv0 : v0 = vv u := by
    rcases e2 with ⟨e0, hm0, hk0, rfl⟩ | ⟨hno, rfl⟩
    · obtain ⟨p, hp, q1, q2⟩ := h1 e0 hm0
      have q3 : p.1 = k := hi _ _ (q1.symm.trans hk0)
      rcases hu with hu | ⟨hu, -⟩
      · have q4 : p.2 = u := one_val hone (by rw [← q3]; exact hp) hu
        rw [q2, q4]
      · exact absurd (List.mem_map.2 ⟨p, hp, q3⟩) hu
    · rcases hu with hu | ⟨-, hu⟩
      · obtain ⟨x, hx, e, -⟩ := h2 _ hu
        exact absurd e (hno x hx)
      · exact hu.symm
  subst hv0
  have look : (Instr.lookup t (.map (some b)) (kv k) false).run P (setBlock w b (.map es1 clock1)) = .ok (vv u) (setBlock w b (.map es1 clock1)) := by
    rcases KD.find w hk es.toList F.keys with ⟨k1, k2⟩ | ⟨j, e0, k1, k2, k3⟩
    · have hrun : (Instr.mapEntry t (.map (some b)) (kv k)).run P w = .ok (.tuple #[z, .int .i64 (clock : Nat)]) (setBlock w b (.map (es.push ⟨kv k, z, clock⟩) (clock + 1))) := by
        simp [Instr.mapEntry, run_underlying ht, MapKept.run_getObj_map hb, KD.check w false hk, k1, hz, MapKept.run_setObj_map _ hb, Result.andThen, setBlock, goInt]
      rw [e1] at hrun
      have q := Result.ok.inj hrun
      have hz' : vv u = z := by have := q.1; simp at this; exact this.1
      have k5 := heap_setBlock_same hb (.map es1 clock1)
      rw [q.2, heap_setBlock_same hb] at k5
      obtain ⟨es3, clock3, t1, t2, t3, t4⟩ := fit_put (m' := (k, u) :: m) (v := u) KD ht hi hb F h1 h2 hk hlen (fun p => by
        rw [List.mem_cons]
        refine ⟨fun q => q.imp id (fun q => ⟨q, fun e => ?_⟩), fun q => q.imp id (fun q => q.1)⟩
        obtain ⟨x, hx, ex, -⟩ := h2 p q
        exact k2 x hx (by rw [ex, e]))
      have hrun2 : (Instr.mapUpdate t (.map (some b)) (kv k) (vv u)).run P w = .ok () (setBlock w b (.map (es.push ⟨kv k, vv u, clock⟩) (clock + 1))) := by
        simp [Instr.mapUpdate, run_underlying ht, MapKept.run_getObj_map hb, KD.check w false hk, k1, MapKept.run_setObj_map _ hb, Result.andThen, setBlock]
      rw [hrun2] at t1
      have q6 := (Result.ok.inj t1).2
      have k6 := heap_setBlock_same hb (.map (es.push ⟨kv k, vv u, clock⟩) (clock + 1))
      rw [q6, heap_setBlock_same hb] at k6
      rw [← hz'] at k5
      rw [← k6] at k5
      cases k5
      have hno : k ∉ m.map (·.1) := fun e => by
        obtain ⟨p, hp, ep⟩ := List.mem_map.1 e
        obtain ⟨x, hx, ex, -⟩ := h2 p hp
        exact k2 x hx (by rw [ex, ep])
      have M : MapV P tk kv vv (setBlock w b (.map es1 clock1)) b ((k, u) :: m) := ⟨_, _, heap_setBlock_same hb _, t2, t3, t4⟩
      exact mapV_some KD ht hz hi false M hk (List.mem_cons_self ..) (List.nodup_cons.2 ⟨hno, hone⟩)
    · have hj : es[j]? = some e0 := by simpa using k2
      have hsame : es.modify j (fun e => { e with key := kv k }) = es := by
        apply Array.ext'
        rw [Array.toList_modify]
        apply List.ext_getElem?
        intro i
        rw [List.getElem?_modify]
        by_cases hij : j = i
        · subst hij
          rw [k2]; simp; rw [← k3]
        · simp [hij]
      have hrun : (Instr.mapEntry t (.map (some b)) (kv k)).run P w = .ok (.tuple #[e0.val, .int .i64 (e0.born : Nat)]) (setBlock w b (.map es clock)) := by
        simp [Instr.mapEntry, run_underlying ht, MapKept.run_getObj_map hb, KD.check w false hk, k1, hj, k3, KD.stays w hk, hsame, MapKept.run_setObj_map _ hb, Result.andThen, setBlock, goInt]
      rw [e1] at hrun
      have q := Result.ok.inj hrun
      have hz' : vv u = e0.val := by have := q.1; simp at this; exact this.1
      have k5 := heap_setBlock_same hb (.map es1 clock1)
      rw [q.2, heap_setBlock_same hb] at k5
      cases k5
      have M : MapV P tk kv vv (setBlock w b (.map es clock)) b m := ⟨_, _, heap_setBlock_same hb _, F, h1, h2⟩
      obtain ⟨p, hp, p1, p2⟩ := h1 e0 (List.mem_of_getElem? k2)
      have p3 : p.1 = k := hi _ _ (p1.symm.trans k3)
      have := mapV_some KD ht hz hi false M hk (v := p.2) (by rw [← p3]; exact hp) hone
      rw [hz', p2]
      exact this
  have o1 : Only b w (setBlock w b (.map es1 clock1)) := Only.set hb
  have o2 : Only b (setBlock w b (.map es1 clock1)) (setBlock (setBlock w b (.map es1 clock1)) b (.map es' clock')) := Only.set hb1
  exact ⟨st, _, _, e1, look, r1, ⟨_, _, heap_setBlock_same hb1 _, s2, s3, s4⟩, o1, ⟨o2.os.trans o1.os, o2.tape.trans o1.tape, o2.out.trans o1.out, o2.size.trans o1.size, fun i hi => (o2.blk i hi).trans (o1.blk i hi)⟩⟩
end
def wkv (p : Nat × Nat) : Value := .agg #[.int .i64 (p.1 : Nat), .int .i64 (p.2 : Nat)]
theorem wkv_inj (a b : Nat × Nat) (h : wkv a = wkv b) : a = b := by
  obtain ⟨a1, a2⟩ := a
  obtain ⟨b1, b2⟩ := b
  simp [wkv] at h
  simp; omega
set_option maxRecDepth 100000 in
theorem wideW2 : (match Try.prog.underlying 94 with | some (.array _ _) | some (.struct _) => true | _ => false) = true := by rw [Try.underlying94]
set_option maxRecDepth 100000 in
theorem lawW2 : KeyLaw Try.prog 94 := deep_law_laid laidOutA (m := 2) (by omega) (of_decide_eq_true (by kernel_rfl)) (by kernel_rfl) wideW2
theorem keyedW2 : Keyed Try.prog 94 := Keyed.of_law lawW2
set_option maxRecDepth 100000 in
theorem key_w2 (p : Nat × Nat) (h1 : p.1 ≤ 262144) (h2 : p.2 ≤ 262144) : ∃ l, keyOf Try.prog 94 (wkv p) = some l := by
  have ht : DataW.Trod (fun _ => ()) Try.prog default 0 (fun _ => true) true 94 (wkv p) (.agg [.lit (.int .i64 (p.1 : Nat)), .lit (.int .i64 (p.2 : Nat))]) [] :=
    ⟨2, by simp [wkv, Value.cells, DataW.trod, Try.underlying94, Try.underlying3, show Try.prog.cellsOf 94 = 2 by kernel_rfl, show Try.prog.cellsOf 3 = 1 by kernel_rfl, List.range_succ, wf64 p.1 (by omega), wf64 p.2 (by omega)]⟩
  exact ⟨_, (keyOf_asKey (by kernel_rfl) wideW2 (by simp [wkv, Value.formed, Try.underlying94]; kernel_rfl) ht).1⟩
theorem few_pairs {ks : List (Nat × Nat)} {n : Nat} (hn : ks.Nodup) (h : ∀ x ∈ ks, x.1 < n ∧ x.2 < n) : ks.length ≤ n * n := by
  have inj : ∀ x ∈ ks, ∀ y ∈ ks, x.1 * n + x.2 = y.1 * n + y.2 → x = y := fun x hx y hy e => by
    obtain ⟨x1, x2⟩ := x
    obtain ⟨y1, y2⟩ := y
    have a := h _ hx
    have b := h _ hy
    simp only at a b e
    have e1 : x1 = y1 := by
      have c1 : (x1 * n + x2) / n = x1 := by rw [Nat.mul_comm, Nat.mul_add_div (by omega), Nat.div_eq_of_lt a.2, Nat.add_zero]
      have c2 : (y1 * n + y2) / n = y1 := by rw [Nat.mul_comm, Nat.mul_add_div (by omega), Nat.div_eq_of_lt b.2, Nat.add_zero]
      rw [← c1, ← c2, e]
    subst e1
    simp; omega
  have nd : (ks.map (fun x => x.1 * n + x.2)).Nodup := by
    clear h
    induction ks with
    | nil => exact List.nodup_nil
    | cons q r ih =>
      obtain ⟨n1, n2⟩ := List.nodup_cons.1 hn
      refine List.nodup_cons.2 ⟨fun e => ?_, ih n2 (fun x hx y hy => inj x (List.mem_cons_of_mem _ hx) y (List.mem_cons_of_mem _ hy))⟩
      obtain ⟨x, hx, e⟩ := List.mem_map.1 e
      have := inj x (List.mem_cons_of_mem _ hx) q (List.mem_cons_self ..) e
      subst this
      exact n1 hx
  have := nodup_sub _ (List.range (n * n)) nd (fun v hv => by
    obtain ⟨x, hx, rfl⟩ := List.mem_map.1 hv
    have a := h x hx
    rw [List.mem_range]
    have : (x.1 + 1) * n ≤ n * n := Nat.mul_le_mul_right n a.1
    rw [Nat.add_mul] at this
    omega)
  rwa [List.length_map, List.length_range] at this
/-- What was met, how often: pairs. -/
structure VP (m : List ((Nat × Nat) × Nat)) (ks : List (Nat × Nat)) (c : Nat) : Prop where
  key : ∀ k, k ∈ m.map (·.1) ↔ k ∈ ks
  one : (m.map (·.1)).Nodup
  val : ∀ p ∈ m, 1 ≤ p.2 ∧ p.2 ≤ c
theorem VP.few {m : List ((Nat × Nat) × Nat)} {ks : List (Nat × Nat)} {c : Nat} (h : VP m ks c) : m.length ≤ ks.length := by
  have := nodup_sub _ ks h.one (fun k hk => (h.key k).1 hk)
  rwa [List.length_map] at this
def putP (m : List ((Nat × Nat) × Nat)) (f : Nat × Nat) (u : Nat) : List ((Nat × Nat) × Nat) := (f, u) :: m.filter (fun p => p.1 != f)
theorem putP_mem {m : List ((Nat × Nat) × Nat)} {f : Nat × Nat} {u : Nat} (p : (Nat × Nat) × Nat) : p ∈ putP m f u ↔ p = (f, u) ∨ (p ∈ m ∧ p.1 ≠ f) := by
  unfold putP; rw [List.mem_cons, List.mem_filter]; simp
theorem putP_one {m : List ((Nat × Nat) × Nat)} {f : Nat × Nat} {u : Nat} (h : (m.map (·.1)).Nodup) : ((putP m f u).map (·.1)).Nodup := by
  unfold putP
  rw [List.map_cons, List.nodup_cons]
  refine ⟨fun q => ?_, List.Pairwise.sublist (List.Sublist.map _ List.filter_sublist) h⟩
  obtain ⟨x, hx, e⟩ := List.mem_map.1 q
  have := (List.mem_filter.1 hx).2
  simp [e] at this
theorem VP.put {m : List ((Nat × Nat) × Nat)} {ks ks' : List (Nat × Nat)} {c : Nat} (h : VP m ks c) (f : Nat × Nat) (u : Nat) (h1 : 1 ≤ u) (hu : u ≤ c + 1) (hk : ∀ k, k ∈ ks' ↔ k = f ∨ k ∈ ks) : VP (putP m f u) ks' (c + 1) := by
  refine ⟨fun k => ?_, putP_one h.one, fun p hp => ?_⟩
  · rw [hk, ← h.key, List.mem_map, List.mem_map]
    constructor
    · rintro ⟨p, hp, rfl⟩
      rcases (putP_mem p).1 hp with rfl | ⟨q, -⟩
      · exact Or.inl rfl
      · exact Or.inr ⟨p, q, rfl⟩
    · rintro (rfl | ⟨p, hp, rfl⟩)
      · exact ⟨(k, u), (putP_mem _).2 (Or.inl rfl), rfl⟩
      · by_cases e : p.1 = f
        · exact ⟨(f, u), (putP_mem _).2 (Or.inl rfl), e.symm⟩
        · exact ⟨p, (putP_mem _).2 (Or.inr ⟨hp, e⟩), rfl⟩
  · rcases (putP_mem p).1 hp with rfl | ⟨q, -⟩
    · exact ⟨h1, hu⟩
    · have := h.val p q; omega
def MetP (w : World) (db : Nat) (ks : List (Nat × Nat)) (c : Nat) : Prop := ∃ m, MapV Try.prog 94 wkv ikv w db m ∧ VP m ks c
theorem MetP.on {w w' : World} {db : Nat} {ks : List (Nat × Nat)} {c : Nat} (h : MetP w db ks c) (hb : Below w.heap.size w w') : MetP w' db ks c := by
  obtain ⟨m, h1, h2⟩ := h
  exact ⟨m, h1.on hb, h2⟩
end Go.Proofs.Yteiemcnjcdjglaa
