/- Texts joined, in their order: Kept, Blk, MG, PostB, Law, AR, At, Along, Along2, AlongT. -/
import Derived.Below
import Derived.Lib.Hide
import Derived.Laws.OwnMore
import Derived.Deep.RegionHeld3
import Derived.Deep.DeepCutAuto
import Derived.Maps.Own
import Derived.Maps.Range
import Derived.WideKeyEntry
import Derived.DeepKeys4
import Derived.MapViews
import Derived.Lib.SmallJoins
import Derived.ChangeSame
import Derived.Test.YtggcbklififcgabProg
import Derived.Carry
import Derived.ProofKit
import Derived.OpenShut
import Derived.Test.YtggcbklififcgabG6d25d1a07d
import Derived.Maps.AppendAt
import Derived.Calls
import Derived.Control
/- What was there stays, behind calls that turn nothing old. No program in sight. -/
namespace Go.Proofs.Ytggcbklififcgab
open Go.RowKit
set_option linter.unusedVariables false

theorem cell_lt {w : World} {b o : Nat} (h : (w.cell? ⟨b, o, none⟩).isSome = true) : b < w.heap.size := by
  rcases Nat.lt_or_ge b w.heap.size with hb | hb
  · exact hb
  · have e : w.heap[b]? = none := Array.getElem?_eq_none hb
    simp [World.cell?, e] at h
/-- What is there stays, behind a call that turns nothing old. -/
theorem bsome {W w1 : World} (hb : Below W.heap.size W w1) : (∀ b o, (W.cell? ⟨b, o, none⟩).isSome = true → w1.cell? ⟨b, o, none⟩ = W.cell? ⟨b, o, none⟩) ∧ (∀ b o, (W.cell? ⟨b, o, none⟩).isSome = true → w1.frozen? ⟨b, o, none⟩ = W.frozen? ⟨b, o, none⟩) :=
  ⟨fun b o h => hb.cell (p := ⟨b, o, none⟩) (cell_lt h), fun b o h => hb.frozen (p := ⟨b, o, none⟩) (cell_lt h)⟩
theorem below_kb {W w : World} (h : Below W.heap.size W w) : Below W.heap.size W w ∧ ∀ b o, (W.cell? ⟨b, o, none⟩).isSome = true → w.cell? ⟨b, o, none⟩ = W.cell? ⟨b, o, none⟩ := ⟨h, (bsome h).1⟩
theorem hinfo_parts {o : Option TypeInfo} {z : Option Value} {s b : Nat} (h : o.map (fun i => (i.zero, i.size, i.bytes)) = some (z, s, b)) : ∃ i, o = some i ∧ i.zero = z ∧ i.size = s ∧ i.bytes = b := by
  cases o with
  | none => cases h
  | some i => simp at h; exact ⟨i, rfl, h.1, h.2.1, h.2.2⟩
end Go.Proofs.Ytggcbklififcgab
/- Blocks by the list of their cells. No program in sight. -/
namespace Go.Proofs.Ytggcbklififcgab
open Go.RowKit
set_option linter.unusedVariables false

/-- Block b holds these cells, from its first on. -/
def Cel (w : World) (b : Nat) (cs : List Value) : Prop := ∀ i v, cs[i]? = some v → w.cell? ⟨b, i, none⟩ = some v
theorem Cel.on {w w' : World} {b : Nat} {cs : List Value} (h : Cel w b cs) (hb : Below w.heap.size w w') : Cel w' b cs := fun i v hv => by
  have e := h i v hv
  exact (hb.cell (p := ⟨b, i, none⟩) (cell_lt (o := i) (by rw [e]; rfl))).trans e
theorem Cel.far {w : World} {b : Nat} {cs : List Value} (h : Cel w b cs) (p : Addr) (y : Value) (hp : p.block ≠ b) : Cel (w.setCell p y) b cs := fun i v hv => by
  rw [World.cell?_setCell_far _ _ _ _ (by exact hp)]; exact h i v hv
theorem Cel.drew {w : World} {b : Nat} {cs : List Value} (h : Cel w b cs) : Cel w.drew b cs := h
/-- .. and is free to be written. -/
def Blk (w : World) (b : Nat) (cs : List Value) : Prop := Cel w b cs ∧ ∀ i v, cs[i]? = some v → w.frozen? ⟨b, i, none⟩ = false
theorem Blk.on {w w' : World} {b : Nat} {cs : List Value} (h : Blk w b cs) (hb : Below w.heap.size w w') : Blk w' b cs := ⟨h.1.on hb, fun i v hv => by
  have e := h.1 i v hv
  exact (hb.frozen (p := ⟨b, i, none⟩) (cell_lt (o := i) (by rw [e]; rfl))).trans (h.2 i v hv)⟩
theorem Blk.far {w : World} {b : Nat} {cs : List Value} (h : Blk w b cs) (p : Addr) (y : Value) (hp : p.block ≠ b) : Blk (w.setCell p y) b cs := ⟨h.1.far p y hp, fun i v hv => by simp [h.2 i v hv]⟩
theorem Blk.drew {w : World} {b : Nat} {cs : List Value} (h : Blk w b cs) : Blk w.drew b cs := h
theorem Blk.lt {w : World} {b : Nat} {c : Value} {cs : List Value} (h : Blk w b (c :: cs)) : b < w.heap.size := cell_lt (o := 0) (by rw [h.1 0 c rfl]; rfl)
theorem Blk.set {w : World} {b : Nat} {cs : List Value} (h : Blk w b cs) (j : Nat) (y : Value) (hj : j < cs.length) : Blk (w.setCell ⟨b, j, none⟩ y) b (cs.set j y) := by
  have hc := h.1 j cs[j] (List.getElem?_eq_getElem hj)
  refine ⟨fun i v hv => ?_, fun i v hv => ?_⟩
  · by_cases e : i = j
    · subst e
      rw [List.getElem?_set_self hj] at hv
      cases hv
      exact World.cell?_setCell_same _ _ _ hc
    · rw [List.getElem?_set_ne (fun q => e q.symm)] at hv
      rw [World.cell?_setCell_other _ _ _ _ (by simp <;> omega)]; exact h.1 i v hv
  · have : ∃ u, cs[i]? = some u := by
      by_cases e : i = j
      · subst e; exact ⟨_, List.getElem?_eq_getElem hj⟩
      · rw [List.getElem?_set_ne (fun q => e q.symm)] at hv; exact ⟨v, hv⟩
    obtain ⟨u, hu⟩ := this
    simp [h.2 i u hu]
theorem Blk.new (w : World) (t : TypeId) (cs : List Value) : Blk (w.alloc (Obj.cells cs.toArray t)) w.heap.size cs :=
  ⟨fun i v hv => by simp [go_sem, hv], fun i v hv => by simp [go_sem]⟩
/-- A goal at a world of which no more is wanted than some blocks and what lies below. -/
theorem at_b1 {Q : World → Prop} {W w : World} {n b : Nat} {cs : List Value} (h : Blk W b cs) (hb : Below n w W) (k : ∀ W, Blk W b cs → Below n w W → Q W) : Q W := k W h hb
theorem at_b2 {Q : World → Prop} {W w : World} {n b b' : Nat} {cs cs' : List Value} (h : Blk W b cs) (h' : Blk W b' cs') (hb : Below n w W) (k : ∀ W, Blk W b cs → Blk W b' cs' → Below n w W → Q W) : Q W := k W h h' hb
theorem at_p {Q : World → Prop} {W : World} {R : World → Prop} (h : R W) (k : ∀ W, R W → Q W) : Q W := k W h
end Go.Proofs.Ytggcbklififcgab
/- Maps with integer elements that a call made, by the list of what they hold; a world that is another but for one block. No program in sight. -/
namespace Go.Proofs.Ytggcbklififcgab
open Go.RowKit Go.Maps Go.MapKept Go.ChangeMaps Go.WideElems Go.Joins
open Go.WideMaps (KeyLaw)
set_option linter.unusedVariables false

theorem nodup_sub {α : Type} : ∀ (l r : List α), l.Nodup → (∀ x ∈ l, x ∈ r) → l.length ≤ r.length
  | [], r, _, _ => Nat.zero_le _
  | a :: l, r, hn, hs => by
    haveI : DecidableEq α := fun a b => Classical.propDecidable _
    obtain ⟨h1, h2⟩ := List.nodup_cons.1 hn
    have ha := hs a (List.mem_cons_self ..)
    have := nodup_sub l (r.erase a) h2 (fun x hx => by
      refine (List.mem_erase_of_ne (fun e : x = a => h1 (by rw [← e]; exact hx))).2 (hs x (List.mem_cons_of_mem _ hx)))
    rw [List.length_erase_of_mem ha] at this
    have := List.length_pos_of_mem ha
    simp only [List.length_cons]; omega
/-- w' is w but for block b. -/
structure Only (b : Nat) (w w' : World) : Prop where
  os : w'.os = w.os
  tape : w'.tape = w.tape
  out : w'.output = w.output
  size : w'.heap.size = w.heap.size
  blk : ∀ i, i ≠ b → w'.heap[i]? = w.heap[i]?
theorem Only.refl (b : Nat) (w : World) : Only b w w := ⟨rfl, rfl, rfl, rfl, fun _ _ => rfl⟩
theorem Only.set {w : World} {b : Nat} {es : Array MapEntry} {clock : Nat} {o' : Obj} (h : w.heap[b]? = some (.map es clock)) : Only b w (setBlock w b o') :=
  ⟨rfl, rfl, rfl, by simp [setBlock], fun i hi => heap_setBlock_other h _ (fun e => hi (by rw [e]))⟩
theorem Only.below {w w' W : World} {n b : Nat} (h : Only b w w') (hb : Below n W w) (hn : n ≤ b) : Below n W w' := by
  refine ⟨by rw [h.os]; exact hb.os, by rw [h.tape]; exact hb.tape, by rw [h.out]; exact hb.output, by rw [h.size]; exact hb.size, fun i hi => ?_⟩
  rw [h.blk i (by omega)]; exact hb.block i hi
theorem Only.cell {w w' : World} {b : Nat} {es : Array MapEntry} {clock : Nat} (h : Only b w w') (hb : w.heap[b]? = some (.map es clock)) (i o : Nat) (hc : (w.cell? ⟨i, o, none⟩).isSome = true) : w'.cell? ⟨i, o, none⟩ = w.cell? ⟨i, o, none⟩ := by
  have hi : i ≠ b := fun e => by subst e; simp [World.cell?, hb] at hc
  simp only [World.cell?, h.blk i hi]
section
variable {κ : Type} {P : Program} {tk te t : TypeId} {kv : κ → Value}
/-- Block b is a map of just these, each key once. -/
def MapG (P : Program) (tk te : TypeId) (kv : κ → Value) (w : World) (b : Nat) (m : List (κ × Nat)) : Prop :=
  ∃ es clock, w.heap[b]? = some (.map es clock) ∧ Fit (H := Unit) P tk (plainElem P te) es clock ∧ (∀ x ∈ es.toList, ∃ p ∈ m, x.key = kv p.1 ∧ x.val = .int .i64 (p.2 : Nat)) ∧ (∀ p ∈ m, ∃ x ∈ es.toList, x.key = kv p.1 ∧ x.val = .int .i64 (p.2 : Nat))
theorem MapG.lt {w : World} {b : Nat} {m : List (κ × Nat)} (h : MapG P tk te kv w b m) : b < w.heap.size := by
  obtain ⟨es, clock, h1, -⟩ := h
  rcases Nat.lt_or_ge b w.heap.size with q | q
  · exact q
  · rw [Array.getElem?_eq_none q] at h1; cases h1
theorem MapG.isMap {w : World} {b : Nat} {m : List (κ × Nat)} (h : MapG P tk te kv w b m) : ∃ es clock, w.heap[b]? = some (.map es clock) := by
  obtain ⟨es, clock, h1, -⟩ := h
  exact ⟨es, clock, h1⟩
theorem MapG.drew {w : World} {b : Nat} {m : List (κ × Nat)} (h : MapG P tk te kv w b m) : MapG P tk te kv w.drew b m := h
theorem MapG.same {w w' : World} {b : Nat} {m : List (κ × Nat)} (h : MapG P tk te kv w b m) (hb : w'.heap[b]? = w.heap[b]?) : MapG P tk te kv w' b m := by
  obtain ⟨es, clock, h1, h2⟩ := h
  exact ⟨es, clock, hb.trans h1, h2⟩
theorem MapG.perm {w : World} {b : Nat} {m m' : List (κ × Nat)} (h : MapG P tk te kv w b m) (hm : ∀ p, p ∈ m ↔ p ∈ m') : MapG P tk te kv w b m' := by
  obtain ⟨es, clock, h1, h2, h3, h4⟩ := h
  exact ⟨es, clock, h1, h2, fun x hx => by obtain ⟨p, hp, e⟩ := h3 x hx; exact ⟨p, (hm p).1 hp, e⟩, fun p hp => h4 p ((hm p).2 hp)⟩
theorem MapG.made (w : World) : MapG P tk te kv (w.alloc (.map #[] 0)) w.heap.size [] := by
  obtain ⟨es, clock, h1, h2, h3, h4⟩ := World.ownsMap_made (H := Unit) w P tk (plainElem P te)
  have h5 : es = #[] := by
    have k := (MapKept.heap_alloc w (.map #[] 0)).1
    rw [k] at h1; cases h1; rfl
  subst h5
  exact ⟨#[], clock, h1, h2, by simp, by simp⟩
theorem MapG.size {w : World} {b : Nat} {m : List (κ × Nat)} {es : Array MapEntry} {clock : Nat} (F : Fit (H := Unit) P tk (plainElem P te) es clock) (h : ∀ x ∈ es.toList, ∃ p ∈ m, x.key = kv p.1 ∧ x.val = .int .i64 (p.2 : Nat)) : es.size ≤ m.length := by
  have := nodup_sub (es.toList.map (·.key)) (m.map (fun p => kv p.1)) F.stamped.2.2 (fun v hv => by
    obtain ⟨x, hx, rfl⟩ := List.mem_map.1 hv
    obtain ⟨p, hp, e, -⟩ := h x hx
    exact List.mem_map.2 ⟨p, hp, e.symm⟩)
  simpa using this
theorem mapG_none (K : Keyed P tk) (ht : P.underlying t = some (.map tk te)) (hz : ∀ w, (zeroValue te).run P w = .ok (.int .i64 0) w) (hi : ∀ a b, kv a = kv b → a = b) (c : Bool) {w : World} {b : Nat} {m : List (κ × Nat)} (h : MapG P tk te kv w b m) {k : κ} {l : Lit} (hk : keyOf P tk (kv k) = some l) (hn : k ∉ m.map (·.1)) :
    (Instr.lookup t (.map (some b)) (kv k) c).run P w = .ok (if c then .tuple #[.int .i64 0, .bool false] else .int .i64 0) w := by
  obtain ⟨es, clock, hb, F, h1, h2⟩ := h
  rcases fit_look c K ht (hz w) hb F hk with ⟨hr, -⟩ | ⟨e0, y, hm, hk', -⟩
  · exact hr
  · obtain ⟨p, hp, e, -⟩ := h1 e0 hm
    exact absurd (List.mem_map.2 ⟨p, hp, hi _ _ (e.symm.trans hk')⟩) hn
theorem mapG_some (K : Keyed P tk) (ht : P.underlying t = some (.map tk te)) (hz : ∀ w, (zeroValue te).run P w = .ok (.int .i64 0) w) (hi : ∀ a b, kv a = kv b → a = b) (c : Bool) {w : World} {b : Nat} {m : List (κ × Nat)} (h : MapG P tk te kv w b m) {k : κ} {v : Nat} {l : Lit} (hk : keyOf P tk (kv k) = some l) (hm : (k, v) ∈ m) (hone : (m.map (·.1)).Nodup) :
    (Instr.lookup t (.map (some b)) (kv k) c).run P w = .ok (if c then .tuple #[.int .i64 v, .bool true] else .int .i64 v) w := by
  obtain ⟨es, clock, hb, F, h1, h2⟩ := h
  rcases fit_look c K ht (hz w) hb F hk with ⟨-, hn, -⟩ | ⟨e0, y, hme, hk', hr, -⟩
  · obtain ⟨x, hx, e, -⟩ := h2 _ hm
    exact absurd e (hn x hx)
  · obtain ⟨p, hp, e, ev⟩ := h1 e0 hme
    have e1 : p.1 = k := hi _ _ (e.symm.trans hk')
    have e2 : p.2 = v := by
      clear h1 h2 ht
      induction m with
      | nil => cases hp
      | cons q r ih =>
        obtain ⟨n1, n2⟩ := List.nodup_cons.1 hone
        rcases List.mem_cons.1 hp with hp1 | hp1
        · rcases List.mem_cons.1 hm with hm1 | hm1
          · rw [hp1, ← hm1]
          · exact absurd (List.mem_map.2 ⟨_, hm1, by show k = q.1; rw [← hp1, e1]⟩) n1
        · rcases List.mem_cons.1 hm with hm1 | hm1
          · exact absurd (List.mem_map.2 ⟨_, hp1, by show p.1 = q.1; rw [← hm1, e1]⟩) n1
          · exact ih hm1 n2 hp1
    rw [ev, e2] at hr
    exact hr
theorem mapG_store (K : Keyed P tk) (ht : P.underlying t = some (.map tk te)) (he : P.underlying te = some (.int .i64)) (hi : ∀ a b, kv a = kv b → a = b) {w : World} {b : Nat} {m : List (κ × Nat)} (h : MapG P tk te kv w b m) {k : κ} {v : Nat} {l : Lit} (hk : keyOf P tk (kv k) = some l) (hn : k ∉ m.map (·.1)) (hv : v ≤ 9223372036854775807) (hlen : m.length < maxLen) :
    ∃ w', (Instr.mapUpdate t (.map (some b)) (kv k) (.int .i64 v)).run P w = .ok () w' ∧ MapG P tk te kv w' b ((k, v) :: m) ∧ Only b w w' := by
  obtain ⟨es, clock, hb, F, h1, h2⟩ := h
  have hno : ∀ x ∈ es.toList, x.key ≠ kv k := fun x hx hk' => by
    obtain ⟨p, hp, e, -⟩ := h1 x hx
    exact hn (List.mem_map.2 ⟨p, hp, hi _ _ (e.symm.trans hk')⟩)
  have hfind : (Instr.findKey tk (kv k) es.toList).run P w = .ok none w := by
    rcases K.find w hk es.toList F.keys with ⟨k1, -⟩ | ⟨j, e0, -, k2, k3⟩
    · exact k1
    · exact absurd k3 (hno e0 (List.mem_of_getElem? k2))
  have hsz := MapG.size (w := w) (b := b) F h1
  obtain ⟨es', clock', hrun, F', -⟩ := fit_store (R' := plainElem P te) K ht hb F (by omega) (fun _ _ _ _ hz => hz) hk (plainElem_int (H := Unit) he (show (Lit.int .i64 (v : Int)).wf = true by rw [Lit.wf, Bool.and_eq_true, decide_eq_true_eq, decide_eq_true_eq, show IntKind.i64.min = -9223372036854775808 from rfl, show IntKind.i64.max = 9223372036854775807 from rfl]; omega))
  have hrun2 : (Instr.mapUpdate t (.map (some b)) (kv k) (.int .i64 v)).run P w = .ok () (setBlock w b (.map (es.push ⟨kv k, .int .i64 v, clock⟩) (clock + 1))) := by
    simp [Instr.mapUpdate, run_underlying ht, MapKept.run_getObj_map hb, K.check w false hk, hfind, MapKept.run_setObj_map _ hb, Result.andThen, setBlock]
  have heq : es' = es.push ⟨kv k, .int .i64 v, clock⟩ ∧ clock' = clock + 1 := by
    rw [hrun] at hrun2
    have q := (Result.ok.inj hrun2).2
    have k1 := heap_setBlock_same hb (.map es' clock')
    rw [q, heap_setBlock_same hb] at k1
    cases k1; exact ⟨rfl, rfl⟩
  obtain ⟨rfl, rfl⟩ := heq
  refine ⟨_, hrun, ⟨_, _, heap_setBlock_same hb _, F', fun x hx => ?_, fun p hp => ?_⟩, Only.set hb⟩
  · rw [Array.toList_push, List.mem_append, List.mem_singleton] at hx
    rcases hx with hx | rfl
    · obtain ⟨p, hp, e⟩ := h1 x hx
      exact ⟨p, List.mem_cons_of_mem _ hp, e⟩
    · exact ⟨(k, v), List.mem_cons_self .., rfl, rfl⟩
  · rcases List.mem_cons.1 hp with rfl | hp
    · exact ⟨⟨kv k, .int .i64 v, clock⟩, by simp, rfl, rfl⟩
    · obtain ⟨x, k1, k2⟩ := h2 p hp
      exact ⟨x, by simp [k1], k2⟩
theorem mapG_del (K : Keyed P tk) (ht : P.underlying t = some (.map tk te)) (hi : ∀ a b, kv a = kv b → a = b) {ty : TypeId} {w : World} {b : Nat} {m m' : List (κ × Nat)} (h : MapG P tk te kv w b m) {k : κ} {l : Lit} (hk : keyOf P tk (kv k) = some l) (hm : ∀ p, p ∈ m' ↔ p ∈ m ∧ p.1 ≠ k) :
    ∃ w', (Builtin.delete_ #[t, tk] ty #[.map (some b), kv k]).run P w = .ok (.tuple #[]) w' ∧ MapG P tk te kv w' b m' ∧ Only b w w' := by
  obtain ⟨es, clock, hb, F, h1, h2⟩ := h
  obtain ⟨es', hrun, F', -, -, -, hwho⟩ := fit_drop_who (ty := ty) K ht hb F hk
  refine ⟨_, hrun, ⟨_, _, heap_setBlock_same hb _, F', fun x hx => ?_, fun p hp => ?_⟩, Only.set hb⟩
  · obtain ⟨q1, q2⟩ := (hwho x).1 hx
    obtain ⟨p, hp, e⟩ := h1 x q1
    exact ⟨p, (hm p).2 ⟨hp, fun e1 => q2 (by rw [e.1, e1])⟩, e⟩
  · obtain ⟨q1, q2⟩ := (hm p).1 hp
    obtain ⟨x, k1, k2⟩ := h2 p q1
    exact ⟨x, (hwho x).2 ⟨k1, fun e1 => q2 (hi _ _ (k2.1.symm.trans e1))⟩, k2⟩
end
end Go.Proofs.Ytggcbklififcgab
/- From a walk that turns nothing old ('Below') to what a row asks behind the call: the results read, the arguments and the named variables read as they did. No program in sight. -/
namespace Go.Proofs.Ytggcbklififcgab
open Go.RowKit Go.WideShapes Go.ChangeShapes
theorem post_below {H : Type} {enc : TypeId × Value → H} {P : Program} {f : Func} {s : ChangeSpec} {b1 b2 b3 b4 : Bool} {W W' : World} {args : Array Value} {v : Value} {ds gs : List (DataW H)} {met pa pv : List MemPlace}
    (hW : DataW.Whole enc P f.params.toList s.vars b1 W args.toList ds gs met) (hm : met = pa ++ pv) (hb : Below W.heap.size W W')
    (rR : ∀ (b : Nat) (sp : Nat → Bool) (hd : Bool), DataW.TrodAll enc P W' b sp hd f.resultTypes.toList (v.resultList f.resultTypes.size) (s.fn H (ds ++ gs)).results [])
    (rA : ∀ sp : Nat → Bool, (∀ p ∈ met, sp p.block = true) → DataW.TrodAll enc P W' 0 sp true f.params.toList args.toList (s.fn H (ds ++ gs)).args pa)
    (rV : ∀ sp : Nat → Bool, (∀ p ∈ met, sp p.block = true) → DataW.TrodVars enc P W' sp s.vars (s.fn H (ds ++ gs)).vars pv)
    (ok : ∀ (j : Nat) (t : TypeId) (r : Value), f.resultTypes[j]? = some t → (v.resultList f.resultTypes.size)[j]? = some r → Value.okWide P W' .any 0 t r) :
    s.post enc P f b1 b2 b3 b4 W args v W' := by
  subst hm
  have low : ∀ p ∈ pa ++ pv, p.block < W.heap.size := hW.lt
  have lowB : ∀ p ∈ pa ++ pv, (fun b => decide (b < W.heap.size)) p.block = true := fun p hp => decide_eq_true (low p hp)
  have again : ∀ p ∈ pa ++ pv, (fun _ : Nat => true) p.block = true := fun _ _ => rfl
  have hN := hW
  obtain ⟨_, _, _, _, _, hz, hn⟩ := hN
  refine ⟨ds, gs, pa ++ pv, [], pa, pv, hW, rR _ _ _, rA _ lowB, rV _ lowB, World.keptBut_mono (fun p hp => ⟨hp, Or.inr (List.mem_append.1 hp)⟩) (hb.frame (· ∈ pa ++ pv)), fun _ => ⟨ok, _, _, ([] ++ pa) ++ pv, ⟨[] ++ pa, pv, trodAll_append (rA _ again) (rR _ _ _), rV _ again, rfl, fun b off hp => ?_, fun ha => ?_⟩, fun p hp _ => by simpa using hp⟩⟩
  · have hp' : MemPlace.cell b off ∈ pa ++ pv := by simpa using hp
    exact (hb.frozen (p := ⟨b, off, none⟩) (low _ hp')).trans (hz b off hp')
  · simpa using hn ha
end Go.Proofs.Ytggcbklififcgab
/- A law that answers true and turns nothing old: what its row asks behind the call, whatever its arguments are. -/
namespace Go.Proofs.Ytggcbklififcgab
open Go.ChangeShapes Go.WideShapes Go.ChangeAt Go.RowKit

theorem laidOutA : laidOutB Try.prog = true := by kernel_rfl
theorem trodAll_stays {H : Type} {enc : TypeId × Value → H} {P : Program} (hl : laidOutB P = true) {W W' : World} (hb : Below W.heap.size W W') {sp : Nat → Bool} :
    ∀ {ts : List TypeId} {vs : List Value} {ds : List (DataW H)} {ps : List MemPlace}, (∀ t ∈ ts, P.readableRec t = true ∧ t < P.types.size) → DataW.TrodAll enc P W 0 (fun _ => true) true ts vs ds ps →
      (∀ x ∈ ps, x.block < W.heap.size) → (∀ x ∈ ps, sp x.block = true) → DataW.TrodAll enc P W' 0 sp true ts vs ds ps
  | [], [], [], _, _, h, _, _ => h
  | t :: _, _ :: _, _ :: _, _, hT, ⟨p, q, h1, h2, e⟩, hlt, hs =>
    ⟨p, q, WideElems.Trod_stays hl (hT t (List.mem_cons.2 (Or.inl rfl))).1 (hT t (List.mem_cons.2 (Or.inl rfl))).2 h1 (fun x hx => hb.same (hlt x (by rw [e]; exact List.mem_append_left _ hx))) (fun x hx => hs x (by rw [e]; exact List.mem_append_left _ hx)),
      trodAll_stays hl hb (fun t ht => hT t (List.mem_cons.2 (Or.inr ht))) h2 (fun x hx => hlt x (by rw [e]; exact List.mem_append_right _ hx)) (fun x hx => hs x (by rw [e]; exact List.mem_append_right _ hx)), e⟩
set_option maxRecDepth 100000 in
theorem law_post {H : Type} {enc : TypeId × Value → H} {f : Func} {s : ChangeSpec} {W W' : World} {args : Array Value} {ds : List (DataW H)} {p : List MemPlace}
    (hf : f.resultTypes = #[4]) (hts : f.params.toList.all (fun t => Try.prog.readableRec t && decide (t < Try.prog.types.size)) = true)
    (hW : DataW.Whole enc Try.prog f.params.toList s.vars false W args.toList ds [] p) (hA : DataW.TrodAll enc Try.prog W 0 (fun _ => true) true f.params.toList args.toList ds p)
    (hvars : s.vars = []) (e1 : (s.fn H (ds ++ [])).results = [.lit (.bool true)]) (e2 : (s.fn H (ds ++ [])).args = ds) (e3 : (s.fn H (ds ++ [])).vars = []) (hb : Below W.heap.size W W') :
    s.post enc Try.prog f false true false false W args (.bool true) W' := by
  have low := hW.lt
  refine post_below (pa := p) (pv := []) hW (by simp) hb (fun _ _ _ => ?_) (fun sp hsp => ?_) (fun _ _ => ?_) ?_
  · rw [hf, e1]; exact trodAll_mk1 (shut_bool Try.underlying4 _)
  · rw [e2]
    refine trodAll_stays laidOutA hb (fun t ht => ?_) hA low hsp
    have := List.all_eq_true.1 hts t ht
    rw [Bool.and_eq_true, decide_eq_true_eq] at this
    exact this
  · rw [hvars, e3]; rfl
  · exact ok_one hf rfl (okWide_bool_mk Try.underlying4 _)
end Go.Proofs.Ytggcbklififcgab
/- How an arena lies in memory; what calls that turn it keep. -/
namespace Go.Proofs.Ytggcbklififcgab
open Go.RowKit Go.Maps Go.MapKept Go.ChangeMaps Go.WideElems Go.Joins
open Go.WideMaps (KeyLaw)
set_option linter.unusedVariables false

theorem bel_al {W w : World} (h : Below W.heap.size W w) (o : Obj) : Below W.heap.size W (w.alloc o) := h.alloc h.size o
theorem bel_on {W w w' : World} {n : Nat} (h : Below n W w) (hb : Below w.heap.size w w') (hn : n ≤ W.heap.size) : Below n W w' := h.trans (hb.mono (by have := h.size; omega))
theorem bel_on' {W w w' : World} (h : Below W.heap.size W w) (hb : Below w.heap.size w w') : Below W.heap.size W w' := bel_on h hb (Nat.le_refl _)
/-- What was there is there. -/
theorem bkeep {W w : World} (h : Below W.heap.size W w) : Below W.heap.size W w ∧ ∀ b o, (W.cell? ⟨b, o, none⟩).isSome = true → w.cell? ⟨b, o, none⟩ = W.cell? ⟨b, o, none⟩ :=
  ⟨h, fun b o hc => h.cell (p := ⟨b, o, none⟩) (cell_lt hc)⟩
theorem Blk.put3 {w : World} {b : Nat} {x y z : Value} (h : Blk w b [x, y, z]) (x' y' z' : Value) : Blk (((w.setCell ⟨b, 0, none⟩ x').setCell ⟨b, 1, none⟩ y').setCell ⟨b, 2, none⟩ z') b [x', y', z'] :=
  ((h.set 0 x' (by simp)).set 1 y' (by simp)).set 2 z' (by simp)
theorem Blk.far3 {w : World} {b c : Nat} {cs : List Value} (h : Blk w b cs) (hne : c ≠ b) (x' y' z' : Value) : Blk (((w.setCell ⟨c, 0, none⟩ x').setCell ⟨c, 1, none⟩ y').setCell ⟨c, 2, none⟩ z') b cs :=
  ((h.far _ _ hne).far _ _ hne).far _ _ hne
theorem bel_put3 {W w : World} {n c : Nat} (h : Below n W w) (hn : n ≤ c) (x' y' z' : Value) : Below n W (((w.setCell ⟨c, 0, none⟩ x').setCell ⟨c, 1, none⟩ y').setCell ⟨c, 2, none⟩ z') :=
  ((h.setCell hn _).setCell hn _).setCell hn _
/-- A node's cells, and its value. -/
def nc (n : Nd) : List Value := [.int .i64 (n.v : Nat), .int .i64 (n.l : Nat), .int .i64 (n.h : Nat)]
def nv (n : Nd) : Value := .agg #[.int .i64 (n.v : Nat), .int .i64 (n.l : Nat), .int .i64 (n.h : Nat)]
theorem nv_inj (a b : Nd) (h : nv a = nv b) : a = b := by
  obtain ⟨a1, a2, a3⟩ := a
  obtain ⟨b1, b2, b3⟩ := b
  simp [nv] at h
  simp; omega
theorem wf64 (a : Nat) (h : a ≤ 9223372036854775807) : (Lit.int .i64 (a : Int)).wf = true := by
  rw [Lit.wf, Bool.and_eq_true, decide_eq_true_eq, decide_eq_true_eq, show IntKind.i64.min = -9223372036854775808 from rfl, show IntKind.i64.max = 9223372036854775807 from rfl]; omega
set_option maxRecDepth 100000 in
theorem wideNode : (match Try.prog.underlying 72 with | some (.array _ _) | some (.struct _) => true | _ => false) = true := by rw [Try.underlying72]
set_option maxRecDepth 100000 in
theorem lawNode : KeyLaw Try.prog 72 := deep_law_laid laidOutA (m := 2) (by omega) (of_decide_eq_true (by kernel_rfl)) (by kernel_rfl) wideNode
theorem keyedNode : Keyed Try.prog 72 := Keyed.of_law lawNode
set_option maxRecDepth 100000 in
theorem zeroInt (w : World) : (zeroValue 3).run Try.prog w = .ok (.int .i64 0) w := by kernel_rfl
/-- A node's numbers are of their type. -/
def Nd.Ok (n : Nd) : Prop := n.v ≤ 9223372036854775807 ∧ n.l ≤ 9223372036854775807 ∧ n.h ≤ 9223372036854775807
set_option maxRecDepth 100000 in
theorem key_node (n : Nd) (h : n.Ok) : ∃ l, keyOf Try.prog 72 (nv n) = some l := by
  have ht : DataW.Trod (fun _ => ()) Try.prog default 0 (fun _ => true) true 72 (nv n) _ _ := shut_agg3 (y0 := (.lit (.int .i64 (n.v : Nat)), [])) (y1 := (.lit (.int .i64 (n.l : Nat)), [])) (y2 := (.lit (.int .i64 (n.h : Nat)), [])) Try.underlying72 (by kernel_rfl) (by kernel_rfl) ⟨1, by simp [DataW.trod, Try.underlying3, wf64 _ h.1]⟩ ⟨1, by simp [DataW.trod, Try.underlying3, wf64 _ h.2.1]⟩ ⟨1, by simp [DataW.trod, Try.underlying3, wf64 _ h.2.2]⟩
  exact ⟨_, (keyOf_asKey (by kernel_rfl) wideNode (by simp [nv, Value.formed, Try.underlying72]; kernel_rfl) ht).1⟩
set_option maxRecDepth 100000 in
theorem infoNode : (Try.prog.info? 72).map (fun i => (i.zero, i.size, i.bytes)) = some (some (.agg #[.int .i64 0, .int .i64 0, .int .i64 0]), 3, 24) := by kernel_rfl
/-- What the map of numbers holds. -/
def numL (ns : List Nd) : List (Nd × Nat) := ns.zipIdx.drop 2
theorem mem_numL {ns : List Nd} {n : Nd} {f : Nat} : (n, f) ∈ numL ns ↔ 2 ≤ f ∧ ns[f]? = some n := by
  unfold numL
  constructor
  · intro h
    obtain ⟨i, hi⟩ := List.getElem?_of_mem h
    rw [List.getElem?_drop, List.getElem?_zipIdx] at hi
    cases hg : ns[2 + i]? with
    | none => rw [hg] at hi; cases hi
    | some m => rw [hg] at hi; simp at hi; obtain ⟨rfl, rfl⟩ := hi; exact ⟨by omega, hg⟩
  · rintro ⟨h2, hf⟩
    refine List.mem_of_getElem? (i := f - 2) ?_
    rw [List.getElem?_drop, List.getElem?_zipIdx, show 2 + (f - 2) = f by omega, hf]
    simp
theorem numL_len (ns : List Nd) : (numL ns).length ≤ ns.length := by unfold numL; simp
theorem numL_one {ns : List Nd} (h : WF ns) : ((numL ns).map (·.1)).Nodup := by
  have hn : ns.Nodup := by
    unfold List.Nodup
    rw [List.pairwise_iff_getElem]
    intro i j hi hj hij e
    have := h.inj i j ns[i] (List.getElem?_eq_getElem hi) (by rw [e]; exact List.getElem?_eq_getElem hj)
    omega
  unfold numL
  rw [List.map_drop]
  have e : ns.zipIdx.map (·.1) = ns := by simp
  rw [e]
  exact List.Pairwise.sublist (List.drop_sublist _ _) hn
/-- w' is w but for some blocks, and what is new. -/
structure Keep (S : Nat → Prop) (w w' : World) : Prop where
  os : w'.os = w.os
  tape : w'.tape = w.tape
  output : w'.output = w.output
  size : w.heap.size ≤ w'.heap.size
  block : ∀ k, k < w.heap.size → ¬ S k → w'.heap[k]? = w.heap[k]?
theorem Keep.refl (S : Nat → Prop) (w : World) : Keep S w w := ⟨rfl, rfl, rfl, Nat.le_refl _, fun _ _ _ => rfl⟩
theorem Keep.trans {S S' : Nat → Prop} {a b c : World} (h : Keep S a b) (k : Keep S' b c) (hs : ∀ i, i < a.heap.size → S' i → S i) : Keep S a c :=
  ⟨k.os.trans h.os, k.tape.trans h.tape, k.output.trans h.output, Nat.le_trans h.size k.size, fun i hi hn => (k.block i (Nat.lt_of_lt_of_le hi h.size) (fun q => hn (hs i hi q))).trans (h.block i hi hn)⟩
theorem Keep.of {S : Nat → Prop} {w w' : World} (h : Below w.heap.size w w') : Keep S w w' := ⟨h.os, h.tape, h.output, h.size, fun k hk _ => h.block k hk⟩
theorem Keep.below {S : Nat → Prop} {w w' : World} (h : Keep S w w') {n : Nat} (hn : n ≤ w.heap.size) (hs : ∀ k, k < n → ¬ S k) : Below n w w' := ⟨h.os, h.tape, h.output, h.size, fun k hk => h.block k (by omega) (hs k hk)⟩
theorem Keep.only {S : Nat → Prop} {a b c : World} {x : Nat} (h : Keep S a b) (k : Only x b c) (hs : x < a.heap.size → S x) : Keep S a c :=
  ⟨k.os.trans h.os, k.tape.trans h.tape, k.out.trans h.output, by rw [k.size]; exact h.size, fun i hi hn => (k.blk i (fun e => hn (by subst e; exact hs hi))).trans (h.block i hi hn)⟩
theorem Keep.set {S : Nat → Prop} {a b : World} (h : Keep S a b) (p : Addr) (u : Value) (hs : p.block < a.heap.size → S p.block) : Keep S a (b.setCell p u) :=
  h.trans (S' := fun i => i = p.block) ⟨rfl, rfl, rfl, by simp [World.setCell], fun k hk hn => Below.heap_setCell _ _ _ _ hn⟩ (fun i hi e => by subst e; exact hs hi)
theorem Keep.grown {S : Nat → Prop} {a b c : World} {row : Option Nat} (h : Keep S a b) (hg : b.grownBy c row) (hs : ∀ k, row = some k → k < a.heap.size → S k) : Keep S a c :=
  h.trans (S' := fun i => row = some i) ⟨hg.os, hg.tape, hg.output, hg.size, fun k hk hn => hg.block k hk (fun e => hn e.symm)⟩ (fun i hi e => hs i e hi)
theorem Keep.drew {S : Nat → Prop} {a b : World} (h : Keep S a b) : Keep S a b.drew := ⟨h.os, h.tape, h.output, h.size, h.block⟩
theorem Keep.al {S : Nat → Prop} {a b : World} (h : Keep S a b) (o : Obj) : Keep S a (b.alloc o) := h.trans (S' := fun _ => False) (Keep.of (bel_al (Below.refl _ _) _)) (fun _ _ q => q.elim)
theorem Keep.mono {S S' : Nat → Prop} {w w' : World} (h : Keep S w w') (hs : ∀ i, i < w.heap.size → S i → S' i) : Keep S' w w' := ⟨h.os, h.tape, h.output, h.size, fun k hk hn => h.block k hk (fun q => hn (hs k hk q))⟩
theorem Keep.blk {S : Nat → Prop} {w w' : World} {b : Nat} {c : Value} {cs : List Value} (h : Keep S w w') (hb : Blk w b (c :: cs)) (hs : ¬ S b) : Blk w' b (c :: cs) := by
  have e := h.block b hb.lt hs
  exact ⟨fun i v hv => (World.cell?_of_block (w := w) (a := ⟨b, i, none⟩) e).trans (hb.1 i v hv), fun i v hv => (World.frozen?_of_block (w := w) (a := ⟨b, i, none⟩) e).trans (hb.2 i v hv)⟩
/-- Where an arena lies: itself, its nodes, its numbers; how many nodes there is room for without a move. -/
structure AL where
  p : Nat
  q : Nat
  m : Nat
  cap : Nat
def AL.has (a : AL) (k : Nat) : Prop := k = a.p ∨ k = a.q ∨ k = a.m
def AL.ns (a : AL) (n : Nat) : Value := .slice (some ⟨a.q, 0, none⟩) n a.cap
def AL.cells (a : AL) (most n : Nat) : List Value := [.int .i64 (most : Nat), .slice (some ⟨a.q, 0, none⟩) n a.cap, .map (some a.m)]
/-- An arena of these nodes lies there. -/
structure Ar (w : World) (a : AL) (most : Nat) (ns : List Nd) : Prop where
  s : Blk w a.p (a.cells most ns.length)
  o : w.ownsRow 0 72 3 (.slice (some ⟨a.q, 0, none⟩) ns.length a.cap) ns.length (ns.flatMap nc)
  m : MapG Try.prog 72 3 nv w a.m (numL ns)
  len : ns.length ≤ 262144
  most : most ≤ 262144
  pq : a.p ≠ a.q
theorem Ar.row {w : World} {a : AL} {most : Nat} {ns : List Nd} (h : Ar w a most ns) : ∃ cur, w.heap[a.q]? = some (.cells cur 72 (0, 0)) ∧ ns.length ≤ a.cap ∧ a.cap ≤ maxLen ∧ cur.size = a.cap * 3 ∧ cur.toList.take (ns.length * 3) = ns.flatMap nc := by
  rcases h.o.2 with ⟨e, -⟩ | ⟨g, cap, cur, e, -, h1, h2, h3, h4, h5⟩
  · cases e
  · cases e; exact ⟨cur, h1, h2, h3, h4, h5⟩
theorem Ar.ql {w : World} {a : AL} {most : Nat} {ns : List Nd} (h : Ar w a most ns) : a.q < w.heap.size := by
  obtain ⟨cur, h1, -⟩ := h.row
  rcases Nat.lt_or_ge a.q w.heap.size with q | q
  · exact q
  · rw [Array.getElem?_eq_none q] at h1; cases h1
theorem Ar.pl {w : World} {a : AL} {most : Nat} {ns : List Nd} (h : Ar w a most ns) : a.p < w.heap.size := h.s.lt
theorem Ar.ml {w : World} {a : AL} {most : Nat} {ns : List Nd} (h : Ar w a most ns) : a.m < w.heap.size := h.m.lt
theorem Ar.qm {w : World} {a : AL} {most : Nat} {ns : List Nd} (h : Ar w a most ns) : a.q ≠ a.m := by
  obtain ⟨cur, h1, -⟩ := h.row
  obtain ⟨es, clock, h2⟩ := h.m.isMap
  intro e; rw [e, h2] at h1; cases h1
theorem Ar.pm {w : World} {a : AL} {most : Nat} {ns : List Nd} (h : Ar w a most ns) : a.p ≠ a.m := by
  obtain ⟨es, clock, h2⟩ := h.m.isMap
  intro e
  have := h.s.1 0 _ rfl
  rw [e] at this
  simp [World.cell?, h2] at this
theorem flat_len (ns : List Nd) : (ns.flatMap nc).length = ns.length * 3 := by
  induction ns with
  | nil => rfl
  | cons n r ih => rw [List.flatMap_cons, List.length_append, ih, List.length_cons]; show 3 + _ = _; omega
theorem flat_at : ∀ (ns : List Nd) (f j : Nat) (n : Nd) (v : Value), ns[f]? = some n → (nc n)[j]? = some v → (ns.flatMap nc)[f * 3 + j]? = some v
  | [], f, j, n, v, hf, hv => by simp at hf
  | x :: r, 0, j, n, v, hf, hv => by
    simp at hf; subst hf
    have : j < 3 := lt_of_get hv
    rw [List.flatMap_cons, Nat.zero_mul, Nat.zero_add, List.getElem?_append_left (by exact this)]; exact hv
  | x :: r, f + 1, j, n, v, hf, hv => by
    have hx : (nc x).length = 3 := rfl
    rw [List.flatMap_cons, List.getElem?_append_right (by rw [hx]; omega), hx, show (f + 1) * 3 + j - 3 = f * 3 + j by omega]
    exact flat_at r f j n v (by simpa using hf) hv
theorem flat_take : ∀ (ns : List Nd) (d : Nat), (ns.flatMap nc).take (d * 3) = (ns.take d).flatMap nc
  | [], d => by simp
  | x :: r, 0 => by simp
  | x :: r, d + 1 => by
    have hx : (nc x).length = 3 := rfl
    rw [List.flatMap_cons, List.take_succ_cons, List.flatMap_cons, List.take_append, hx, List.take_of_length_le (by rw [hx]; omega), show (d + 1) * 3 - 3 = d * 3 by omega, flat_take r d]
/-- A node's cells. -/
theorem Ar.node {w : World} {a : AL} {most : Nat} {ns : List Nd} (h : Ar w a most ns) {f : Nat} (hf : f < ns.length) {j : Nat} {v : Value} (hv : (nc (ns.getD f bot))[j]? = some v) : w.cell? ⟨a.q, f * 3 + j, none⟩ = some v := by
  have e := flat_at ns f j _ v (get_of_lt hf) hv
  have := h.o.cells (g := a.q) rfl (f * 3 + j) v e
  unfold Addr.add at this
  split at this
  · rename_i q
    rw [q]; exact this
  · simpa using this
/-- What else lies there stays. -/
theorem Ar.keep {S : Nat → Prop} {w w' : World} {a : AL} {most : Nat} {ns : List Nd} (h : Ar w a most ns) (k : Keep S w w') (hs : ∀ i, a.has i → ¬ S i) : Ar w' a most ns := by
  refine ⟨k.blk h.s (hs _ (Or.inl rfl)), ?_, h.m.same (k.block _ h.ml (hs _ (Or.inr (Or.inr rfl)))), h.len, h.most, h.pq⟩
  obtain ⟨cur, h1, h2, h3, h4, h5⟩ := h.row
  exact ⟨h.o.1, Or.inr ⟨a.q, a.cap, cur, rfl, Nat.zero_le _, (k.block _ h.ql (hs _ (Or.inr (Or.inl rfl)))).trans h1, h2, h3, h4, h5⟩⟩
theorem Ar.on {w w' : World} {a : AL} {most : Nat} {ns : List Nd} (h : Ar w a most ns) (hb : Below w.heap.size w w') : Ar w' a most ns := h.keep (S := fun _ => False) (Keep.of hb) (fun _ _ q => q)
/-- Where it lies behind a call. -/
def Mv (w : World) (a a' : AL) : Prop := a'.p = a.p ∧ a'.m = a.m ∧ (a'.q = a.q ∨ w.heap.size ≤ a'.q)
theorem Mv.refl (w : World) (a : AL) : Mv w a a := ⟨rfl, rfl, Or.inl rfl⟩
theorem Mv.trans {w w' : World} {a b c : AL} (h : Mv w a b) (k : Mv w' b c) (hs : w.heap.size ≤ w'.heap.size) : Mv w a c :=
  ⟨k.1.trans h.1, k.2.1.trans h.2.1, by
    rcases k.2.2 with e | e
    · rw [e]; exact h.2.2
    · exact Or.inr (by omega)⟩
theorem Mv.has {w : World} {a a' : AL} (h : Mv w a a') {i : Nat} (hi : i < w.heap.size) (hh : a'.has i) : a.has i := by
  obtain ⟨h1, h2, h3⟩ := h
  rcases hh with e | e | e
  · exact Or.inl (by omega)
  · rcases h3 with q | q
    · exact Or.inr (Or.inl (by omega))
    · omega
  · exact Or.inr (Or.inr (by omega))
/-- What a call that may turn the arena, and the blocks X, leaves. -/
structure Tr (X : Nat → Prop) (w : World) (a : AL) (w' : World) (a' : AL) : Prop where
  k : Keep (fun i => a.has i ∨ X i) w w'
  m : Mv w a a'
theorem Tr.refl (X : Nat → Prop) (w : World) (a : AL) : Tr X w a w a := ⟨Keep.refl _ _, Mv.refl _ _⟩
theorem Tr.trans {X : Nat → Prop} {w w' w'' : World} {a b c : AL} (h : Tr X w a w' b) (k : Tr X w' b w'' c) : Tr X w a w'' c :=
  ⟨h.k.trans k.k (fun i hi q => q.imp (fun r => h.m.has hi r) id), h.m.trans k.m h.k.size⟩
theorem Tr.below {X : Nat → Prop} {w w' w'' : World} {a b : AL} (h : Tr X w a w' b) (k : Below w'.heap.size w' w'') : Tr X w a w'' b :=
  ⟨h.k.trans (S' := fun _ => False) (Keep.of k) (fun _ _ q => q.elim), h.m⟩
theorem Tr.ahead {X : Nat → Prop} {w w' w'' : World} {a b : AL} (k : Below w.heap.size w w') (h : Tr X w' a w'' b) : Tr X w a w'' b :=
  ⟨(Keep.of k).trans h.k (fun i hi q => q), ⟨h.m.1, h.m.2.1, by
    rcases h.m.2.2 with e | e
    · exact Or.inl e
    · exact Or.inr (by have := k.size; omega)⟩⟩
/-- A block beside the arena. -/
def Off (X : Nat → Prop) (a : AL) (b : Nat) : Prop := b ≠ a.p ∧ b ≠ a.q ∧ b ≠ a.m ∧ ¬ X b
theorem Off.not {X : Nat → Prop} {a : AL} {b : Nat} (h : Off X a b) : ¬ (a.has b ∨ X b) := by
  rintro ((e | e | e) | e)
  · exact h.1 e
  · exact h.2.1 e
  · exact h.2.2.1 e
  · exact h.2.2.2 e
theorem Off.on {X : Nat → Prop} {w w' : World} {a a' : AL} {b : Nat} (h : Off X a b) (t : Tr X w a w' a') (hb : b < w.heap.size) : Off X a' b := by
  obtain ⟨h1, h2, h3, h4⟩ := h
  obtain ⟨t1, t2, t3⟩ := t.m
  refine ⟨by omega, ?_, by omega, h4⟩
  rcases t3 with e | e <;> omega
theorem Blk.tr {X : Nat → Prop} {w w' : World} {a a' : AL} {b : Nat} {c : Value} {cs : List Value} (h : Blk w b (c :: cs)) (t : Tr X w a w' a') (hb : Off X a b) : Blk w' b (c :: cs) := t.k.blk h hb.not
end Go.Proofs.Ytggcbklififcgab
/- A goal of a walk at a world of which no more is wanted than what is said of it. No program in sight. -/
namespace Go.Proofs.Ytggcbklififcgab
open Go.RowKit

theorem at_body {P : Program} {fn : Func} {R : Ending → World → Prop} {e : Exit} {a : Act} {W w : World} {n b : Nat} {cs : List Value} (h : Blk W b cs) (hb : Below n w W)
    (k : ∀ W, Blk W b cs → Below n w W → bodyPost P fn R e a W) : bodyPost P fn R e a W := k W h hb
theorem at_bodyR {P : Program} {fn : Func} {R : Ending → World → Prop} {e : Exit} {a : Act} {W : World} {S : World → Prop} (h : S W) (k : ∀ W, S W → bodyPost P fn R e a W) : bodyPost P fn R e a W := k W h
theorem at_code {P : Program} {c : Code} {Q : Exit → Act → World → Prop} {a : Act} {W : World} {S : World → Prop} (h : S W) (k : ∀ W, S W → Code.wp P c Q a W) : Code.wp P c Q a W := k W h
end Go.Proofs.Ytggcbklififcgab
/- A region that draws its order, walked along ONE order that is named: what only reads under a condition S on the world may be taken as soon as it is ready; what turns the world must be the only one that is ready. The order is held against the region's edges by closed checks, each a lemma of its own (so that the kernel gives its memory back). No program in sight. -/
namespace Go
section
variable {P : Program} {ops : Array Oper} {Q : Exit → Act → World → Prop} {md : Region.Mode} {S : World → Prop}

/-- Steps: number, whether it only reads, the operation itself. -/
def along (P : Program) (ops : Array Oper) (Q : Exit → Act → World → Prop) (S : World → Prop) : List (Nat × Bool × Oper) → Act → World → Prop
  | [], a, w => Q .normal a w
  | (_, true, o) :: r, a, w => ∃ v, YieldsIf P ops S o v a ∧ along P ops Q S r (a.put o.dst v) w
  | (_, false, o) :: r, a, w => ∀ K' : Act → World → Prop, Shut (∀ a w, S w → (S w → along P ops Q S r a w) → K' a w) → if Region.wanted o (yielded ops a.tmps) = true then Oper.wp P o a w K' Q else K' (a.put o.dst undef) w

/-- One step is as the region's edges want it, where those in 'listed' are done. -/
def alongStep (md : Region.Mode) (ops : Array Oper) (listed : Array Bool) (i : Nat) (b : Bool) : Bool :=
  if b then Region.free md ops listed i && (Region.ready md ops listed).contains i else Region.ready md ops listed == [i]
/-- So many steps are. -/
def alongPre (md : Region.Mode) (ops : Array Oper) : List (Nat × Bool) → Array Bool → Bool
  | [], _ => true
  | (i, b) :: r, listed => alongStep md ops listed i b && alongPre md ops r (listed.setIfInBounds i true)
/-- What is done behind so many. -/
def alongDone : List (Nat × Bool) → Array Bool → Array Bool
  | [], listed => listed
  | (i, _) :: r, listed => alongDone r (listed.setIfInBounds i true)
def alongOps (ops : Array Oper) : List (Nat × Bool × Oper) → Prop
  | [] => True
  | (i, _, o) :: r => ops[i]? = some o ∧ alongOps ops r
theorem alongPre_append (p q : List (Nat × Bool)) : ∀ listed, alongPre md ops p listed = true → alongPre md ops q (alongDone p listed) = true → alongPre md ops (p ++ q) listed = true := by
  induction p with
  | nil => intro listed _ h; exact h
  | cons x r ih =>
    obtain ⟨i, b⟩ := x
    intro listed h1 h2
    simp only [alongPre, Bool.and_eq_true] at h1
    show (alongStep md ops listed i b && alongPre md ops (r ++ q) (listed.setIfInBounds i true)) = true
    rw [Bool.and_eq_true]
    exact ⟨h1.1, ih _ h1.2 h2⟩

theorem along_sound (hs : Region.noSelect ops = true) (hQ : ∀ c a d v w, Q (.panic c) (Act.put a d v) w → Q (.panic c) a w) :
    ∀ (steps : List (Nat × Bool × Oper)) (listed : Array Bool) (a : Act) (w : World), alongOps ops steps → alongPre md ops (steps.map fun s => (s.1, s.2.1)) listed = true →
      Region.ready md ops (alongDone (steps.map fun s => (s.1, s.2.1)) listed) = [] → S w → along P ops Q S steps a w → wpAnyH P md ops Q S steps.length listed a w := by
  intro steps
  induction steps with
  | nil => intro listed a w _ _ hr _ h; exact wpAnyH_done hr h 0
  | cons s r ih =>
    obtain ⟨i, b, o⟩ := s
    intro listed a w ho hp hr hS h
    obtain ⟨hi, ho⟩ := ho
    simp only [List.map_cons, alongPre, Bool.and_eq_true] at hp
    obtain ⟨h1, h2⟩ := hp
    cases b with
    | true =>
      obtain ⟨v, hy, h⟩ := h
      simp only [alongStep, if_true, Bool.and_eq_true] at h1
      exact wpAnyH_take hi hs h1.1 h1.2 (fun c a w => hQ c a _ v w) hy hS (ih _ _ _ ho h2 hr hS h)
    | false =>
      simp only [alongStep, Bool.false_eq_true, if_false, beq_iff_eq] at h1
      refine wpAnyH_ready h1 (by simp) ?_
      refine AllReadyH.cons hi (fun K' hK => ?_) AllReadyH.nil
      refine h K' ?_
      intro a' w' hS' hA
      exact hK.out a' w' hS' (fun hS'' => ih _ _ _ ho h2 hr hS'' (hA hS''))

theorem along_pure {i : Nat} {o : Oper} {r : List (Nat × Bool × Oper)} {a : Act} {w : World} (v : Value) (hw : Region.wanted o (yielded ops a.tmps) = true) (hy : ∀ w, S w → (execOp a.eval o).run P w = .ok (.value v) w)
    (h : along P ops Q S r (a.put o.dst v) w) : along P ops Q S ((i, true, o) :: r) a w := ⟨v, Or.inl ⟨hw, hy⟩, h⟩
theorem along_bar {i : Nat} {o : Oper} {r : List (Nat × Bool × Oper)} {a : Act} {w : World}
    (h : ∀ K' : Act → World → Prop, Shut (∀ a w, S w → (S w → along P ops Q S r a w) → K' a w) → if Region.wanted o (yielded ops a.tmps) = true then Oper.wp P o a w K' Q else K' (a.put o.dst undef) w) :
    along P ops Q S ((i, false, o) :: r) a w := h
theorem along_end {a : Act} {w : World} (h : Q .normal a w) : along P ops Q S [] a w := h

/-- The operation at a place of a list. -/
def pickOp : List Oper → Nat → Oper
  | [], _ => { dst := none, op := .move (.tmp 0), type := 0, pos := "", after := #[], guard := none }
  | o :: _, 0 => o
  | _ :: r, n + 1 => pickOp r n
def stepsOf (ops : List Oper) : List (Nat × Bool) → List (Nat × Bool × Oper)
  | [] => []
  | (i, b) :: r => (i, b, pickOp ops i) :: stepsOf ops r
theorem stepsOf_map (ops : List Oper) (p : List (Nat × Bool)) : (stepsOf ops p).map (fun s => (s.1, s.2.1)) = p := by
  induction p with
  | nil => rfl
  | cons x r ih => obtain ⟨i, b⟩ := x; simp [stepsOf, ih]
theorem stepsOf_length (ops : List Oper) (p : List (Nat × Bool)) : (stepsOf ops p).length = p.length := by
  induction p with
  | nil => rfl
  | cons x r ih => obtain ⟨i, b⟩ := x; simp [stepsOf, ih]
theorem pickOp_get : ∀ (l : List Oper) (i : Nat), i < l.length → l.toArray[i]? = some (pickOp l i)
  | [], _, h => by simp at h
  | o :: _, 0, _ => by simp [pickOp]
  | _ :: r, n + 1, h => by
    have := pickOp_get r n (by simpa using h)
    simpa [pickOp] using this
theorem stepsOf_ops (l : List Oper) : ∀ (p : List (Nat × Bool)), (p.all fun x => decide (x.1 < l.length)) = true → alongOps l.toArray (stepsOf l p)
  | [], _ => trivial
  | (i, b) :: r, h => by
    simp only [List.all_cons, Bool.and_eq_true, decide_eq_true_eq] at h
    exact ⟨pickOp_get l i h.1, stepsOf_ops l r (by simpa using h.2)⟩

/-- A region that draws, walked along the order p. -/
theorem wp_region_along {id : Nat} {l : List Oper} {a : Act} {w : World} (p : List (Nat × Bool)) (hm : P.follows .mixedOrders = true) (hs : Region.noSelect l.toArray = true)
    (hin : (p.all fun x => decide (x.1 < l.length)) = true) (hlen : p.length = l.length) (hp : alongPre .any l.toArray p (Array.replicate l.length false) = true)
    (hr : Region.ready .any l.toArray (alongDone p (Array.replicate l.length false)) = []) (hQ : ∀ c a d v w, Q (.panic c) (Act.put a d v) w → Q (.panic c) a w)
    (hS : S w.drew) (h : S w.drew → along P l.toArray Q S (stepsOf l p) a w.drew) : (Code.region id l.toArray true).wp P Q a w := by
  refine wp_region_held (S := S) hm ?_
  have := along_sound (P := P) (Q := Q) (S := S) (md := .any) hs hQ (stepsOf l p) (Array.replicate l.length false) a w.drew (stepsOf_ops l p hin) (by rw [stepsOf_map]; exact hp) (by rw [stepsOf_map]; exact hr) hS (h hS)
  rw [stepsOf_length, hlen] at this
  simpa using this
end
end Go
/- Along, more: steps whose guard says no. No program in sight. -/
namespace Go
section
variable {P : Program} {ops : Array Oper} {Q : Exit → Act → World → Prop} {S : World → Prop}
/-- A step that only reads, and whose guard says no. -/
theorem along_skip {i : Nat} {o : Oper} {r : List (Nat × Bool × Oper)} {a : Act} {w : World} (hw : Region.wanted o (yielded ops a.tmps) = false)
    (h : along P ops Q S r (a.put o.dst undef) w) : along P ops Q S ((i, true, o) :: r) a w := ⟨undef, Or.inr ⟨hw, rfl⟩, h⟩
/-- A step that would turn the world, and whose guard says no. -/
theorem along_pass {i : Nat} {o : Oper} {r : List (Nat × Bool × Oper)} {a : Act} {w : World} (hw : Region.wanted o (yielded ops a.tmps) = false) (hS : S w)
    (h : along P ops Q S r (a.put o.dst undef) w) : along P ops Q S ((i, false, o) :: r) a w := by
  intro K' hK
  rw [if_neg (by rw [hw]; exact Bool.false_ne_true)]
  exact hK.out _ _ hS (fun _ => h)
end
end Go
/- A region that draws its order, walked along a TREE of orders: what only reads is taken as soon as it is ready; where several that turn the world are ready, each of them is gone on with. The tree is held against the region's edges by one closed check. No program in sight. -/
namespace Go
/-- A tree of orders, by the operations' numbers. -/
inductive ASk where
  | done
  | pure (i : Nat) (t : ASk)
  | b1 (i : Nat) (t : ASk)
  | b2 (i : Nat) (t : ASk) (j : Nat) (u : ASk)
  | b3 (i : Nat) (t : ASk) (j : Nat) (u : ASk) (k : Nat) (v : ASk)
def ASk.depth : ASk → Nat
  | .done => 0
  | .pure _ t => t.depth + 1
  | .b1 _ t => t.depth + 1
  | .b2 _ t _ u => max t.depth u.depth + 1
  | .b3 _ t _ u _ v => max t.depth (max u.depth v.depth) + 1
/-- The tree is as the region's edges want it, where those in 'd' are done; n: how many operations there are. -/
def ASk.pre (md : Region.Mode) (ops : Array Oper) (n : Nat) : ASk → Array Bool → Bool
  | .done, d => (Region.ready md ops d).isEmpty
  | .pure i t, d => decide (i < n) && Region.free md ops d i && (Region.ready md ops d).contains i && t.pre md ops n (d.setIfInBounds i true)
  | .b1 i t, d => decide (i < n) && (Region.ready md ops d == [i]) && t.pre md ops n (d.setIfInBounds i true)
  | .b2 i t j u, d => decide (i < n) && decide (j < n) && (Region.ready md ops d == [i, j]) && t.pre md ops n (d.setIfInBounds i true) && u.pre md ops n (d.setIfInBounds j true)
  | .b3 i t j u k v, d => decide (i < n) && decide (j < n) && decide (k < n) && (Region.ready md ops d == [i, j, k]) && t.pre md ops n (d.setIfInBounds i true) && u.pre md ops n (d.setIfInBounds j true) && v.pre md ops n (d.setIfInBounds k true)
section
variable {P : Program} {l : List Oper} {Q : Exit → Act → World → Prop} {S : World → Prop}
def tbar (P : Program) (l : List Oper) (Q : Exit → Act → World → Prop) (S : World → Prop) (T : Act → World → Prop) (o : Oper) (a : Act) (w : World) : Prop :=
  ∀ K' : Act → World → Prop, Shut (∀ a w, S w → (S w → T a w) → K' a w) → if Region.wanted o (yielded l.toArray a.tmps) = true then Oper.wp P o a w K' Q else K' (a.put o.dst undef) w
def alongT (P : Program) (l : List Oper) (Q : Exit → Act → World → Prop) (S : World → Prop) : ASk → Act → World → Prop
  | .done, a, w => Q .normal a w
  | .pure i t, a, w => ∃ v, YieldsIf P l.toArray S (pickOp l i) v a ∧ alongT P l Q S t (a.put (pickOp l i).dst v) w
  | .b1 i t, a, w => tbar P l Q S (alongT P l Q S t) (pickOp l i) a w
  | .b2 i t j u, a, w => tbar P l Q S (alongT P l Q S t) (pickOp l i) a w ∧ tbar P l Q S (alongT P l Q S u) (pickOp l j) a w
  | .b3 i t j u k v, a, w => tbar P l Q S (alongT P l Q S t) (pickOp l i) a w ∧ tbar P l Q S (alongT P l Q S u) (pickOp l j) a w ∧ tbar P l Q S (alongT P l Q S v) (pickOp l k) a w
theorem alongT_sound {md : Region.Mode} (hs : Region.noSelect l.toArray = true) (hQ : ∀ c a d v w, Q (.panic c) (Act.put a d v) w → Q (.panic c) a w) :
    ∀ (t : ASk) (fuel : Nat) (d : Array Bool) (a : Act) (w : World), t.depth ≤ fuel → t.pre md l.toArray l.length d = true → S w → alongT P l Q S t a w → wpAnyH P md l.toArray Q S fuel d a w := by
  intro t
  induction t with
  | done => intro fuel d a w _ hp _ h; exact wpAnyH_done (by simpa [ASk.pre] using hp) h fuel
  | pure i t ih =>
    intro fuel d a w hd hp hS h
    obtain ⟨fuel, rfl⟩ : ∃ f, fuel = f + 1 := ⟨fuel - 1, by simp only [ASk.depth] at hd; omega⟩
    simp only [ASk.pre, Bool.and_eq_true, decide_eq_true_eq] at hp
    obtain ⟨⟨⟨hi, h1⟩, h2⟩, h3⟩ := hp
    obtain ⟨v, hy, h⟩ := h
    exact wpAnyH_take (pickOp_get l i hi) hs h1 h2 (fun c a w => hQ c a _ v w) hy hS (ih _ _ _ _ (by simp only [ASk.depth] at hd; omega) h3 hS h)
  | b1 i t ih =>
    intro fuel d a w hd hp hS h
    obtain ⟨fuel, rfl⟩ : ∃ f, fuel = f + 1 := ⟨fuel - 1, by simp only [ASk.depth] at hd; omega⟩
    simp only [ASk.pre, Bool.and_eq_true, decide_eq_true_eq, beq_iff_eq] at hp
    obtain ⟨⟨hi, h1⟩, h3⟩ := hp
    simp only [ASk.depth] at hd
    refine wpAnyH_ready h1 (by simp) ?_
    refine AllReadyH.cons (pickOp_get l i hi) (fun K' hK => ?_) AllReadyH.nil
    exact h K' (fun a' w' hS' hA => hK.out a' w' hS' (fun hS'' => ih _ _ _ _ (by omega) h3 hS'' (hA hS'')))
  | b2 i t j u ih ih2 =>
    intro fuel d a w hd hp hS h
    obtain ⟨fuel, rfl⟩ : ∃ f, fuel = f + 1 := ⟨fuel - 1, by simp only [ASk.depth] at hd; omega⟩
    simp only [ASk.pre, Bool.and_eq_true, decide_eq_true_eq, beq_iff_eq] at hp
    obtain ⟨⟨⟨⟨hi, hj⟩, h1⟩, h3⟩, h4⟩ := hp
    simp only [ASk.depth] at hd
    obtain ⟨g1, g2⟩ := h
    refine wpAnyH_ready h1 (by simp) ?_
    refine AllReadyH.cons (pickOp_get l i hi) (fun K' hK => ?_) (AllReadyH.cons (pickOp_get l j hj) (fun K' hK => ?_) AllReadyH.nil)
    · exact g1 K' (fun a' w' hS' hA => hK.out a' w' hS' (fun hS'' => ih _ _ _ _ (by omega) h3 hS'' (hA hS'')))
    · exact g2 K' (fun a' w' hS' hA => hK.out a' w' hS' (fun hS'' => ih2 _ _ _ _ (by omega) h4 hS'' (hA hS'')))
  | b3 i t j u k v ih ih2 ih3 =>
    intro fuel d a w hd hp hS h
    obtain ⟨fuel, rfl⟩ : ∃ f, fuel = f + 1 := ⟨fuel - 1, by simp only [ASk.depth] at hd; omega⟩
    simp only [ASk.pre, Bool.and_eq_true, decide_eq_true_eq, beq_iff_eq] at hp
    obtain ⟨⟨⟨⟨⟨⟨hi, hj⟩, hk⟩, h1⟩, h3⟩, h4⟩, h5⟩ := hp
    simp only [ASk.depth] at hd
    obtain ⟨g1, g2, g3⟩ := h
    refine wpAnyH_ready h1 (by simp) ?_
    refine AllReadyH.cons (pickOp_get l i hi) (fun K' hK => ?_) (AllReadyH.cons (pickOp_get l j hj) (fun K' hK => ?_) (AllReadyH.cons (pickOp_get l k hk) (fun K' hK => ?_) AllReadyH.nil))
    · exact g1 K' (fun a' w' hS' hA => hK.out a' w' hS' (fun hS'' => ih _ _ _ _ (by omega) h3 hS'' (hA hS'')))
    · exact g2 K' (fun a' w' hS' hA => hK.out a' w' hS' (fun hS'' => ih2 _ _ _ _ (by omega) h4 hS'' (hA hS'')))
    · exact g3 K' (fun a' w' hS' hA => hK.out a' w' hS' (fun hS'' => ih3 _ _ _ _ (by omega) h5 hS'' (hA hS'')))
theorem T_done {a : Act} {w : World} (h : Q .normal a w) : alongT P l Q S .done a w := h
theorem T_pure {i : Nat} {t : ASk} {a : Act} {w : World} (v : Value) (hw : Region.wanted (pickOp l i) (yielded l.toArray a.tmps) = true) (hy : ∀ w, S w → (execOp a.eval (pickOp l i)).run P w = .ok (.value v) w)
    (h : alongT P l Q S t (a.put (pickOp l i).dst v) w) : alongT P l Q S (.pure i t) a w := ⟨v, Or.inl ⟨hw, hy⟩, h⟩
theorem T_b1 {i : Nat} {t : ASk} {a : Act} {w : World} (h : ∀ K' : Act → World → Prop, Shut (∀ a w, S w → (S w → alongT P l Q S t a w) → K' a w) → if Region.wanted (pickOp l i) (yielded l.toArray a.tmps) = true then Oper.wp P (pickOp l i) a w K' Q else K' (a.put (pickOp l i).dst undef) w) :
    alongT P l Q S (.b1 i t) a w := h
theorem T_b2 {i j : Nat} {t u : ASk} {a : Act} {w : World} (h : ∀ K' : Act → World → Prop, Shut (∀ a w, S w → (S w → alongT P l Q S t a w) → K' a w) → if Region.wanted (pickOp l i) (yielded l.toArray a.tmps) = true then Oper.wp P (pickOp l i) a w K' Q else K' (a.put (pickOp l i).dst undef) w)
    (g : ∀ K' : Act → World → Prop, Shut (∀ a w, S w → (S w → alongT P l Q S u a w) → K' a w) → if Region.wanted (pickOp l j) (yielded l.toArray a.tmps) = true then Oper.wp P (pickOp l j) a w K' Q else K' (a.put (pickOp l j).dst undef) w) :
    alongT P l Q S (.b2 i t j u) a w := ⟨h, g⟩
theorem T_b3 {i j k : Nat} {t u v : ASk} {a : Act} {w : World} (h : ∀ K' : Act → World → Prop, Shut (∀ a w, S w → (S w → alongT P l Q S t a w) → K' a w) → if Region.wanted (pickOp l i) (yielded l.toArray a.tmps) = true then Oper.wp P (pickOp l i) a w K' Q else K' (a.put (pickOp l i).dst undef) w)
    (g : ∀ K' : Act → World → Prop, Shut (∀ a w, S w → (S w → alongT P l Q S u a w) → K' a w) → if Region.wanted (pickOp l j) (yielded l.toArray a.tmps) = true then Oper.wp P (pickOp l j) a w K' Q else K' (a.put (pickOp l j).dst undef) w)
    (f : ∀ K' : Act → World → Prop, Shut (∀ a w, S w → (S w → alongT P l Q S v a w) → K' a w) → if Region.wanted (pickOp l k) (yielded l.toArray a.tmps) = true then Oper.wp P (pickOp l k) a w K' Q else K' (a.put (pickOp l k).dst undef) w) :
    alongT P l Q S (.b3 i t j u k v) a w := ⟨h, g, f⟩
/-- A region that draws, walked along the tree t. -/
theorem wp_region_alongT {id : Nat} {a : Act} {w : World} (t : ASk) (hm : P.follows .mixedOrders = true) (hs : Region.noSelect l.toArray = true)
    (hd : t.depth ≤ l.length) (hp : t.pre .any l.toArray l.length (Array.replicate l.length false) = true) (hQ : ∀ c a d v w, Q (.panic c) (Act.put a d v) w → Q (.panic c) a w)
    (hS : S w.drew) (h : S w.drew → alongT P l Q S t a w.drew) : (Code.region id l.toArray true).wp P Q a w := by
  refine wp_region_held (S := S) hm ?_
  have := alongT_sound (P := P) (Q := Q) (S := S) (md := .any) hs hQ t l.toArray.size (Array.replicate l.length false) a w.drew (by simpa using hd) hp hS (h hS)
  simpa using this
end
end Go
