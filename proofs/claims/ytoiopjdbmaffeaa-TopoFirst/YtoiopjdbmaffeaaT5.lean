/- The map of ends that were seen. -/
import Derived.Test.YtoiopjdbmaffeaaT3
import Derived.Test.YtoiopjdbmaffeaaLaw
import Derived.Maps.Own
import Derived.WideKeyEntry
import Derived.DeepKeys4
import Derived.MapViews
import Derived.Lib.SmallJoins
namespace Go.Proofs.Ytoiopjdbmaffeaa
open Go.RowKit Go.Maps Go.MapKept Go.ChangeMaps Go.WideElems Go.Joins
open Go.WideMaps (KeyLaw)
set_option linter.unusedVariables false

set_option maxRecDepth 100000 in
theorem wideEnd : (match Try.prog.underlying 56 with | some (.array _ _) | some (.struct _) => true | _ => false) = true := by rw [Try.underlying56]
set_option maxRecDepth 100000 in
theorem lawEnd : KeyLaw Try.prog 56 := deep_law_laid laidOutA (m := 2) (by omega) (of_decide_eq_true (by kernel_rfl)) (by kernel_rfl) wideEnd
theorem keyedEnd : Keyed Try.prog 56 := Keyed.of_law lawEnd
theorem zeroInt (w : World) : (zeroValue 3).run Try.prog w = .ok (.int .i64 0) w := by kernel_rfl
/-- An end as a value. -/
def kv (e : Int × Int) : Value := .agg #[.int .i64 e.1, .int .i64 e.2]
/-- Its numbers are of their type. -/
def eOk (e : Int × Int) : Prop := (Lit.int .i64 e.1).wf = true ∧ (Lit.int .i64 e.2).wf = true
theorem kv_inj {a b : Int × Int} (h : kv a = kv b) : a = b := by
  obtain ⟨a1, a2⟩ := a
  obtain ⟨b1, b2⟩ := b
  simp [kv] at h
  rw [h.1, h.2]
set_option maxRecDepth 100000 in
theorem key_end (e : Int × Int) (h : eOk e) : ∃ l, keyOf Try.prog 56 (kv e) = some l := by
  have ht : DataW.Trod (fun _ => ()) Try.prog default 0 (fun _ => true) true 56 (kv e) _ _ := shut_agg2 (y0 := (.lit (.int .i64 e.1), [])) (y1 := (.lit (.int .i64 e.2), [])) Try.underlying56 (by kernel_rfl) (by kernel_rfl) ⟨1, by simp [DataW.trod, Try.underlying3, h.1]⟩ ⟨1, by simp [DataW.trod, Try.underlying3, h.2]⟩
  exact ⟨_, (keyOf_asKey (by kernel_rfl) wideEnd (by simp [kv, Value.formed, Try.underlying56]; kernel_rfl) ht).1⟩
/-- Block b is a map of just these ends, each once. -/
def MapS (w : World) (b : Nat) (S : List (Int × Int)) : Prop :=
  ∃ es clock, w.heap[b]? = some (.map es clock) ∧ Fit (H := Unit) Try.prog 56 (plainElem Try.prog 3) es clock ∧ es.size ≤ S.length ∧ (∀ x ∈ es.toList, ∃ e ∈ S, x.key = kv e ∧ x.val = .int .i64 1) ∧ (∀ e ∈ S, ∃ x ∈ es.toList, x.key = kv e)
theorem MapS.drew {w : World} {b : Nat} {S : List (Int × Int)} (h : MapS w b S) : MapS w.drew b S := h
theorem MapS.on {w w' : World} {b : Nat} {S : List (Int × Int)} (h : MapS w b S) (hb : Below w.heap.size w w') : MapS w' b S := by
  obtain ⟨es, clock, h1, h2⟩ := h
  have hlt : b < w.heap.size := by
    rcases Nat.lt_or_ge b w.heap.size with q | q
    · exact q
    · rw [Array.getElem?_eq_none q] at h1; cases h1
  exact ⟨es, clock, (hb.block b hlt).trans h1, h2⟩
theorem MapS.made (w : World) : MapS (w.alloc (.map #[] 0)) w.heap.size [] := by
  obtain ⟨es, clock, h1, h2, h3, h4⟩ := World.ownsMap_made (H := Unit) w Try.prog 56 (plainElem Try.prog 3)
  have h5 : es = #[] := by
    have k := (MapKept.heap_alloc w (.map #[] 0)).1
    rw [k] at h1; cases h1; rfl
  subst h5
  exact ⟨#[], clock, h1, h2, by simp, by simp, by simp⟩
theorem mapS_lookup {w : World} {b : Nat} {S : List (Int × Int)} (h : MapS w b S) {e : Int × Int} (he : eOk e) :
    (Instr.lookup 63 (.map (some b)) (kv e) false).run Try.prog w = .ok (.int .i64 (if e ∈ S then 1 else 0)) w := by
  obtain ⟨es, clock, hb, F, -, h1, h2⟩ := h
  obtain ⟨l, hl⟩ := key_end e he
  rcases fit_look false keyedEnd Try.underlying63 (zeroInt w) hb F hl with ⟨hr, hn, -⟩ | ⟨e0, y, hm, hk, hr, -⟩
  · rw [if_neg (fun hS => by obtain ⟨x, hx, hxk⟩ := h2 e hS; exact hn x hx hxk)]
    exact hr
  · obtain ⟨e', heS, hk', hv⟩ := h1 e0 hm
    have : e' = e := kv_inj (by rw [← hk', hk])
    subst this
    rw [if_pos heS]
    rw [if_neg (by decide), hv] at hr
    exact hr
/-- w' is w but for block b. -/
structure Only (b : Nat) (w w' : World) : Prop where
  os : w'.os = w.os
  tape : w'.tape = w.tape
  out : w'.output = w.output
  size : w'.heap.size = w.heap.size
  blk : ∀ i, i ≠ b → w'.heap[i]? = w.heap[i]?
theorem Only.set {w : World} {b : Nat} {es : Array MapEntry} {clock : Nat} {o' : Obj} (h : w.heap[b]? = some (.map es clock)) : Only b w (setBlock w b o') :=
  ⟨rfl, rfl, rfl, by simp [setBlock], fun i hi => heap_setBlock_other h _ (fun e => hi (by rw [e]))⟩
theorem Only.below {w w' W : World} {n b : Nat} (h : Only b w w') (hb : Below n W w) (hn : n ≤ b) : Below n W w' := by
  refine ⟨by rw [h.os]; exact hb.os, by rw [h.tape]; exact hb.tape, by rw [h.out]; exact hb.output, by rw [h.size]; exact hb.size, fun i hi => ?_⟩
  rw [h.blk i (by omega)]; exact hb.block i hi
theorem Only.cell {w w' : World} {b : Nat} {es : Array MapEntry} {clock : Nat} (h : Only b w w') (hb : w.heap[b]? = some (.map es clock)) (i o : Nat) (hc : (w.cell? ⟨i, o, none⟩).isSome = true) : w'.cell? ⟨i, o, none⟩ = w.cell? ⟨i, o, none⟩ := by
  have hi : i ≠ b := fun e => by subst e; simp [World.cell?, hb] at hc
  simp only [World.cell?, h.blk i hi]
theorem mapS_entry {w : World} {b : Nat} {S : List (Int × Int)} (h : MapS w b S) {e : Int × Int} (he : eOk e) (hn : e ∉ S) (hlen : S.length < 1000000) :
    ∃ (st : Int) (w1 w2 : World), (Instr.mapEntry 63 (.map (some b)) (kv e)).run Try.prog w = .ok (.tuple #[.int .i64 0, .int .i64 st]) w1 ∧ (Instr.lookup 63 (.map (some b)) (kv e) false).run Try.prog w1 = .ok (.int .i64 0) w1 ∧
      (Instr.entryStore 63 (.map (some b)) (.int .i64 st) (.int .i64 1)).run Try.prog w1 = .ok () w2 ∧ MapS w2 b (S ++ [e]) ∧ Only b w w1 ∧ Only b w w2 := by
  obtain ⟨es, clock, hb, F, hsz, h1, h2⟩ := h
  obtain ⟨l, hl⟩ := key_end e he
  obtain ⟨s1, s2, _⟩ := F.stamped
  have hno : ∀ x ∈ es.toList, x.key ≠ kv e := fun x hx hk => by
    obtain ⟨e', heS, hk', -⟩ := h1 x hx
    have : e' = e := kv_inj (hk'.symm.trans hk)
    exact hn (this ▸ heS)
  have hfind : (Instr.findKey 56 (kv e) es.toList).run Try.prog w = .ok none w := by
    rcases keyedEnd.find w hl es.toList F.keys with ⟨k1, -⟩ | ⟨j, e0, -, k2, k3⟩
    · exact k1
    · exact absurd k3 (hno e0 (List.mem_of_getElem? k2))
  obtain ⟨w1, hw1⟩ : ∃ w1, setBlock w b (.map (es.push ⟨kv e, .int .i64 0, clock⟩) (clock + 1)) = w1 := ⟨_, rfl⟩
  have hb1 : w1.heap[b]? = some (.map (es.push ⟨kv e, .int .i64 0, clock⟩) (clock + 1)) := by rw [← hw1]; exact heap_setBlock_same hb _
  have hidx : (es.push ⟨kv e, .int .i64 0, clock⟩).findIdx? (fun x => ((x.born : Nat) : Int) == ((clock : Nat) : Int)) = some es.size := by
    rw [findIdx_arr]
    exact findIdx_born (l := (es.push ⟨kv e, .int .i64 0, clock⟩).toList) (j := es.size) (e0 := ⟨kv e, .int .i64 0, clock⟩) (by
      simp only [Array.toList_push, List.map_append, List.map_cons, List.map_nil]
      refine List.nodup_append.2 ⟨s2, by simp, fun a ha c hc e1 => ?_⟩
      simp only [List.mem_singleton] at hc
      obtain ⟨x, hx, rfl⟩ := List.mem_map.1 ha
      have := s1 x hx
      omega) (by simp)
  have hmod : (es.push ⟨kv e, .int .i64 0, clock⟩).modify es.size (fun x => { x with val := .int .i64 1 }) = es.push ⟨kv e, .int .i64 1, clock⟩ := by
    apply Array.ext'
    rw [Array.toList_modify, Array.toList_push, Array.toList_push, ← Array.length_toList, modify_last]
  obtain ⟨es', clock', hrun, F', -, -⟩ := fit_store (R' := plainElem Try.prog 3) keyedEnd Try.underlying63 hb F (by unfold maxLen; omega) (fun _ _ _ _ hz => hz) hl (plainElem_int (H := Unit) Try.underlying3 (show (Lit.int .i64 1).wf = true by decide))
  have hrun2 : (Instr.mapUpdate 63 (.map (some b)) (kv e) (.int .i64 1)).run Try.prog w = .ok () (setBlock w b (.map (es.push ⟨kv e, .int .i64 1, clock⟩) (clock + 1))) := by
    simp [Instr.mapUpdate, run_underlying Try.underlying63, MapKept.run_getObj_map hb, keyedEnd.check w false hl, hfind, MapKept.run_setObj_map _ hb, Result.andThen, setBlock]
  have heq : es' = es.push ⟨kv e, .int .i64 1, clock⟩ ∧ clock' = clock + 1 := by
    rw [hrun] at hrun2
    have k := (Result.ok.inj hrun2).2
    have k1 := heap_setBlock_same hb (.map es' clock')
    rw [k, heap_setBlock_same hb] at k1
    cases k1; exact ⟨rfl, rfl⟩
  obtain ⟨rfl, rfl⟩ := heq
  refine ⟨(clock : Int), w1, setBlock w1 b (.map (es.push ⟨kv e, .int .i64 1, clock⟩) (clock + 1)), ?_, ?_, ?_, ?_, ?_, ?_⟩
  · rw [← hw1]
    simp [Instr.mapEntry, run_underlying Try.underlying63, MapKept.run_getObj_map hb, keyedEnd.check w false hl, hfind, MapKept.run_setObj_map _ hb, Result.andThen, setBlock, goInt]
  · have hkeys : ∀ x ∈ (es.push ⟨kv e, .int .i64 0, clock⟩).toList, ∃ l, keyOf Try.prog 56 x.key = some l := fun x hx => by
      rw [Array.toList_push, List.mem_append, List.mem_singleton] at hx
      rcases hx with hx | rfl
      · exact F.keys x hx
      · exact ⟨l, hl⟩
    rcases keyedEnd.find w1 hl _ hkeys with ⟨-, k2⟩ | ⟨j, e0, k1, k2, k3⟩
    · exact absurd rfl (k2 ⟨kv e, .int .i64 0, clock⟩ (by simp))
    · have hv : e0.val = .int .i64 0 := by
        have hm := List.mem_of_getElem? k2
        rw [Array.toList_push, List.mem_append, List.mem_singleton] at hm
        rcases hm with hm | rfl
        · exact absurd k3 (hno e0 hm)
        · rfl
      rw [hv, Array.toList_push] at k1
      simp [Instr.lookup, run_underlying Try.underlying63, MapKept.run_getObj_map hb1, keyedEnd.check w1 _ hl, k1, Result.andThen]
  · simp [Instr.entryStore, MapKept.run_getObj_map hb1, asInt, asIntOf, hidx, hmod, MapKept.run_setObj_map _ hb1, Result.andThen, setBlock]
  · refine ⟨_, _, heap_setBlock_same hb1 _, F', by simp; omega, fun x hx => ?_, fun e' he' => ?_⟩
    · rw [Array.toList_push, List.mem_append, List.mem_singleton] at hx
      rcases hx with hx | rfl
      · obtain ⟨e', k1, k2, k3⟩ := h1 x hx
        exact ⟨e', List.mem_append_left _ k1, k2, k3⟩
      · exact ⟨e, by simp, rfl, rfl⟩
    · rw [List.mem_append, List.mem_singleton] at he'
      rcases he' with he' | rfl
      · obtain ⟨x, k1, k2⟩ := h2 e' he'
        exact ⟨x, by simp [k1], k2⟩
      · exact ⟨⟨kv e', .int .i64 1, clock⟩, by simp, rfl⟩
  · rw [← hw1]; exact Only.set hb
  · have k := Only.set (o' := .map (es.push ⟨kv e, .int .i64 1, clock⟩) (clock + 1)) hb1
    have k0 : Only b w w1 := by rw [← hw1]; exact Only.set hb
    exact ⟨k.os.trans k0.os, k.tape.trans k0.tape, k.out.trans k0.out, k.size.trans k0.size, fun i hi => (k.blk i hi).trans (k0.blk i hi)⟩
end Go.Proofs.Ytoiopjdbmaffeaa
