/- A bit held: how the work lies; what a step comes to. -/
import Derived.Test.YtioanjpeddipmacAS
namespace Go.Proofs.Ytioanjpeddipmac
open Go.RowKit Go.Maps Go.MapKept Go.ChangeMaps Go.WideElems Go.Joins
open Go.WideMaps (KeyLaw)
set_option linter.unusedVariables false

def ikv (k : Nat) : Value := .int .i64 (k : Nat)
theorem ikv_inj (a b : Nat) (h : ikv a = ikv b) : a = b := by simp [ikv] at h; omega
theorem keyedInt : Keyed Try.prog 3 := int_keyed Try.underlying3
theorem key_int (k : Nat) (h : k ≤ 9223372036854775807) : keyOf Try.prog 3 (ikv k) = some (.int .i64 (k : Nat)) := keyOf_int_mk Try.underlying3 (wf64 k h)
/-- The work of one Restrict lies there. -/
structure Nw (w : World) (a : AL) (jb db bit : Nat) (on : Bool) (m : Memo1) : Prop where
  s : Blk w jb [.pointer (some ⟨a.p, 0, none⟩), .int .i64 (bit : Nat), .bool on, .map (some db)]
  d : MapG Try.prog 3 3 ikv w db m
  j : jb ≠ a.p ∧ jb ≠ a.q ∧ jb ≠ a.m
  e : db ≠ a.p ∧ db ≠ a.q ∧ db ≠ a.m
theorem Nw.ne {w : World} {a : AL} {jb db bit : Nat} {on : Bool} {m : Memo1} (h : Nw w a jb db bit on m) : jb ≠ db := by
  obtain ⟨es, clock, h2⟩ := h.d.isMap
  intro e
  have := h.s.1 0 _ rfl
  rw [e] at this
  simp [World.cell?, h2] at this
theorem Nw.on' {w w' : World} {a : AL} {jb db bit : Nat} {on : Bool} {m : Memo1} (h : Nw w a jb db bit on m) (hb : Below w.heap.size w w') : Nw w' a jb db bit on m :=
  ⟨h.s.on hb, h.d.same (hb.block _ h.d.lt), h.j, h.e⟩
theorem Nw.tr {w w' : World} {a a' : AL} {jb db bit : Nat} {on : Bool} {m : Memo1} (h : Nw w a jb db bit on m) (t : Tr (fun _ => False) w a w' a') : Nw w' a' jb db bit on m := by
  have o1 : Off (fun _ => False) a jb := ⟨h.j.1, h.j.2.1, h.j.2.2, fun q => q⟩
  have o2 : Off (fun _ => False) a db := ⟨h.e.1, h.e.2.1, h.e.2.2, fun q => q⟩
  have p1 := o1.on t h.s.lt
  have p2 := o2.on t h.d.lt
  refine ⟨?_, h.d.same (t.k.block _ h.d.lt o2.not), ⟨p1.1, p1.2.1, p1.2.2.1⟩, ⟨p2.1, p2.2.1, p2.2.2.1⟩⟩
  rw [t.m.1]; exact h.s.tr t o1
theorem MV1.few {bit : Nat} {on : Bool} {ns : List Nd} {m : Memo1} (h : MV1 bit on ns m) (hl : ns.length ≤ 262144) : m.length ≤ 262144 := by
  have := nodup_sub _ (List.range 262144) h.one (fun v hv => by
    obtain ⟨x, hx, rfl⟩ := List.mem_map.1 hv
    obtain ⟨x1, -⟩ := h.ok x hx
    rw [List.mem_range]; omega)
  rw [List.length_map, List.length_range] at this
  exact this
theorem setF_step {bit : Nat} {on : Bool} {most k : Nat} {ns : List Nd} {m : Memo1} {f : Nat} (hbit : bit < 104) (h : WF ns) (hm : MV1 bit on ns m) (hf : f < ns.length) {v l hi : Nat} (hn : ns.getD f bot = ⟨v, l, hi⟩) (hk : 105 ≤ k + 1 + v) (c1 : v < bit) (hl : look1 f m = none) :
    l < ns.length ∧ 105 ≤ k + lv ns l ∧
    ∀ r1 ns1 m1, setF bit on most k ns m l = (r1, ns1, m1) → WF ns1 ∧ MV1 bit on ns1 m1 ∧ (r1 = none → setF bit on most (k + 1) ns m f = (none, ns1, m1)) ∧
      ∀ lo, r1 = some lo → lo < ns1.length ∧ hi < ns1.length ∧ 105 ≤ k + lv ns1 hi ∧
        ∀ r2 ns2 m2, setF bit on most k ns1 m1 hi = (r2, ns2, m2) → WF ns2 ∧ MV1 bit on ns2 m2 ∧ (r2 = none → setF bit on most (k + 1) ns m f = (none, ns2, m2)) ∧
          ∀ h2, r2 = some h2 → h2 < ns2.length ∧ lo < ns2.length ∧ ∀ r3 ns3, numF most ns2 ⟨v, lo, h2⟩ = (r3, ns3) →
            (r3 = none → setF bit on most (k + 1) ns m f = (none, ns3, m2)) ∧ (∀ r, r3 = some r → setF bit on most (k + 1) ns m f = (some r, ns3, (f, r) :: m2) ∧ f ∉ m2.map (·.1) ∧ r < ns3.length) := by
  have hv : lv ns f = v := by unfold lv; rw [hn]
  have hgl : (ns.getD f bot).l = l := by rw [hn]
  have hgh : (ns.getD f bot).h = hi := by rw [hn]
  have n1 : ¬ bit < v := by omega
  have n2 : ¬ v = bit := by omega
  obtain ⟨xl, xh, -, xvl, xvh, -⟩ := h.parts (lv_two h hf (by omega)) hf
  rw [hgl] at xl xvl
  rw [hgh] at xh xvh
  rw [hv] at xvl xvh
  refine ⟨by omega, by omega, fun r1 ns1 m1 e1 => ?_⟩
  obtain ⟨M1, V1, -⟩ := setF_made bit on most hbit k ns m l h hm (by omega) (by omega)
  rw [e1] at M1 V1
  replace M1 : Made most ns ns1 _ r1 _ := M1
  replace V1 : MV1 bit on ns1 m1 := V1
  have l1 := M1.ext.len
  refine ⟨M1.wf, V1, fun q => ?_, fun lo q => ?_⟩
  · subst q; unfold setF; rw [hv, if_neg n1, if_neg n2, hl]; simp only; rw [hgl, e1]
  subst q
  have w1 : lv ns1 hi = lv ns hi := M1.ext.lv (by omega)
  refine ⟨(M1.set lo rfl).1, by omega, by omega, fun r2 ns2 m2 e2 => ?_⟩
  obtain ⟨M2, V2, -⟩ := setF_made bit on most hbit k ns1 m1 hi M1.wf V1 (by omega) (by omega)
  rw [e2] at M2 V2
  replace M2 : Made most ns1 ns2 _ r2 _ := M2
  replace V2 : MV1 bit on ns2 m2 := V2
  have l2 := M2.ext.len
  refine ⟨M2.wf, V2, fun q => ?_, fun h2 q => ?_⟩
  · subst q; unfold setF; rw [hv, if_neg n1, if_neg n2, hl]; simp only; rw [hgl, e1]; simp only; rw [hgh, e2]
  subst q
  refine ⟨(M2.set h2 rfl).1, by have := (M1.set lo rfl).1; omega, fun r3 ns3 e3 => ⟨fun q => ?_, fun r q => ?_⟩⟩
  · subst q; unfold setF; rw [hv, if_neg n1, if_neg n2, hl]; simp only; rw [hgl, e1]; simp only; rw [hgh, e2]; simp only; rw [e3]
  · subst q
    have e : setF bit on most (k + 1) ns m f = (some r, ns3, (f, r) :: m2) := by unfold setF; rw [hv, if_neg n1, if_neg n2, hl]; simp only; rw [hgl, e1]; simp only; rw [hgh, e2]; simp only; rw [e3]
    obtain ⟨M3, V3, -⟩ := setF_made bit on most hbit (k + 1) ns m f h hm hf (by omega)
    rw [e] at V3 M3
    have := V3.one
    simp only [List.map_cons] at this
    exact ⟨e, (List.nodup_cons.1 this).1, (M3.set r rfl).1⟩
end Go.Proofs.Ytioanjpeddipmac
