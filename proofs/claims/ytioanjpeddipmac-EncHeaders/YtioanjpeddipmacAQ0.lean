/- Two sets joined, bit by bit. -/
import Derived.Test.YtioanjpeddipmacAP
namespace Go.Proofs.Ytioanjpeddipmac
open Go.RowKit Go.Maps Go.MapKept Go.ChangeMaps Go.WideElems Go.Joins
open Go.WideMaps (KeyLaw)
set_option linter.unusedVariables false

/-- A pair of sets as a value. -/
def pkv (k : Nat × Nat) : Value := .agg #[.int .i64 (k.1 : Nat), .int .i64 (k.2 : Nat)]
theorem pkv_inj (a b : Nat × Nat) (h : pkv a = pkv b) : a = b := by
  obtain ⟨a1, a2⟩ := a
  obtain ⟨b1, b2⟩ := b
  simp [pkv] at h
  simp; omega
set_option maxRecDepth 100000 in
theorem widePair : (match Try.prog.underlying 97 with | some (.array _ _) | some (.struct _) => true | _ => false) = true := by rw [Try.underlying97]
set_option maxRecDepth 100000 in
theorem lawPair : KeyLaw Try.prog 97 := deep_law_laid laidOutA (m := 2) (by omega) (of_decide_eq_true (by kernel_rfl)) (by kernel_rfl) widePair
theorem keyedPair : Keyed Try.prog 97 := Keyed.of_law lawPair
set_option maxRecDepth 100000 in
theorem key_pair (k : Nat × Nat) (h1 : k.1 ≤ 9223372036854775807) (h2 : k.2 ≤ 9223372036854775807) : ∃ l, keyOf Try.prog 97 (pkv k) = some l := by
  have ht : DataW.Trod (fun _ => ()) Try.prog default 0 (fun _ => true) true 97 (pkv k) (.agg [.lit (.int .i64 (k.1 : Nat)), .lit (.int .i64 (k.2 : Nat))]) [] :=
    ⟨2, by simp [pkv, Value.cells, DataW.trod, Try.underlying97, Try.underlying3, show Try.prog.cellsOf 97 = 2 by kernel_rfl, show Try.prog.cellsOf 3 = 1 by kernel_rfl, List.range_succ, wf64 _ h1, wf64 _ h2]⟩
  exact ⟨_, (keyOf_asKey (by kernel_rfl) widePair (by simp [pkv, Value.formed, Try.underlying97]; kernel_rfl) ht).1⟩
/-- The work of one join lies there. -/
structure Jn (w : World) (a : AL) (jb db kind : Nat) (m : Memo) : Prop where
  s : Blk w jb [.pointer (some ⟨a.p, 0, none⟩), .int .i64 (kind : Nat), .map (some db)]
  d : MapG Try.prog 97 3 pkv w db m
  j : jb ≠ a.p ∧ jb ≠ a.q ∧ jb ≠ a.m
  e : db ≠ a.p ∧ db ≠ a.q ∧ db ≠ a.m
theorem Jn.ne {w : World} {a : AL} {jb db kind : Nat} {m : Memo} (h : Jn w a jb db kind m) : jb ≠ db := by
  obtain ⟨es, clock, h2⟩ := h.d.isMap
  intro e
  have := h.s.1 0 _ rfl
  rw [e] at this
  simp [World.cell?, h2] at this
theorem Jn.on {w w' : World} {a : AL} {jb db kind : Nat} {m : Memo} (h : Jn w a jb db kind m) (hb : Below w.heap.size w w') : Jn w' a jb db kind m :=
  ⟨h.s.on hb, h.d.same (hb.block _ h.d.lt), h.j, h.e⟩
theorem Jn.off {w : World} {a : AL} {jb db kind : Nat} {m : Memo} (h : Jn w a jb db kind m) : Off (fun i => i = db) a jb := ⟨h.j.1, h.j.2.1, h.j.2.2, h.ne⟩
/-- Behind a call that turns the arena alone. -/
theorem Jn.tr {w w' : World} {a a' : AL} {jb db kind : Nat} {m : Memo} (h : Jn w a jb db kind m) (t : Tr (fun _ => False) w a w' a') : Jn w' a' jb db kind m := by
  have o1 : Off (fun _ => False) a jb := ⟨h.j.1, h.j.2.1, h.j.2.2, fun q => q⟩
  have o2 : Off (fun _ => False) a db := ⟨h.e.1, h.e.2.1, h.e.2.2, fun q => q⟩
  have p1 := o1.on t h.s.lt
  have p2 := o2.on t h.d.lt
  refine ⟨?_, h.d.same (t.k.block _ h.d.lt o2.not), ⟨p1.1, p1.2.1, p1.2.2.1⟩, ⟨p2.1, p2.2.1, p2.2.2.1⟩⟩
  rw [t.m.1]; exact h.s.tr t o1
theorem Tr.weak {X : Nat → Prop} {w w' : World} {a a' : AL} (t : Tr (fun _ => False) w a w' a') : Tr X w a w' a' := ⟨t.k.mono (fun i _ q => q.imp id (fun r => r.elim)), t.m⟩
/-- Pairs of few sets are few. -/
theorem MV.few {kind : Nat} {ns : List Nd} {m : Memo} (h : MV kind ns m) (hl : ns.length ≤ 262144) : m.length ≤ 262144 * 262144 := by
  have hn : (m.map (fun p => p.1.1 * 262144 + p.1.2)).Nodup := by
    have h1 := h.one
    unfold List.Nodup at h1 ⊢
    rw [List.pairwise_map] at h1 ⊢
    refine List.Pairwise.imp_of_mem (fun {x y} hx hy hne e => hne ?_) h1
    obtain ⟨x1, x2, -⟩ := h.ok x hx
    obtain ⟨y1, y2, -⟩ := h.ok y hy
    have e1 : x.1.1 = y.1.1 := by omega
    have e2 : x.1.2 = y.1.2 := by omega
    exact Prod.ext e1 e2
  have := nodup_sub _ (List.range (262144 * 262144)) hn (fun v hv => by
    obtain ⟨x, hx, rfl⟩ := List.mem_map.1 hv
    obtain ⟨x1, x2, -⟩ := h.ok x hx
    rw [List.mem_range]; omega)
  rw [List.length_map, List.length_range] at this
  exact this
/-- What the two parts' joins come to, and what there is for the node. -/
theorem pairF_step {kind most k : Nat} {ns : List Nd} {m : Memo} {f g : Nat} (h : WF ns) (hm : MV kind ns m) (hf : f < ns.length) (hg : g < ns.length) (hk : 105 ≤ k + 1 + min (lv ns f) (lv ns g)) (hp : plainF kind f g = none) (hl : lookM (f, g) m = none) {L : Nat} (hL : min (lv ns f) (lv ns g) = L) {x y : Nd} (hx : partF ns f L = x) (hy : partF ns g L = y) :
    x.l < ns.length ∧ y.l < ns.length ∧ 105 ≤ k + min (lv ns x.l) (lv ns y.l) ∧ L < 104 ∧
    ∀ r1 ns1 m1, pairF kind most k ns m x.l y.l = (r1, ns1, m1) → WF ns1 ∧ MV kind ns1 m1 ∧ (r1 = none → pairF kind most (k + 1) ns m f g = (none, ns1, m1)) ∧
      ∀ lo, r1 = some lo → lo < ns1.length ∧ x.h < ns1.length ∧ y.h < ns1.length ∧ 105 ≤ k + min (lv ns1 x.h) (lv ns1 y.h) ∧
        ∀ r2 ns2 m2, pairF kind most k ns1 m1 x.h y.h = (r2, ns2, m2) → WF ns2 ∧ MV kind ns2 m2 ∧ (r2 = none → pairF kind most (k + 1) ns m f g = (none, ns2, m2)) ∧
          ∀ hi, r2 = some hi → hi < ns2.length ∧ lo < ns2.length ∧ ∀ r3 ns3, numF most ns2 ⟨L, lo, hi⟩ = (r3, ns3) →
            (r3 = none → pairF kind most (k + 1) ns m f g = (none, ns3, m2)) ∧ (∀ r, r3 = some r → pairF kind most (k + 1) ns m f g = (some r, ns3, ((f, g), r) :: m2) ∧ (f, g) ∉ m2.map (·.1) ∧ r < ns3.length) := by
  have hL104 : L < 104 := by
    rcases Nat.lt_or_ge L 104 with q | q
    · exact q
    · exfalso
      have a : f ≤ 1 := by
        rcases Nat.lt_or_ge f 2 with r | r
        · omega
        · have := (h.parts r hf).2.2.2.2.2; omega
      have b : g ≤ 1 := by
        rcases Nat.lt_or_ge g 2 with r | r
        · omega
        · have := (h.parts r hg).2.2.2.2.2; omega
      exact plain_ends a b hp
  obtain ⟨xl, xh, xvl, xvh, -⟩ := part_ok h hf (L := L) (by omega) hL104
  obtain ⟨yl, yh, yvl, yvh, -⟩ := part_ok h hg (L := L) (by omega) hL104
  rw [hx] at xl xh xvl xvh
  rw [hy] at yl yh yvl yvh
  refine ⟨xl, yl, by omega, hL104, fun r1 ns1 m1 e1 => ?_⟩
  obtain ⟨M1, V1, -⟩ := pairF_made kind most k ns m x.l y.l h hm xl yl (by omega)
  rw [e1] at M1 V1
  replace M1 : Made most ns ns1 _ r1 _ := M1
  replace V1 : MV kind ns1 m1 := V1
  have hx1 := M1.ext
  have hl1 := hx1.len
  refine ⟨M1.wf, V1, fun q => ?_, fun lo q => ?_⟩
  · subst q; unfold pairF; rw [hp]; simp only; rw [hl]; simp only; rw [hL, hx, hy, e1]
  subst q
  have w1 : lv ns1 x.h = lv ns x.h := hx1.lv xh
  have w2 : lv ns1 y.h = lv ns y.h := hx1.lv yh
  refine ⟨(M1.set lo rfl).1, by omega, by omega, by rw [w1, w2]; omega, fun r2 ns2 m2 e2 => ?_⟩
  obtain ⟨M2, V2, -⟩ := pairF_made kind most k ns1 m1 x.h y.h M1.wf V1 (by omega) (by omega) (by rw [w1, w2]; omega)
  rw [e2] at M2 V2
  replace M2 : Made most ns1 ns2 _ r2 _ := M2
  replace V2 : MV kind ns2 m2 := V2
  refine ⟨M2.wf, V2, fun q => ?_, fun hi q => ?_⟩
  · subst q; unfold pairF; rw [hp]; simp only; rw [hl]; simp only; rw [hL, hx, hy, e1]; simp only; rw [e2]
  subst q
  have hl2 := M2.ext.len
  refine ⟨(M2.set hi rfl).1, by have := (M1.set lo rfl).1; omega, fun r3 ns3 e3 => ⟨fun q => ?_, fun r q => ?_⟩⟩
  · subst q; unfold pairF; rw [hp]; simp only; rw [hl]; simp only; rw [hL, hx, hy, e1]; simp only; rw [e2]; simp only; rw [e3]
  · subst q
    have e : pairF kind most (k + 1) ns m f g = (some r, ns3, ((f, g), r) :: m2) := by unfold pairF; rw [hp]; simp only; rw [hl]; simp only; rw [hL, hx, hy, e1]; simp only; rw [e2]; simp only; rw [e3]
    obtain ⟨M3, V3, -⟩ := pairF_made kind most (k + 1) ns m f g h hm hf hg (by omega)
    rw [e] at V3 M3
    have := V3.one
    simp only [List.map_cons] at this
    exact ⟨e, (List.nodup_cons.1 this).1, (M3.set r rfl).1⟩
end Go.Proofs.Ytioanjpeddipmac
