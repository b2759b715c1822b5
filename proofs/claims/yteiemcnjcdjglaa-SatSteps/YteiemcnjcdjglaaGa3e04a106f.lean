/- Texts joined, in their order: HF, SE, QP, SS. -/
import Derived.Test.YteiemcnjcdjglaaG078402af24
import Derived.Test.YteiemcnjcdjglaaG6cff558f04
import Derived.ProofKit
import Derived.OpenShut
import Derived.Lib.SmallJoins
import Derived.LaidMore
import Derived.Stop.Joined
import Derived.Test.YteiemcnjcdjglaaG402e4c2e9c
import Derived.Test.YteiemcnjcdjglaaGfe77df2618
import Derived.Test.YteiemcnjcdjglaaG212a414aca
/- How a header that is handed in reads, and reads again. -/
namespace Go.Proofs.Yteiemcnjcdjglaa
open Go.ChangeShapes Go.WideShapes Go.ChangeAt Go.RowKit Go.Joins Go.Deep Go.WideElems Go.Maps

theorem array5 {α : Type} {cs : Array α} (h : cs.size = 5) : ∃ c0 c1 c2 c3 c4, cs = #[c0, c1, c2, c3, c4] := by
  obtain ⟨l⟩ := cs
  match l, h with
  | [c0, c1, c2, c3, c4], _ => exact ⟨c0, c1, c2, c3, c4, rfl⟩
section
variable {H : Type} {enc : TypeId × Value → H} {P : Program} {w : World} {base : Nat} {spare : Nat → Bool} {held : Bool}
theorem open_agg5 {r : Reach} {b0 : Nat} {t : TypeId} {f0 f1 f2 f3 f4 : Field} {v : Value} {d : DataW H} {p : List MemPlace} (hs : P.underlying t = some (.struct #[f0, f1, f2, f3, f4])) (hone : oneCellFields P #[f0, f1, f2, f3, f4] = true) (hC : P.cellsOf t = 5)
    (hv : Value.okWide P w r b0 t v) (h : DataW.Trod enc P w base spare held t v d p) :
    ∃ (v0 v1 v2 v3 v4 : Value) (y0 y1 y2 y3 y4 : DataW H × List MemPlace) (n : Nat), v = .agg #[v0, v1, v2, v3, v4] ∧ d = .agg [y0.1, y1.1, y2.1, y3.1, y4.1] ∧ p = y0.2 ++ (y1.2 ++ (y2.2 ++ (y3.2 ++ y4.2))) ∧
      DataW.trod enc P w base spare held n f0.type [v0] = some y0 ∧ DataW.trod enc P w base spare held n f1.type [v1] = some y1 ∧ DataW.trod enc P w base spare held n f2.type [v2] = some y2 ∧ DataW.trod enc P w base spare held n f3.type [v3] = some y3 ∧ DataW.trod enc P w base spare held n f4.type [v4] = some y4 := by
  obtain ⟨cs, rfl, hsz⟩ := okWide_struct hs hv
  obtain ⟨c0, c1, c2, c3, c4, rfl⟩ := array5 (hsz.trans hC)
  obtain ⟨fuel, hf⟩ := h
  obtain ⟨xs, n, _, hx, hl, hlen, hf⟩ := DataW.trod_struct hs hf
  obtain ⟨o0, k0⟩ := hone_of hone 0 f0 rfl
  obtain ⟨o1, k1⟩ := hone_of hone 1 f1 rfl
  obtain ⟨o2, k2⟩ := hone_of hone 2 f2 rfl
  obtain ⟨o3, k3⟩ := hone_of hone 3 f3 rfl
  obtain ⟨o4, k4⟩ := hone_of hone 4 f4 rfl
  match xs, hlen, hx, hf with
  | [y0, y1, y2, y3, y4], _, hx, hf =>
    simp at hx
    exact ⟨c0, c1, c2, c3, c4, y0, y1, y2, y3, y4, n, rfl, hx.1, hx.2, by simpa [Value.cells, o0, k0] using hf 0 f0 rfl, by simpa [Value.cells, o1, k1] using hf 1 f1 rfl, by simpa [Value.cells, o2, k2] using hf 2 f2 rfl, by simpa [Value.cells, o3, k3] using hf 3 f3 rfl, by simpa [Value.cells, o4, k4] using hf 4 f4 rfl⟩
theorem shut_agg5 {t : TypeId} {f0 f1 f2 f3 f4 : Field} {v0 v1 v2 v3 v4 : Value} {n : Nat} {y0 y1 y2 y3 y4 : DataW H × List MemPlace} (hs : P.underlying t = some (.struct #[f0, f1, f2, f3, f4])) (hone : oneCellFields P #[f0, f1, f2, f3, f4] = true) (hC : P.cellsOf t = 5)
    (t0 : DataW.trod enc P w base spare held n f0.type [v0] = some y0) (t1 : DataW.trod enc P w base spare held n f1.type [v1] = some y1) (t2 : DataW.trod enc P w base spare held n f2.type [v2] = some y2) (t3 : DataW.trod enc P w base spare held n f3.type [v3] = some y3) (t4 : DataW.trod enc P w base spare held n f4.type [v4] = some y4) :
    DataW.Trod enc P w base spare held t (.agg #[v0, v1, v2, v3, v4]) (.agg [y0.1, y1.1, y2.1, y3.1, y4.1]) (y0.2 ++ (y1.2 ++ (y2.2 ++ (y3.2 ++ y4.2)))) := by
  obtain ⟨o0, k0⟩ := hone_of hone 0 f0 rfl
  obtain ⟨o1, k1⟩ := hone_of hone 1 f1 rfl
  obtain ⟨o2, k2⟩ := hone_of hone 2 f2 rfl
  obtain ⟨o3, k3⟩ := hone_of hone 3 f3 rfl
  obtain ⟨o4, k4⟩ := hone_of hone 4 f4 rfl
  have ts := trod_struct_mk (enc := enc) (w := w) (base := base) (spare := spare) (held := held) (n := n) (cs := [v0, v1, v2, v3, v4]) (xs := [y0, y1, y2, y3, y4]) hs (by simp [hC]) (by simp [o0, k0, o1, k1, o2, k2, o3, k3, o4, k4, t0, t1, t2, t3, t4])
  exact ⟨n + 1, by simpa [Value.cells] using ts⟩
end
theorem cellsHdr : Try.prog.cellsOf 44 = 5 := by kernel_rfl
set_option maxRecDepth 100000 in
theorem hdr_five {H : Type} {enc : TypeId × Value → H} {W : World} {base : Nat} {v : Value} {d : DataW H} {p : List MemPlace}
    (hv0 : Value.okWide Try.prog W .any base 44 v) (h : DataW.Trod enc Try.prog W 0 (fun _ => true) true 44 v d p) :
    ∃ x0 x1 x2 x3 x4 : Nat, x0 < 4294967296 ∧ x1 < 4294967296 ∧ x2 < 256 ∧ x3 < 65536 ∧ x4 < 65536 ∧ v = hv x0 x1 x2 x3 x4 ∧ p = [] ∧ ∀ (W' : World) (sp : Nat → Bool), DataW.Trod enc Try.prog W' 0 sp true 44 v d [] := by
  obtain ⟨c0, c1, c2, c3, c4, y0, y1, y2, y3, y4, m, rfl, rfl, rfl, g0, g1, g2, g3, g4⟩ := open_agg5 Try.underlying44 (by kernel_rfl) cellsHdr hv0 h
  obtain ⟨x0, e0, rfl, w0⟩ := DataW.trod_int Try.underlying41 g0
  obtain ⟨x1, e1, rfl, w1⟩ := DataW.trod_int Try.underlying41 g1
  obtain ⟨x2, e2, rfl, w2⟩ := DataW.trod_int Try.underlying5 g2
  obtain ⟨x3, e3, rfl, w3⟩ := DataW.trod_int Try.underlying42 g3
  obtain ⟨x4, e4, rfl, w4⟩ := DataW.trod_int Try.underlying42 g4
  simp at e0 e1 e2 e3 e4
  subst e0 e1 e2 e3 e4
  obtain ⟨l0, u0⟩ := bounds_u32 w0
  obtain ⟨l1, u1⟩ := bounds_u32 w1
  obtain ⟨l2, u2⟩ := bounds_u8 w2
  obtain ⟨l3, u3⟩ := bounds_u16 w3
  obtain ⟨l4, u4⟩ := bounds_u16 w4
  obtain ⟨x0, rfl⟩ := Int.eq_ofNat_of_zero_le l0
  obtain ⟨x1, rfl⟩ := Int.eq_ofNat_of_zero_le l1
  obtain ⟨x2, rfl⟩ := Int.eq_ofNat_of_zero_le l2
  obtain ⟨x3, rfl⟩ := Int.eq_ofNat_of_zero_le l3
  obtain ⟨x4, rfl⟩ := Int.eq_ofNat_of_zero_le l4
  refine ⟨x0, x1, x2, x3, x4, by omega, by omega, by omega, by omega, by omega, rfl, rfl, fun W' sp => ?_⟩
  exact shut_agg5 (n := 1) (y0 := (.lit (.int .u32 x0), [])) (y1 := (.lit (.int .u32 x1), [])) (y2 := (.lit (.int .u8 x2), [])) (y3 := (.lit (.int .u16 x3), [])) (y4 := (.lit (.int .u16 x4), [])) Try.underlying44 (by kernel_rfl) cellsHdr
    (by simp [DataW.trod, Try.underlying41, w0]) (by simp [DataW.trod, Try.underlying41, w1]) (by simp [DataW.trod, Try.underlying5, w2]) (by simp [DataW.trod, Try.underlying42, w3]) (by simp [DataW.trod, Try.underlying42, w4])
end Go.Proofs.Yteiemcnjcdjglaa
/- Headers in order, by their bits: for SatEnds, SatSteps. -/
namespace Go.Proofs.Yteiemcnjcdjglaa
open Go.RowKit Hw
set_option linter.unusedVariables false
set_option linter.unusedSimpArgs false

theorem first_le {a b a' b' : Nat} (h : ∀ j : Nat, j < 104 → (∀ k : Nat, k < j → tb a b k = tb a' b' k) → tb a b j ≠ tb a' b' j → tb a b j = false) : ∀ k, k ≤ 104 → (firstc a b a' b' k = 0 → ∀ i : Nat, i < k → tb a b i = tb a' b' i) ∧ firstc a b a' b' k ≤ 0
  | 0, _ => ⟨fun _ i hi => absurd hi (by omega), Int.le_refl _⟩
  | k + 1, hk => by
    obtain ⟨h1, h2⟩ := first_le h k (by omega)
    unfold firstc
    by_cases e : firstc a b a' b' k = 0
    · rw [if_pos e]
      have hb := h1 e
      by_cases q : tb a b k = tb a' b' k
      · rw [if_pos q]
        refine ⟨fun _ i hi => ?_, Int.le_refl _⟩
        rcases Nat.lt_or_ge i k with r | r
        · exact hb i r
        · have : i = k := by omega
          subst this; exact q
      · rw [if_neg q]
        have h3 := h k (by omega) hb q
        have h4 : tb a' b' k = true := by
          rw [h3] at q
          cases z : tb a' b' k
          · exact absurd z.symm q
          · rfl
        rw [h4]
        simp
    · rw [if_neg e]
      exact ⟨fun q => absurd q e, h2⟩
theorem cmp_le {a b a' b' : Nat} (hw : WB a b) (hw' : WB a' b') (h : ∀ j, j < 104 → (∀ k, k < j → tE a b k = tE a' b' k) → tE a b j ≠ tE a' b' j → tE a b j = false) : cmpW a b a' b' ≤ 0 := by
  have := (first_le (a := a) (b := b) (a' := a') (b' := b') (fun j hj hk hn => h j hj hk hn) 104 (Nat.le_refl _)).2
  rw [firstc_all a b a' b' hw hw'] at this
  exact this
theorem hw_hv {d s q x y : Nat} (hd : d < 4294967296) (hs : s < 4294967296) (hq : q < 256) (hx : x < 65536) (hy : y < 65536) : ∃ a b, WB a b ∧ hw a b = hv d s q x y := by
  refine ⟨d * 4294967296 + s, q * 4294967296 + x * 65536 + y, ⟨by omega, by omega⟩, ?_⟩
  unfold hw fd fs fx fy
  rw [show (d * 4294967296 + s) / 4294967296 = d by omega, show (d * 4294967296 + s) % 4294967296 = s by omega, show (q * 4294967296 + x * 65536 + y) / 4294967296 = q by omega, show (q * 4294967296 + x * 65536 + y) / 65536 % 65536 = x by omega, show (q * 4294967296 + x * 65536 + y) % 65536 = y by omega]
theorem hw_zero : hw 0 0 = hv 0 0 0 0 0 := rfl
section
variable {Z : Nat → Prop} {p most : Nat} {W : World} {ns : List Nd}
theorem sIn_w (h : Sta Z p W most ns) (f a b : Nat) (hw' : WB a b) (hf : f < ns.length) : Calls Try.prog 24 #[.pointer (some ⟨p, 0, none⟩), .int .i64 (f : Nat), hw a b] W fun e w' => e = .returned (.bool (ev ns (tE a b) f)) ∧ Below W.heap.size W w' := by
  have := sIn h f _ _ _ _ _ hw'.hb hf
  rw [tE_hE] at this
  exact this
end
/-- The words of the least, and of the greatest header. -/
structure Utm (ns : List Nd) (on : Bool) (f a b : Nat) : Prop where
  wb : WB a b
  mem : ev ns (tE a b) f = true
  far : ∀ e, ev ns e f = true → ∀ j, j < 104 → (∀ k, k < j → e k = tE a b k) → e j ≠ tE a b j → tE a b j = on ∧ e j = !on
theorem utm_of {ns : List Nd} (h : WF ns) (on : Bool) {f : Nat} (hf : f < ns.length) (h0 : f ≠ 0) : Utm ns on f (uW ns on f 104).1 (uW ns on f 104).2 := by
  obtain ⟨h1, h2⟩ := uW_ok ns on f 104 (Nat.le_refl _)
  obtain ⟨h3, h4⟩ := ut_end h on hf h0
  exact ⟨h1, by rw [h2]; exact h3, by rw [h2]; exact h4⟩
theorem Utm.least {ns : List Nd} {f a b a' b' : Nat} (h : Utm ns false f a b) (hw' : WB a' b') (hm : ev ns (tE a' b') f = true) : cmpW a b a' b' ≤ 0 :=
  cmp_le h.wb hw' (fun j hj hk hn => (h.far _ hm j hj (fun k q => (hk k q).symm) (fun e => hn e.symm)).1)
theorem Utm.most {ns : List Nd} {f a b a' b' : Nat} (h : Utm ns true f a b) (hw' : WB a' b') (hm : ev ns (tE a' b') f = true) : cmpW a' b' a b ≤ 0 :=
  cmp_le hw' h.wb (fun j hj hk hn => (h.far _ hm j hj hk hn).2)
theorem bits_len (a b : Nat) (h : WB a b) (w : World) : Calls Try.prog 26 #[hw a b] w fun e w' => (∃ g cap, e = .returned (.slice (some ⟨g, 0, none⟩) 104 cap)) ∧ Below w.heap.size w w' := by
  refine (bits_any a b h w).mono ?_
  rintro e w' ⟨v, rfl, hb, hr⟩
  rcases hr.2 with ⟨e, q⟩ | ⟨g, cap, cur, e, -⟩
  · omega
  · exact ⟨⟨g, cap, by rw [e]⟩, hb⟩
end Go.Proofs.Yteiemcnjcdjglaa
/- How many nodes a join makes, and which ones its set has: no more than there are pairs that it comes to. No program in sight. -/
namespace Go.Proofs.Yteiemcnjcdjglaa.Pz
set_option linter.unusedVariables false

/-- False, True, or one of a list. -/
def In1 (L : List Nat) (f : Nat) : Prop := f ≤ 1 ∨ f ∈ L
theorem In1.mono {L L' : List Nat} {f : Nat} (h : In1 L f) (hs : ∀ x ∈ L, x ∈ L') : In1 L' f := h.imp id (hs f)
/-- A list of nodes that has all that they lead to; their bits lie ahead of hi. -/
def Clo (hi : Nat) (ns : List Nd) (L : List Nat) : Prop := ∀ f ∈ L, f < ns.length ∧ In1 L (ns.getD f bot).l ∧ In1 L (ns.getD f bot).h ∧ (2 ≤ f → lv ns f < hi)
theorem Clo.nil (hi : Nat) (ns : List Nd) : Clo hi ns [] := fun f hf => by cases hf
theorem Clo.ext {hi : Nat} {ns ns' : List Nd} {L : List Nat} (h : Clo hi ns L) (hx : Ext ns ns') : Clo hi ns' L := fun f hf => by
  obtain ⟨a, b, c, d⟩ := h f hf
  have := hx.len
  rw [hx.getD a, hx.lv a]
  exact ⟨by omega, b, c, d⟩
theorem Clo.mono {hi hi' : Nat} {ns : List Nd} {L : List Nat} (h : Clo hi ns L) (hh : hi ≤ hi') : Clo hi' ns L := fun f hf => by
  obtain ⟨a, b, c, d⟩ := h f hf
  exact ⟨a, b, c, fun q => by have := d q; omega⟩
theorem Clo.append {hi : Nat} {ns : List Nd} {L M : List Nat} (h : Clo hi ns L) (k : Clo hi ns M) : Clo hi ns (L ++ M) := fun f hf => by
  rcases List.mem_append.1 hf with q | q
  · obtain ⟨a, b, c, d⟩ := h f q
    exact ⟨a, b.mono (fun x hx => List.mem_append_left _ hx), c.mono (fun x hx => List.mem_append_left _ hx), d⟩
  · obtain ⟨a, b, c, d⟩ := k f q
    exact ⟨a, b.mono (fun x hx => List.mem_append_right _ hx), c.mono (fun x hx => List.mem_append_right _ hx), d⟩
theorem Clo.cons {hi : Nat} {ns : List Nd} {L : List Nat} {q : Nat} (h : Clo hi ns L) (hq : q < ns.length) (hl : In1 L (ns.getD q bot).l) (hh : In1 L (ns.getD q bot).h) (hv : 2 ≤ q → lv ns q < hi) : Clo hi ns (q :: L) := fun f hf => by
  rcases List.mem_cons.1 hf with rfl | r
  · exact ⟨hq, hl.mono (fun x hx => List.mem_cons_of_mem _ hx), hh.mono (fun x hx => List.mem_cons_of_mem _ hx), hv⟩
  · obtain ⟨a, b, c, d⟩ := h f r
    exact ⟨a, b.mono (fun x hx => List.mem_cons_of_mem _ hx), c.mono (fun x hx => List.mem_cons_of_mem _ hx), d⟩
/-- False and True stand first. -/
def Zo (ns : List Nd) : Prop := ns[0]? = some bot ∧ ns[1]? = some top
theorem WF.zo {ns : List Nd} (h : WF ns) : Zo ns := ⟨h.z, h.o⟩
theorem Zo.ext {ns ns' : List Nd} (h : Zo ns) (hx : Ext ns ns') : Zo ns' := by
  have a := lt_of_get h.1
  have b := lt_of_get h.2
  exact ⟨by rw [hx.get a]; exact h.1, by rw [hx.get b]; exact h.2⟩
theorem In1.lt {hi : Nat} {ns : List Nd} {L : List Nat} {f : Nat} (h : In1 L f) (hz : Zo ns) (hL : Clo hi ns L) : f < ns.length := by
  rcases h with q | q
  · have := lt_of_get hz.2; omega
  · exact (hL f q).1
theorem In1.parts {hi : Nat} {ns : List Nd} {L : List Nat} {f : Nat} (h : In1 L f) (hz : Zo ns) (hL : Clo hi ns L) : In1 L (ns.getD f bot).l ∧ In1 L (ns.getD f bot).h ∧ (2 ≤ f → lv ns f < hi) := by
  rcases h with q | q
  · have : f = 0 ∨ f = 1 := by omega
    rcases this with rfl | rfl
    · rw [getD_some hz.1]; exact ⟨Or.inl (by decide), Or.inl (by decide), fun h => by omega⟩
    · rw [getD_some hz.2]; exact ⟨Or.inl (by decide), Or.inl (by decide), fun h => by omega⟩
  · exact (hL f q).2
/-- A node's number, with room or without. -/
theorem num_size {hi most : Nat} {ns : List Nd} {n : Nd} {L : List Nat} (hz : Zo ns) (hL : Clo hi ns L) (hl : In1 L n.l) (hh : In1 L n.h) (hv : n.v < hi) :
    Ext ns (numF most ns n).2 ∧ (numF most ns n).2.length ≤ ns.length + 1 ∧ ∀ r, (numF most ns n).1 = some r → r < (numF most ns n).2.length ∧ In1 L ((numF most ns n).2.getD r bot).l ∧ In1 L ((numF most ns n).2.getD r bot).h ∧ (2 ≤ r → lv (numF most ns n).2 r < hi) := by
  unfold numF
  by_cases e : n.l = n.h
  · rw [if_pos e]
    refine ⟨Ext.refl _, by show ns.length ≤ _; omega, fun r hr => ?_⟩
    cases hr
    exact ⟨hl.lt hz hL, hl.parts hz hL⟩
  · rw [if_neg e]
    cases hn : lookN n ns with
    | some f =>
      refine ⟨Ext.refl _, by show ns.length ≤ _; omega, fun r hr => ?_⟩
      cases hr
      have h1 := lookN_some hn
      refine ⟨lt_of_get h1, ?_⟩
      unfold lv
      rw [getD_some h1]
      exact ⟨hl, hh, fun _ => hv⟩
    | none =>
      by_cases hm : most ≤ ns.length
      · simp only [if_pos hm]
        exact ⟨Ext.refl _, by omega, fun r hr => by cases hr⟩
      · simp only [if_neg hm]
        have hx : Ext ns (ns ++ [n]) := ⟨[n], rfl⟩
        refine ⟨hx, by simp, fun r hr => ?_⟩
        cases hr
        have h1 : (ns ++ [n])[ns.length]? = some n := by rw [List.getElem?_append_right (Nat.le_refl _)]; simp
        refine ⟨by simp, ?_⟩
        unfold lv
        rw [getD_some h1]
        exact ⟨hl, hh, fun _ => hv⟩
/-- A pair that is plain, its set one of L, or one of P. -/
def OkP (kind : Nat) (P : List (Nat × Nat)) (L : List Nat) (f g : Nat) : Prop := (∃ r, plainF kind f g = some r ∧ In1 L r) ∨ (plainF kind f g = none ∧ (f, g) ∈ P)
/-- Pairs that have all that they lead to. -/
def PC (kind hi : Nat) (ns : List Nd) (P : List (Nat × Nat)) (L : List Nat) : Prop := ∀ x y, (x, y) ∈ P → plainF kind x y = none → x < ns.length ∧ y < ns.length ∧ min (lv ns x) (lv ns y) < hi ∧
  OkP kind P L (partF ns x (min (lv ns x) (lv ns y))).l (partF ns y (min (lv ns x) (lv ns y))).l ∧ OkP kind P L (partF ns x (min (lv ns x) (lv ns y))).h (partF ns y (min (lv ns x) (lv ns y))).h
theorem partF_ext {ns ns' : List Nd} (hx : Ext ns ns') {f : Nat} (hf : f < ns.length) (L : Nat) : partF ns' f L = partF ns f L := by
  unfold partF; rw [hx.getD hf]
theorem PC.ext {kind hi : Nat} {ns ns' : List Nd} {P : List (Nat × Nat)} {L : List Nat} (h : PC kind hi ns P L) (hx : Ext ns ns') : PC kind hi ns' P L := fun x y hxy hp => by
  obtain ⟨a, b, c, d, e⟩ := h x y hxy hp
  have := hx.len
  rw [hx.lv a, hx.lv b, partF_ext hx a, partF_ext hx b]
  exact ⟨by omega, by omega, c, d, e⟩
def vals (m : Memo) : List Nat := m.map (·.2)
structure Sz (hi : Nat) (P : List (Nat × Nat)) (L : List Nat) (ns : List Nd) (m : Memo) (R : Option Nat × List Nd × Memo) : Prop where
  ext : Ext ns R.2.1
  clo : Clo hi R.2.1 (L ++ vals R.2.2)
  key : ∀ e ∈ R.2.2, e.1 ∈ P
  few : R.2.1.length + m.length ≤ ns.length + R.2.2.length
  grow : ∀ x ∈ vals m, x ∈ vals R.2.2
  res : ∀ r, R.1 = some r → In1 (L ++ vals R.2.2) r
theorem pairF_size (kind most hi : Nat) (P : List (Nat × Nat)) (L : List Nat) : ∀ (k : Nat) (ns : List Nd) (m : Memo) (f g : Nat), Zo ns → PC kind hi ns P L → Clo hi ns (L ++ vals m) → (∀ e ∈ m, e.1 ∈ P) → OkP kind P L f g → Sz hi P L ns m (pairF kind most k ns m f g) := by
  intro k
  induction k with
  | zero =>
    intro ns m f g hz hP hL hk ho
    exact ⟨Ext.refl _, hL, hk, Nat.le_refl _, fun x hx => hx, fun r hr => by cases hr⟩
  | succ k ih =>
    intro ns m f g hz hP hL hk ho
    cases hp : plainF kind f g with
    | some r =>
      have e : pairF kind most (k + 1) ns m f g = (some r, ns, m) := by unfold pairF; rw [hp]
      rw [e]
      refine ⟨Ext.refl _, hL, hk, Nat.le_refl _, fun x hx => hx, fun q hq => ?_⟩
      cases hq
      rcases ho with ⟨r', h1, h2⟩ | ⟨h1, -⟩
      · rw [hp] at h1; cases h1; exact h2.mono (fun x hx => List.mem_append_left _ hx)
      · rw [hp] at h1; cases h1
    | none =>
      cases hl : lookM (f, g) m with
      | some r =>
        have e : pairF kind most (k + 1) ns m f g = (some r, ns, m) := by unfold pairF; rw [hp]; simp only; rw [hl]
        rw [e]
        refine ⟨Ext.refl _, hL, hk, Nat.le_refl _, fun x hx => hx, fun q hq => ?_⟩
        cases hq
        exact Or.inr (List.mem_append_right _ (List.mem_map.2 ⟨_, lookM_some hl, rfl⟩))
      | none =>
        have hin : (f, g) ∈ P := by
          rcases ho with ⟨r', h1, -⟩ | ⟨-, h2⟩
          · rw [hp] at h1; cases h1
          · exact h2
        obtain ⟨hf, hg, hv, ol, oh⟩ := hP f g hin hp
        obtain ⟨Lv, hLv⟩ : ∃ Lv, min (lv ns f) (lv ns g) = Lv := ⟨_, rfl⟩
        rw [hLv] at hv ol oh
        have I1 := ih ns m _ _ hz hP hL hk ol
        obtain ⟨r1, ns1, m1, e1⟩ : ∃ r1 ns1 m1, pairF kind most k ns m (partF ns f Lv).l (partF ns g Lv).l = (r1, ns1, m1) := ⟨_, _, _, rfl⟩
        rw [e1] at I1
        obtain ⟨x1, c1, k1, n1, g1, s1⟩ := I1
        simp only at x1 c1 k1 n1 g1 s1
        cases r1 with
        | none =>
          have e : pairF kind most (k + 1) ns m f g = (none, ns1, m1) := by unfold pairF; rw [hp]; simp only; rw [hl]; simp only; rw [hLv, e1]
          rw [e]
          exact ⟨x1, c1, k1, n1, g1, fun r hr => by cases hr⟩
        | some lo =>
          have I2 := ih ns1 m1 _ _ (hz.ext x1) (hP.ext x1) c1 k1 oh
          obtain ⟨r2, ns2, m2, e2⟩ : ∃ r2 ns2 m2, pairF kind most k ns1 m1 (partF ns f Lv).h (partF ns g Lv).h = (r2, ns2, m2) := ⟨_, _, _, rfl⟩
          rw [e2] at I2
          obtain ⟨x2, c2, k2, n2, g2, s2⟩ := I2
          simp only at x2 c2 k2 n2 g2 s2
          cases r2 with
          | none =>
            have e : pairF kind most (k + 1) ns m f g = (none, ns2, m2) := by unfold pairF; rw [hp]; simp only; rw [hl]; simp only; rw [hLv, e1]; simp only; rw [e2]
            rw [e]
            exact ⟨x1.trans x2, c2, k2, by show ns2.length + m.length ≤ ns.length + m2.length; omega, fun x hx => g2 x (g1 x hx), fun r hr => by cases hr⟩
          | some hi' =>
            have l1 : In1 (L ++ vals m2) lo := (s1 lo rfl).mono (fun x hx => by
              rcases List.mem_append.1 hx with q | q
              · exact List.mem_append_left _ q
              · exact List.mem_append_right _ (g2 x q))
            obtain ⟨x3, n3, r3'⟩ := num_size (most := most) (n := ⟨Lv, lo, hi'⟩) ((hz.ext x1).ext x2) c2 l1 (s2 hi' rfl) hv
            obtain ⟨r3, ns3, e3⟩ : ∃ r3 ns3, numF most ns2 ⟨Lv, lo, hi'⟩ = (r3, ns3) := ⟨_, _, rfl⟩
            rw [e3] at x3 n3 r3'
            simp only at x3 n3 r3'
            cases r3 with
            | none =>
              have e : pairF kind most (k + 1) ns m f g = (none, ns3, m2) := by unfold pairF; rw [hp]; simp only; rw [hl]; simp only; rw [hLv, e1]; simp only; rw [e2]; simp only; rw [e3]
              rw [e]
              have e4 : ns3 = ns2 := by
                unfold numF at e3
                split at e3
                · cases e3
                · split at e3
                  · cases e3
                  · split at e3
                    · cases e3; rfl
                    · cases e3
              subst e4
              exact ⟨x1.trans x2, c2, k2, by show ns3.length + m.length ≤ ns.length + m2.length; omega, fun x hx => g2 x (g1 x hx), fun r hr => by cases hr⟩
            | some r =>
              have e : pairF kind most (k + 1) ns m f g = (some r, ns3, ((f, g), r) :: m2) := by unfold pairF; rw [hp]; simp only; rw [hl]; simp only; rw [hLv, e1]; simp only; rw [e2]; simp only; rw [e3]
              rw [e]
              obtain ⟨q1, q2, q3, q4⟩ := r3' r rfl
              have hsub : ∀ x ∈ L ++ vals m2, x ∈ L ++ vals (((f, g), r) :: m2) := fun x hx => by
                rcases List.mem_append.1 hx with q | q
                · exact List.mem_append_left _ q
                · exact List.mem_append_right _ (List.mem_cons_of_mem _ q)
              refine ⟨(x1.trans x2).trans x3, fun y hy => ?_, fun y hy => ?_, ?_, fun x hx => List.mem_cons_of_mem _ (g2 x (g1 x hx)), fun q hq => ?_⟩
              · have hy' : y ∈ L ++ vals m2 ∨ y = r := by
                  rcases List.mem_append.1 hy with q | q
                  · exact Or.inl (List.mem_append_left _ q)
                  · rcases List.mem_cons.1 q with q | q
                    · exact Or.inr q
                    · exact Or.inl (List.mem_append_right _ q)
                rcases hy' with q | rfl
                · obtain ⟨a, b, c, d⟩ := (c2.ext x3) y q
                  exact ⟨a, b.mono hsub, c.mono hsub, d⟩
                · exact ⟨q1, q2.mono hsub, q3.mono hsub, q4⟩
              · rcases List.mem_cons.1 hy with rfl | q
                · exact hin
                · exact k2 y q
              · show ns3.length + m.length ≤ ns.length + (((f, g), r) :: m2).length
                rw [List.length_cons]; omega
              · cases hq
                exact Or.inr (List.mem_append_right _ (List.mem_cons_self ..))
theorem nodup_len {α : Type} [DecidableEq α] : ∀ {l P : List α}, l.Nodup → (∀ x ∈ l, x ∈ P) → l.length ≤ P.length
  | [], P, _, _ => Nat.zero_le _
  | x :: r, P, hn, hs => by
    obtain ⟨a, b⟩ := List.nodup_cons.1 hn
    have hx : x ∈ P := hs x (List.mem_cons_self ..)
    have := nodup_len (P := P.erase x) b (fun y hy => (List.mem_erase_of_ne (fun e => a (by rw [← e]; exact hy))).2 (hs y (List.mem_cons_of_mem _ hy)))
    rw [List.length_erase_of_mem hx] at this
    have := List.length_pos_of_mem hx
    rw [List.length_cons]; omega
/-- What a join leaves, by its pairs. -/
theorem jF_size {kind most hi : Nat} {ns : List Nd} {f g : Nat} {P : List (Nat × Nat)} {L : List Nat} (h : WF ns) (hf : f < ns.length) (hg : g < ns.length) (hP : PC kind hi ns P L) (hL : Clo hi ns L) (ho : OkP kind P L f g) :
    (jF kind most ns f g).2.length ≤ ns.length + P.length ∧ ((jF kind most ns f g).1 = none → most ≤ ns.length + P.length) ∧
    ∀ q, (jF kind most ns f g).1 = some q → ∃ V, V.length ≤ P.length ∧ Clo hi (jF kind most ns f g).2 (L ++ V) ∧ In1 (L ++ V) q := by
  have M := pairF_made kind most 105 ns [] f g h ⟨fun p hp => (by cases hp), List.nodup_nil⟩ hf hg (by omega)
  have S := pairF_size kind most hi P L 105 ns [] f g (WF.zo h) hP (by simpa [vals] using hL) (fun e he => by cases he) ho
  unfold jF wholeF joinF
  obtain ⟨r, ns', m', e⟩ : ∃ r ns' m', pairF kind most 105 ns [] f g = (r, ns', m') := ⟨_, _, _, rfl⟩
  rw [e] at M S ⊢
  obtain ⟨M1, V1, -⟩ := M
  obtain ⟨x1, c1, k1, n1, g1, s1⟩ := S
  simp only at M1 V1 x1 c1 k1 n1 g1 s1 ⊢
  have hlen : m'.length ≤ P.length := by
    have := nodup_len V1.one (P := P) (fun x hx => by
      obtain ⟨p, hp, rfl⟩ := List.mem_map.1 hx
      exact k1 p hp)
    simpa using this
  rw [List.length_nil] at n1
  cases r with
  | none =>
    have := M1.full rfl
    exact ⟨by simp, fun _ => by omega, fun q hq => by cases hq⟩
  | some q =>
    refine ⟨(by simp; omega), fun q => (by cases q), fun q' hq => ⟨vals m', (by simp [vals]; exact hlen), (by simpa using c1), s1 q' hq⟩⟩
end Go.Proofs.Yteiemcnjcdjglaa.Pz
/- A header taken out of a set: how much room that wants, how many are left: plain. No program in sight. -/
namespace Go.Proofs.Yteiemcnjcdjglaa
set_option linter.unusedVariables false

/-- Just this header. -/
def one (h : Nat → Bool) (e : Nat → Bool) : Bool := (List.range 104).all (fun j => e j == h j)
theorem one_iff {h e : Nat → Bool} : one h e = true ↔ ∀ j, j < 104 → e j = h j := by
  unfold one
  rw [List.all_eq_true]
  exact ⟨fun q j hj => by have := q j (List.mem_range.2 hj); simpa using this, fun q j hj => by simpa using q j (List.mem_range.1 hj)⟩
/-- From the i-th bit on. -/
def fromB (h : Nat → Bool) (i : Nat) (e : Nat → Bool) : Bool := (List.range 104).all (fun j => decide (j < i) || (e j == h j))
theorem from_iff {h e : Nat → Bool} {i : Nat} : fromB h i e = true ↔ ∀ j, i ≤ j → j < 104 → e j = h j := by
  unfold fromB
  rw [List.all_eq_true]
  constructor
  · intro q j h1 h2
    have := q j (List.mem_range.2 h2)
    rw [Bool.or_eq_true, decide_eq_true_eq] at this
    rcases this with r | r
    · omega
    · simpa using r
  · intro q j hj
    rw [List.mem_range] at hj
    rw [Bool.or_eq_true, decide_eq_true_eq]
    rcases Nat.lt_or_ge j i with r | r
    · exact Or.inl r
    · exact Or.inr (by simpa using q j r hj)
theorem bool_ext {a b : Bool} (h : a = true ↔ b = true) : a = b := by cases a <;> cases b <;> simp at h ⊢
/-- The way of a header through a set. -/
def way (ns : List Nd) (h : Nat → Bool) (f : Nat) : Nat → Nat
  | 0 => f
  | i + 1 => sd (ptF ns (way ns h f i) i) (h i)
theorem way_ok {ns : List Nd} (hw : WF ns) (h : Nat → Bool) {f : Nat} (hf : f < ns.length) : ∀ i, i ≤ 104 → way ns h f i < ns.length ∧ i ≤ lv ns (way ns h f i)
  | 0, _ => ⟨hf, Nat.zero_le _⟩
  | i + 1, hi => by
    obtain ⟨a, b⟩ := way_ok hw h hf i (by omega)
    obtain ⟨c, d, -⟩ := pt_ok hw a b (by omega) (h i)
    exact ⟨c, d⟩
/-- The cube of a header, from a bit on. -/
theorem way_cube {ns : List Nd} (hw : WF ns) (h : Nat → Bool) {x : Nat} (hx : x < ns.length) (he : ∀ e, ev ns e x = one h e) : ∀ i, i ≤ 104 → ∀ e, ev ns e (way ns h x i) = fromB h i e
  | 0, _, e => by
    show ev ns e x = _
    rw [he]
    exact bool_ext (by rw [one_iff, from_iff]; exact ⟨fun q j _ hj => q j hj, fun q j hj => q j (Nat.zero_le _) hj⟩)
  | i + 1, hi, e => by
    obtain ⟨a, b⟩ := way_ok hw h hx i (by omega)
    obtain ⟨c, d, g⟩ := pt_ok hw a b (by omega) (h i)
    have ih := way_cube hw h hx he i (by omega) (hld e i (h i))
    rw [g _ (hld_same _ _ _), ev_hld hw e (h i) c (by omega)] at ih
    show ev ns e (sd (ptF ns (way ns h x i) i) (h i)) = _
    rw [ih]
    refine bool_ext ?_
    rw [from_iff, from_iff]
    constructor
    · intro q j h1 h2
      have := q j (by omega) h2
      rwa [hld_ne _ _ (by omega)] at this
    · intro q j h1 h2
      by_cases e1 : j = i
      · subst e1; exact hld_same _ _ _
      · rw [hld_ne _ _ e1]; exact q j (by omega) h2
theorem way_lv {ns : List Nd} (hw : WF ns) (h : Nat → Bool) {x : Nat} (hx : x < ns.length) (he : ∀ e, ev ns e x = one h e) {i : Nat} (hi : i < 104) :
    lv ns (way ns h x i) = i ∧ sd (ptF ns (way ns h x i) i) (!(h i)) = 0 ∧ way ns h x i ≠ 0 := by
  obtain ⟨a, b⟩ := way_ok hw h hx i (by omega)
  have c := way_cube hw h hx he i (by omega)
  have yes : ev ns h (way ns h x i) = true := by rw [c, from_iff]; intro j _ _; rfl
  have no : ∀ e, ev ns (hld e i (!(h i))) (way ns h x i) = false := fun e => by
    rw [c, Bool.eq_false_iff]
    intro q
    rw [from_iff] at q
    have := q i (Nat.le_refl _) hi
    rw [hld_same] at this
    cases h i <;> simp at this
  refine ⟨?_, ?_, fun e => ?_⟩
  · refine Nat.le_antisymm (Nat.le_of_not_lt fun q => ?_) b
    have := ev_hld hw h (i := i) (!(h i)) a q
    rw [no, yes] at this
    cases this
  · obtain ⟨c1, d1, g1⟩ := pt_ok hw a b hi (!(h i))
    refine one_number hw c1 (by have := hw.len; omega) (fun e => ?_)
    have := no e
    rw [g1 _ (hld_same _ _ _), ev_hld hw e _ c1 (by omega)] at this
    rw [this, ev_zero]
  · rw [e, ev_zero] at yes; cases yes
theorem partF_pt {ns : List Nd} {f i : Nat} : (partF ns f i).l = sd (ptF ns f i) false ∧ (partF ns f i).h = sd (ptF ns f i) true := by
  unfold partF ptF lv
  split <;> exact ⟨rfl, rfl⟩
theorem plain_lt {ns : List Nd} (hw : WF ns) {x y r : Nat} (hx : x < ns.length) (h : plainF 3 x y = some r) : r < ns.length := by
  have := hw.len
  unfold plainF at h
  simp only [show ¬ (3 : Nat) = 0 by omega, show ¬ (3 : Nat) = 1 by omega, show ¬ (3 : Nat) = 2 by omega, if_false] at h
  split at h
  · cases h; omega
  · split at h
    · cases h; exact hx
    · cases h
theorem plain_zero (x : Nat) : ∃ r, plainF 3 x 0 = some r := by
  unfold plainF
  simp only [show ¬ (3 : Nat) = 0 by omega, show ¬ (3 : Nat) = 1 by omega, show ¬ (3 : Nat) = 2 by omega, if_false]
  split
  · exact ⟨_, rfl⟩
  · exact ⟨_, rfl⟩
/-- A set without one header: no more than so many new nodes. -/
theorem join_one {ns : List Nd} (hw : WF ns) (h : Nat → Bool) {f x most : Nat} (hf : f < ns.length) (hx : x < ns.length) (he : ∀ e, ev ns e x = one h e) (hm : ns.length + 105 < most) :
    ∃ q ns', jF 3 most ns f x = (some q, ns') ∧ WF ns' ∧ Ext ns ns' ∧ ns'.length ≤ ns.length + 105 ∧ St ns' q (fun e => ev ns e f && !(one h e)) := by
  obtain ⟨L, hL⟩ : ∃ L, L = List.range ns.length := ⟨_, rfl⟩
  obtain ⟨P, hP⟩ : ∃ P, P = (List.range 105).map (fun i => (way ns h f i, way ns h x i)) := ⟨_, rfl⟩
  have inL : ∀ r, r < ns.length → Pz.In1 L r := fun r hr => Or.inr (by rw [hL]; exact List.mem_range.2 hr)
  have hClo : Pz.Clo 104 ns L := fun g hg => by
    rw [hL, List.mem_range] at hg
    rcases Nat.lt_or_ge g 2 with q | q
    · have : g = 0 ∨ g = 1 := by omega
      rcases this with rfl | rfl
      · rw [getD_some hw.z]; exact ⟨hg, Or.inl (by decide), Or.inl (by decide), fun q => by omega⟩
      · rw [getD_some hw.o]; exact ⟨hg, Or.inl (by decide), Or.inl (by decide), fun q => by omega⟩
    · obtain ⟨a, b, -, -, -, c⟩ := hw.parts q hg
      exact ⟨hg, inL _ (by omega), inL _ (by omega), fun _ => c⟩
  have ok : ∀ u y, u < ns.length → ((u, y) ∈ P ∨ ∃ r, plainF 3 u y = some r) → Pz.OkP 3 P L u y := fun u y hu hc => by
    cases hq : plainF 3 u y with
    | some r => exact Or.inl ⟨r, hq, inL r (plain_lt hw hu hq)⟩
    | none =>
      rcases hc with hc | ⟨r, hc⟩
      · exact Or.inr ⟨hq, hc⟩
      · rw [hq] at hc; cases hc
  have hPC : Pz.PC 3 104 ns P L := fun u y hm' hq => by
    rw [hP] at hm'
    obtain ⟨i, hi, e⟩ := List.mem_map.1 hm'
    rw [List.mem_range] at hi
    cases e
    obtain ⟨a, b⟩ := way_ok hw h hf i (by omega)
    obtain ⟨c, d⟩ := way_ok hw h hx i (by omega)
    have hi4 : i < 104 := by
      refine Nat.lt_of_not_le fun hge => ?_
      have : i = 104 := by omega
      subst this
      have y1 : way ns h x 104 = 1 := one_number hw c (by have := hw.len; omega) (fun e => by
        rw [way_cube hw h hx he 104 (Nat.le_refl _), ev_one, from_iff]; intro j h1 h2; omega)
      rw [y1] at hq
      unfold plainF at hq
      simp at hq
    obtain ⟨v1, v2, v3⟩ := way_lv hw h hx he hi4
    have e1 : min (lv ns (way ns h f i)) (lv ns (way ns h x i)) = i := by omega
    rw [e1]
    refine ⟨a, c, hi4, ?_, ?_⟩
    · rw [partF_pt.1, partF_pt.1]
      have p1 := pt_ok hw a b hi4 false
      cases hb : h i with
      | false => exact ok _ _ p1.1 (Or.inl (by rw [hP]; exact List.mem_map.2 ⟨i + 1, List.mem_range.2 (by omega), by show (sd (ptF ns (way ns h f i) i) (h i), sd (ptF ns (way ns h x i) i) (h i)) = _; rw [hb]⟩))
      | true => rw [hb] at v2; simp only [Bool.not_true] at v2; rw [v2]; exact ok _ _ p1.1 (Or.inr (plain_zero _))
    · rw [partF_pt.2, partF_pt.2]
      have p1 := pt_ok hw a b hi4 true
      cases hb : h i with
      | true => exact ok _ _ p1.1 (Or.inl (by rw [hP]; exact List.mem_map.2 ⟨i + 1, List.mem_range.2 (by omega), by show (sd (ptF ns (way ns h f i) i) (h i), sd (ptF ns (way ns h x i) i) (h i)) = _; rw [hb]⟩))
      | false => rw [hb] at v2; simp only [Bool.not_false] at v2; rw [v2]; exact ok _ _ p1.1 (Or.inr (plain_zero _))
  have hlen : P.length = 105 := by rw [hP]; simp
  have S := Pz.jF_size (most := most) hw hf hx hPC hClo (ok f x hf (Or.inl (by rw [hP]; exact List.mem_map.2 ⟨0, List.mem_range.2 (by omega), rfl⟩)))
  have G := got_join 3 most hw hf hx
  obtain ⟨R, ns', e⟩ : ∃ R ns', jF 3 most ns f x = (R, ns') := ⟨_, _, rfl⟩
  rw [e] at S G ⊢
  rw [hlen] at S
  obtain ⟨s1, s2, -⟩ := S
  cases R with
  | none => have := s2 rfl; omega
  | some q =>
    refine ⟨q, ns', rfl, G.wf, G.ext, s1, (G.set q rfl).1, fun e => ?_⟩
    rw [(G.set q rfl).2]
    show opB 3 (ev ns e f) (ev ns e x) = _
    rw [he]; rfl
/-- How many are left. -/
theorem kd_split (φ ψ : (Nat → Bool) → Bool) : ∀ n e, kd (fun e => φ e && ψ e) n e + kd (fun e => φ e && !(ψ e)) n e = kd φ n e
  | 0, e => by show (φ e && ψ e).toNat + (φ e && !(ψ e)).toNat = (φ e).toNat; cases φ e <;> cases ψ e <;> rfl
  | n + 1, e => by
    rw [kd_succ, kd_succ, kd_succ]
    have a := kd_split φ ψ n (hld e (103 - n) false)
    have b := kd_split φ ψ n (hld e (103 - n) true)
    omega
theorem ev_104 {ns : List Nd} (hw : WF ns) : ∀ f, f < ns.length → ∀ e e' : Nat → Bool, (∀ i, i < 104 → e i = e' i) → ev ns e f = ev ns e' f := by
  intro f
  induction f using Nat.strongRecOn with
  | ind f ih =>
    intro hf e e' he
    rcases Nat.lt_or_ge f 2 with q | q
    · have : f = 0 ∨ f = 1 := by omega
      rcases this with rfl | rfl <;> rfl
    · obtain ⟨a, b, -, -, -, c⟩ := hw.parts q hf
      rw [ev_node hw e q hf, ev_node hw e' q hf, he _ c, ih _ a (by omega) e e' he, ih _ b (by omega) e e' he]
theorem many_one (h : Nat → Bool) : many (one h) = 1 := by
  have hl : (List.range 104).map (fun j => (j, h j)) = (List.range 104).map (fun j => (j, h j)) := rfl
  have A := many_all (l := (List.range 104).map (fun j => (j, h j))) (by rw [List.pairwise_map]; exact List.pairwise_lt_range) (fun p hp => by
    obtain ⟨j, hj, rfl⟩ := List.mem_map.1 hp
    exact List.mem_range.1 hj)
  have e1 : many (fun e => ((List.range 104).map (fun j => (j, h j))).all (fun p => e p.1 == p.2)) = many (one h) := many_eq (fun e => by
    unfold one; rw [List.all_map]; rfl)
  rw [e1] at A
  rw [A.2]; simp
theorem many_less {ns : List Nd} (hw : WF ns) {f : Nat} (hf : f < ns.length) {h : Nat → Bool} (hm : ev ns h f = true) : many (fun e => ev ns e f && !(one h e)) + 1 = many (fun e => ev ns e f) := by
  have a := kd_split (fun e => ev ns e f) (one h) 104 (fun _ => false)
  have b : many (fun e => ev ns e f && one h e) = many (one h) := many_eq (fun e => by
    cases q : one h e with
    | false => simp
    | true => rw [ev_104 hw f hf e h (one_iff.1 q), hm]; rfl)
  rw [many_one] at b
  unfold many at b ⊢
  omega
end Go.Proofs.Yteiemcnjcdjglaa
