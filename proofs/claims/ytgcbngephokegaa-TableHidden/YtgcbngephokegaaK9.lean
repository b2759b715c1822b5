/- A node's entries, put behind those that were found (the closure of Meeting). -/
import Derived.Test.YtgcbngephokegaaK8
namespace Go.Proofs.Ytgcbngephokegaa
open Go.RowKit Go.Maps Go.MapKept Go.ChangeMaps Go.WideElems Go.Joins
set_option linter.unusedVariables false
set_option linter.unusedSimpArgs false

theorem Lie.below {P : Program} {tk : TypeId} {w w' : World} {pre : List Value} {a : TL} {N : List Pth} {E : List Ent} {nb ne n : Nat} (h : Lie P tk w pre a N E nb ne) (hb : Below n w w') (hl : ∀ k, a.has N k → k < n) : Lie P tk w' pre a N E nb ne :=
  h.keep (S := fun k => n ≤ k) ⟨hb.os, hb.tape, hb.output, hb.size, fun k _ hk => hb.block k (by omega)⟩ (fun i hi q => by have := hl i hi; omega)
/-- An entry's cells. -/
def ecell (x : Ent) : List Value := [.int .u32 (ad x.1 : Nat), .int .i64 (x.1.length : Nat), .int .i64 x.2]
def ecells (r : List Ent) : List Value := r.flatMap ecell
theorem ecells_app (r s : List Ent) : ecells (r ++ s) = ecells r ++ ecells s := List.flatMap_append
theorem infoEnt : (Try.prog.info? 83).map (fun i => (i.zero, i.size, i.bytes)) = some (some (.agg #[.int .u32 0, .int .i64 0, .int .i64 0]), 3, 24) := by kernel_rfl
/-- What was found lies behind the box ob; all that lay ahead of the box is as it was. -/
structure Out (Wo : World) (ob : Nat) (w : World) (r : List Ent) : Prop where
  b : Below ob Wo w
  o : ∃ v, Blk w ob [v] ∧ Row w (ob + 1) 83 3 v r.length (ecells r)
theorem Out.on {Wo : World} {ob : Nat} {w w' : World} {r : List Ent} (h : Out Wo ob w r) (hb : Below w.heap.size w w') : Out Wo ob w' r := by
  obtain ⟨h1, v, h2, h3⟩ := h
  exact ⟨h1.trans (hb.mono (Nat.le_of_lt h2.lt)), v, h2.on hb, h3.on hb⟩
theorem row_ne {w : World} {b1 b2 : Nat} {t1 t2 : TypeId} {s1 s2 : Nat} {v1 v2 : Value} {n1 n2 : Nat} {x1 x2 : List Value} (h1 : Row w b1 t1 s1 v1 n1 x1) (h2 : Row w b2 t2 s2 v2 n2 x2) (ht : t1 ≠ t2) (g : Nat) (e1 : v1.ownBlock = some g) (e2 : v2.ownBlock = some g) : False := by
  rcases h1.1.2 with ⟨e, -⟩ | ⟨g1, c1, cur1, e, -, q1, -⟩
  · rw [e] at e1; cases e1
  · rcases h2.1.2 with ⟨k, -⟩ | ⟨g2, c2, cur2, k, -, q2, -⟩
    · rw [k] at e2; cases e2
    · rw [e] at e1; rw [k] at e2
      simp [Value.ownBlock] at e1 e2
      subst e1; subst e2
      rw [q1] at q2
      simp at q2
      exact ht q2.2
/-- A block of cells of a type. -/
def Typ (w : World) (b : Nat) (t : TypeId) : Prop := ∃ cur z, w.heap[b]? = some (.cells cur t z)
theorem Typ.new (w : World) (cs : Array Value) (t : TypeId) : Typ (w.alloc (.cells cs t)) w.heap.size t := ⟨cs, _, (MapKept.heap_alloc w _).1⟩
theorem Typ.keep {S : Nat → Prop} {w w' : World} {b : Nat} {t : TypeId} (h : Typ w b t) (k : Keep S w w') (hs : ¬ S b) : Typ w' b t := by
  obtain ⟨cur, z, e⟩ := h
  have hb : b < w.heap.size := by
    rcases Nat.lt_or_ge b w.heap.size with c | c
    · exact c
    · rw [Array.getElem?_eq_none c] at e; cases e
  exact ⟨cur, z, (k.block b hb hs).trans e⟩
theorem Typ.on {w w' : World} {b : Nat} {t : TypeId} (h : Typ w b t) (hb : Below w.heap.size w w') : Typ w' b t := h.keep (S := fun _ => False) (Keep.of hb) (fun q => q)
theorem row_typ {w : World} {base : Nat} {te : TypeId} {size : Nat} {v : Value} {n : Nat} {xs : List Value} {b : Nat} {t : TypeId} (h : Row w base te size v n xs) (k : Typ w b t) (ht : t ≠ te) : v.ownBlock ≠ some b := fun e => by
  obtain ⟨cur, z, k⟩ := k
  rcases h.1.2 with ⟨e1, -⟩ | ⟨g1, c1, cur1, e1, -, q1, -⟩
  · rw [e1] at e; cases e
  · rw [e1] at e
    simp [Value.ownBlock] at e
    subst e
    rw [k] at q1
    simp at q1
    exact ht q1.2.1
theorem Row.keep2 {S : Nat → Prop} {w w' : World} {base : Nat} {te : TypeId} {size : Nat} {v : Value} {n : Nat} {xs : List Value} (h : Row w base te size v n xs) (k : Keep S w w') (hs : ∀ i, v.ownBlock = some i → base ≤ i → ¬ S i) : Row w' base te size v n xs := by
  refine ⟨⟨h.1.1, ?_⟩, h.2⟩
  rcases h.1.2 with q | ⟨g, cap, cur, e, q1, q2, q3⟩
  · exact Or.inl q
  · refine Or.inr ⟨g, cap, cur, e, q1, ?_, q3⟩
    have hg : g < w.heap.size := by
      rcases Nat.lt_or_ge g w.heap.size with c | c
      · exact c
      · rw [Array.getElem?_eq_none c] at q2; cases q2
    exact (k.block g hg (hs g (by rw [e]; rfl) q1)).trans q2
/-- All stays but the box ob, rows of entries, and what is new. -/
def Kt (ob : Nat) (W w : World) : Prop := Keep (fun i => i = ob ∨ Typ W i 83) W w
theorem Kt.of {ob : Nat} {W w : World} (h : Below W.heap.size W w) : Kt ob W w := Keep.of h
theorem Kt.refl (ob : Nat) (W : World) : Kt ob W W := Keep.refl _ _
theorem Kt.trans {ob : Nat} {a b c : World} (h : Kt ob a b) (k : Kt ob b c) : Kt ob a c := by
  refine Keep.trans (h : Keep _ a b) (k : Keep _ b c) (fun i hi q => ?_)
  rcases q with q | q
  · exact Or.inl q
  · by_cases c1 : i = ob ∨ Typ a i 83
    · exact c1
    · obtain ⟨cur, z, e⟩ := q
      exact absurd (Or.inr ⟨cur, z, (h.block i hi c1).symm.trans e⟩) c1
theorem Kt.on {ob : Nat} {a b c : World} (h : Kt ob a b) (k : Below b.heap.size b c) : Kt ob a c := h.trans (Kt.of k)
theorem Kt.row {ob : Nat} {w w' : World} {base size n : Nat} {v : Value} {xs : List Value} (h : Row w base 83 size v n xs) (k : Keep (fun i => v.ownBlock = some i) w w') : Kt ob w w' := by
  refine k.mono (fun i hi e => Or.inr ?_)
  rcases h.1.2 with ⟨e1, -⟩ | ⟨g1, c1, cur1, e1, -, q1, -⟩
  · rw [e1] at e; cases e
  · rw [e1] at e
    simp [Value.ownBlock] at e
    subst e
    exact ⟨cur1, _, q1⟩
theorem Kt.set (ob : Nat) (w : World) (u : Value) : Kt ob w (w.setCell ⟨ob, 0, none⟩ u) := ((Keep.refl (fun i => i = ob) w).set ⟨ob, 0, none⟩ u (fun _ => rfl)).mono (fun i _ e => Or.inl e)
set_option maxRecDepth 100000 in
set_option maxHeartbeats 1000000 in
theorem take_core (W : World) (q : Pth) (hql : q.length ≤ 32) (b o : Nat) (m : Option Nat) (Wo : World) (ob : Nat) (r : List Ent) (P : List Int → Prop) (hPl : ∀ vs, P vs → vs.length ≤ 100000) (hrl : r.length ≤ 1000000)
    (hW : Hid (Out Wo ob W r)) (hm : Hid (∀ w, Below ob Wo w → w.cell? ⟨b, o + 2, none⟩ = some (.map m)))
    (HS : Hid (∀ w, Below ob Wo w → ob < w.heap.size → Calls Try.prog 50 #[keysF w] (w.alloc (.cells #[.map m] 29)) fun e w' => ∃ (v : Value) (vs : List Int), e = .returned v ∧ P vs ∧ Vs w' (w.heap.size + 1) v vs ∧ Below (w.heap.size + 1) (w.alloc (.cells #[.map m] 29)) w')) :
    Calls Try.prog 49 #[pv (ad q : Nat) (q.length : Nat), .pointer (some ⟨b, o, none⟩), .pointer (some ⟨ob, 0, none⟩)] W fun e w' => e = .returned (.tuple #[]) ∧ ∃ vs, P vs ∧ vs.Pairwise (· < ·) ∧ Out Wo ob w' (r ++ vs.map fun v => (q, v)) ∧ Kt ob W w' := by
  go_enter Try.func49, Try.ntmps49
  go_upto_region 1 with fail
  refine at_code (S := fun w1 => Blk w1 W.heap.size [.int .u32 (ad q : Nat), .int .i64 (q.length : Nat)] ∧ Out Wo ob w1 r ∧ ob < W.heap.size ∧ Typ w1 W.heap.size 25 ∧ Kt ob W w1) ⟨Blk.new _ _ _, hW.out.on (bel_al (Below.refl _ _) _), by obtain ⟨-, v, h, -⟩ := hW.out; exact h.lt, Typ.new _ _ _, Kt.of (bel_al (Below.refl _ _) _)⟩ (fun W1 h1 => ?_)
  have X1 := Lib.hid h1.1
  have O1 := Lib.hid h1.2.1
  have hob := Lib.hid h1.2.2.1
  have Y1 := Lib.hid h1.2.2.2.1
  have Z1 := Lib.hid h1.2.2.2.2
  have c2 := hm.out W1 h1.2.1.b
  clear h1 hW
  go_wp2_with fail
  refine (keys_any m W1).mono ?_
  rintro e w' ⟨rfl, rfl⟩
  go_wp2_with fail
  refine (HS.out W1 O1.out.b (Nat.lt_trans hob.out X1.out.lt)).mono ?_
  rintro e w3 ⟨v, vs, rfl, hP, hV, hb⟩
  have hl := hPl vs hP
  have HP := Lib.hid hP
  have VP := Lib.hid hV.1
  have V3 : Hid (Row w3 (W1.heap.size + 1) 3 1 v vs.length (vs.map encZ)) := Lib.hid ⟨hV.2.1, by rw [hV.2.2]; exact ⟨fun e => by rw [e]; rfl, fun e => List.eq_nil_of_length_eq_zero e⟩⟩
  have B3 : Hid (Below W1.heap.size W1 w3) := Lib.hid ((bel_al (Below.refl _ _) _).trans (hb.mono (by omega)))
  obtain ⟨adr, cap, rfl⟩ := V3.out.slice
  have X3 := Lib.hid (X1.out.on B3.out)
  have O3 := Lib.hid (O1.out.on B3.out)
  have Y3 := Lib.hid (Y1.out.on B3.out)
  have hW1 := Lib.hid X1.out.lt
  have Z3 := Lib.hid (Z1.out.on B3.out)
  clear X1 O1 Y1 Z1 c2 hm HS hV hb hP B3
  go_wp2_with fail
  obtain ⟨n, hn⟩ : ∃ n, vs.length = n := ⟨_, rfl⟩
  rw [hn] at V3 hl ⊢
  have HN := Lib.hid hn
  clear hn
  have e0 : (vs.take 0).map (fun v => (q, v)) = ([] : List Ent) := by simp
  have O3' : Hid (Out Wo ob w3 (r ++ (vs.take 0).map fun v => (q, v))) := Lib.hid (by rw [e0, List.append_nil]; exact O3.out)
  have hqb := Lib.hid (Nat.lt_trans hob.out X3.out.lt)
  clear e0 O3
  go_loopw [14] (fun iv wr => ∃ (k : Nat), iv = .int .i64 (k : Nat) ∧ k ≤ n ∧ Hid (Out Wo ob wr (r ++ (vs.take k).map fun v => (q, v))) ∧ Hid (Row wr (W1.heap.size + 1) 3 1 (.slice adr n cap) n (vs.map encZ)) ∧ Hid (Blk wr W.heap.size [.int .u32 (ad q : Nat), .int .i64 (q.length : Nat)]) ∧ Hid (Typ wr W.heap.size 25) ∧ Hid (Kt ob W wr)) (fun iv _ => n - (intOf iv).toNat)
  case atStart => exact ⟨0, rfl, Nat.zero_le _, O3', V3, X3, Y3, Z3⟩
  case round =>
    obtain ⟨k, rfl, hk, O, V, X, Y, Z⟩ := hrel
    clear O3' V3 X3 Y3 Z3
    by_cases hkn : k < n
    · have hw1 : IntKind.i64.wrap ((k : Int) + 1) = ((k + 1 : Nat) : Int) := by rw [IntKind.wrap_i64]; omega
      obtain ⟨g, cap', e1, -, -, hc⟩ := V.out.at (by omega)
      simp at e1
      obtain ⟨rfl, rfl⟩ := e1
      obtain ⟨x, hx, hdr, -⟩ : ∃ x, vs[k]? = some x ∧ (vs.take (k + 1)).map (fun v => (q, v)) = (vs.take k).map (fun v => (q, v)) ++ [(q, x)] ∧ True := by
        have hkl : k < vs.length := by rw [HN.out]; exact hkn
        exact ⟨vs[k], List.getElem?_eq_getElem hkl, by rw [List.take_add_one, List.getElem?_eq_getElem hkl, Option.toList_some, List.map_append]; rfl, trivial⟩
      have cg : wr.cell? ⟨g, k, none⟩ = some (.int .i64 x) := hc k _ (by rw [List.getElem?_map, hx]; rfl)
      have HD := Lib.hid hdr
      clear hc hx hdr
      obtain ⟨B, v0, hb0, hr0⟩ := O.out
      have R0 := Lib.hid hr0
      have BB := Lib.hid B
      have y_0 := X.out.1 0 _ rfl
      have y_1 := X.out.1 1 _ rfl
      have b_0 := hb0.1 0 _ rfl
      have HB0 := Lib.hid hb0
      have hlen : (r ++ (vs.take k).map fun v => (q, v)).length ≤ 1100000 := by rw [List.length_append, List.length_map, List.length_take]; omega
      obtain ⟨nY, hnY⟩ : ∃ n, (r ++ (vs.take k).map fun v => (q, v)).length = n := ⟨_, rfl⟩
      obtain ⟨cY, hcY⟩ : ∃ c, ecells (r ++ (vs.take k).map fun v => (q, v)) = c := ⟨_, rfl⟩
      rw [hnY] at hlen R0
      rw [hcY] at R0
      have HNY := Lib.hid hnY
      have HCY := Lib.hid hcY
      clear hnY hcY B hb0 hr0 O
      obtain ⟨i0, hi0, hz0, hz1, hz2⟩ := hinfo_parts infoEnt
      have hown := R0.out.1
      have hsz := HB0.out.lt
      go_wp2_with (at_builtin; refine wpList_append_own _ rfl _ _ 45 rfl (ob + 1) 83 i0 (.agg #[.int .u32 0, .int .i64 0, .int .i64 0]) 3 24 Try.underlying45 hi0 hz0 hz1 hz2 rfl (by decide) _ _ _ rfl (hown.alloc _) ⟨wr.heap.size, 0, none⟩ 1 1 [.int .u32 (ad q : Nat), .int .i64 (q.length : Nat), .int .i64 x] rfl rfl ?c1 ?c2 ?c3 ?c4 ?c5 ?_)
      case c1 =>
        intro j x hj
        match j, hj with
        | 0, hj => simp at hj; subst hj; simp [Addr.add, go_sem]
        | 1, hj => simp at hj; subst hj; simp [Addr.add, go_sem]
        | 2, hj => simp at hj; subst hj; simp [Addr.add, go_sem]
      case c2 => intro x hx; simp at hx; rcases hx with rfl | rfl | rfl <;> rfl
      case c3 => unfold maxLen; omega
      case c4 => omega
      case c5 => simp; omega
      · intro v' w5 hown' hgrow hnl
        have K5 := Lib.hid (((Keep.refl (fun i => v0.ownBlock = some i) wr).al (.cells #[.int .u32 (ad q : Nat), .int .i64 (q.length : Nat), .int .i64 x] 83)).grown hgrow (fun k e _ => e))
        have Z5 := Lib.hid (Z.out.trans (Kt.row R0.out K5.out))
        have hv0 : v0.ownBlock ≠ some ob := fun e => by have := (World.ownsRow.lt hown ob e).1; omega
        have HB5 := Lib.hid (K5.out.blk HB0.out hv0)
        have V5 := Lib.hid (V.out.keep2 K5.out (fun i e _ e2 => row_ne V.out R0.out (by decide) i e e2))
        have X5 := Lib.hid (K5.out.blk X.out (row_typ R0.out Y.out (by decide)))
        have Y5 := Lib.hid (Y.out.keep K5.out (row_typ R0.out Y.out (by decide)))
        have R5 : Hid (Row w5 (ob + 1) 83 3 v' (nY + 1) (cY ++ [.int .u32 (ad q : Nat), .int .i64 (q.length : Nat), .int .i64 x])) := Lib.hid ⟨hown', ⟨fun e => absurd e hnl, fun e => by simp at e⟩⟩
        have HR : Hid (∀ w v', Row w (ob + 1) 83 3 v' (nY + 1) (cY ++ [.int .u32 (ad q : Nat), .int .i64 (q.length : Nat), .int .i64 x]) → Row w (ob + 1) 83 3 v' (r ++ (vs.take (k + 1)).map fun v => (q, v)).length (ecells (r ++ (vs.take (k + 1)).map fun v => (q, v)))) := Lib.hid (fun w v' h => by
          rw [HD.out, ← List.append_assoc, ecells_app, List.length_append, HNY.out, HCY.out]
          exact h)
        have B5 : Hid (Below ob Wo w5) := Lib.hid ((BB.out.alloc (by have := BB.out.size; omega) _).grown hgrow (by simp; omega) (fun g e => by have := (World.ownsRow.lt hown g e).1; omega))
        have b_5 := HB5.out.1 0 _ rfl
        have z_5 := HB5.out.2 0 _ rfl
        obtain ⟨ad5, cap5, e5⟩ := R5.out.slice
        subst e5
        clear hown' hgrow hown hnl hi0 hz0 hz1 hz2 V X Y Z R0 BB HB0 y_0 y_1 b_0 cg
        go_wp2_with fail
        have KS := fun u => (Keep.refl (fun i => i = ob) w5).set ⟨ob, 0, none⟩ u (fun _ => rfl)
        have h1 := hob.out
        have h2 := V5.out
        refine ⟨⟨k + 1, by first | rfl | rw [hw1], by omega, Lib.hid ⟨B5.out.setCell (Nat.le_refl _) _, _, HB5.out.set 0 _ (by simp), HR.out _ _ (R5.out.keep (KS _) (fun i hi e => by omega))⟩, Lib.hid (V5.out.keep (KS _) (fun i hi e => by have := hW1.out; omega)), Lib.hid (X5.out.far _ _ (fun e => by have e : ob = W.heap.size := e; omega)), Lib.hid (Y5.out.keep (KS _) (fun e => by omega)), Lib.hid (Z5.out.trans (Kt.set ob w5 _))⟩, by simp [intOf] <;> omega⟩
    · obtain rfl : k = n := by omega
      have et : vs.take k = vs := List.take_of_length_le (by rw [HN.out]; exact Nat.le_refl _)
      go_wp2
      refine bodyPost_end (v := .tuple #[]) (by simp [results, Try.results49]) rfl ?_
      exact ⟨rfl, vs, HP.out, VP.out, by have := O.out; rw [et] at this; exact this, Z.out⟩
theorem vals_ok (K : Nat) {E : List Ent} (hE : E.length ≤ K) (q : Pth) : ∀ vs : List Int, (vs.Pairwise (· < ·)) → (∀ x, x ∈ vs ↔ x ∈ vals E q) → vs.length ≤ K := fun vs hp hm => by
  have hn : vs.Nodup := hp.imp (fun h e => by omega)
  exact Nat.le_trans (nodup_le vs (vals E q) hn (fun x hx => (hm x).1 hx)) (Nat.le_trans (vals_le _ _) hE)
/-- .. of a node of a tree that lies ahead of the box. -/
theorem take_any (W : World) (pre : List Value) (a : TL) (N : List Pth) (E : List Ent) (nb ne : Nat) (Wo : World) (ob : Nat) (r : List Ent) (T : Tl Wo pre a N E nb ne) (hl : ∀ k, a.has N k → k < ob) (hE : E.length ≤ 100000) (hrl : r.length ≤ 1000000)
    (q : Pth) (hq : q ∈ N) (hql : q.length ≤ 32) (hW : Out Wo ob W r) :
    Calls Try.prog 49 #[pv (ad q : Nat) (q.length : Nat), ptr a pre q, .pointer (some ⟨ob, 0, none⟩)] W fun e w' => e = .returned (.tuple #[]) ∧ ∃ vs : List Int, vs.Pairwise (· < ·) ∧ (∀ v, v ∈ vs ↔ (q, v) ∈ E) ∧ Out Wo ob w' (r ++ vs.map fun v => (q, v)) ∧ Kt ob W w' := by
  have hm := fun w (hb : Below ob Wo w) => (tl_cells (T.below hb hl) hq).1.2.2
  have hmo := fun w (hb : Below ob Wo w) => (T.below hb hl).m.maps q hq
  refine (take_core W q hql (a.bk q) (off pre q) (a.mp q) Wo ob r (fun vs => vs.length ≤ 100000 ∧ ∀ x, x ∈ vs ↔ x ∈ vals E q) (fun vs h => h.1) hrl (Lib.hid hW) (Lib.hid hm) (Lib.hid (fun w hb hlt => ?_))).mono ?_
  · have h1 := hmo w hb
    have hv := vals_le E q
    cases hmq : a.mp q with
    | none =>
      rw [hmq] at h1
      refine (sorted_none w).mono ?_
      rintro e w' ⟨v, vs, rfl, rfl, h2, h3⟩
      have h1 : vals E q = [] := h1
      exact ⟨v, [], rfl, ⟨by simp, by rw [h1]; simp⟩, h2, h3⟩
    | some b =>
      rw [hmq] at h1
      refine (sorted_some w b _ h1 (by omega)).mono ?_
      rintro e w' ⟨v, vs, rfl, h2, h3, h4⟩
      exact ⟨v, vs, rfl, ⟨vals_ok 100000 hE q vs h3.1 h2, h2⟩, h3, h4⟩
  · rintro e w' ⟨rfl, vs, ⟨-, h1⟩, h2, h3⟩
    exact ⟨rfl, vs, h2, fun v => by rw [h1, mem_vals], h3⟩
end Go.Proofs.Ytgcbngephokegaa
