/- Texts joined, in their order: LL0, LL, AY. -/
import Derived.Test.YtgcbngephokegabG2d43a54908
import Derived.LoopN
import Derived.Test.YtgcbngephokegabGLM
/- Maps of which no more is wanted than that some keys are there; expressions that are handed in. -/
namespace Go.Proofs.Ytgcbngephokegab
open Go.ChangeShapes Go.WideShapes Go.ChangeAt Go.RowKit Go.Joins Go.Deep Go.WideElems Go.Maps Go.MapKept Go.ChangeMaps
set_option linter.unusedVariables false

section
variable {κ : Type} {P : Program} {tk te t : TypeId} {kv : κ → Value}
/-- Block b is a map that has these keys, and no more than n in all. -/
def MapB (P : Program) (tk te : TypeId) (kv : κ → Value) (w : World) (b n : Nat) (ks : List κ) : Prop :=
  ∃ es clock, w.heap[b]? = some (.map es clock) ∧ Fit (H := Unit) P tk (plainElem P te) es clock ∧ es.size ≤ n ∧ ∀ k ∈ ks, ∃ x ∈ es.toList, x.key = kv k
theorem MapB.made (w : World) : MapB P tk te kv (w.alloc (.map #[] 0)) w.heap.size 0 [] := by
  obtain ⟨es, clock, h1, h2, h3, h4⟩ := World.ownsMap_made (H := Unit) w P tk (plainElem P te)
  have h5 : es = #[] := by
    have k := (MapKept.heap_alloc w (.map #[] 0)).1
    rw [k] at h1; cases h1; rfl
  subst h5
  exact ⟨#[], clock, h1, h2, by simp, by simp⟩
theorem MapB.same {w w' : World} {b n : Nat} {ks : List κ} (h : MapB P tk te kv w b n ks) (hb : w'.heap[b]? = w.heap[b]?) : MapB P tk te kv w' b n ks := by
  obtain ⟨es, clock, h1, h2⟩ := h
  exact ⟨es, clock, hb.trans h1, h2⟩
theorem MapB.lt {w : World} {b n : Nat} {ks : List κ} (h : MapB P tk te kv w b n ks) : b < w.heap.size := by
  obtain ⟨es, clock, h1, -⟩ := h
  rcases Nat.lt_or_ge b w.heap.size with q | q
  · exact q
  · rw [Array.getElem?_eq_none q] at h1; cases h1
theorem mapB_store (K : Keyed P tk) (ht : P.underlying t = some (.map tk te)) (hv : ∀ x : Bool, plainElem (H := Unit) P te (.bool x) = some (.lit (.bool x), [])) {w : World} {b n : Nat} {ks : List κ} (h : MapB P tk te kv w b n ks) {k : κ} {l : Lit} (hk : keyOf P tk (kv k) = some l) (v : Bool) (hn : n < maxLen) :
    ∃ w', (Instr.mapUpdate t (.map (some b)) (kv k) (.bool v)).run P w = .ok () w' ∧ MapB P tk te kv w' b (n + 1) (k :: ks) ∧ Only b w w' := by
  obtain ⟨es, clock, hb, F, hs, hks⟩ := h
  obtain ⟨es', clock', hrun, F', -⟩ := fit_store (R' := plainElem P te) K ht hb F (by omega) (fun _ _ _ _ hz => hz) hk (hv v)
  have inj : ∀ es2 c2, (Instr.mapUpdate t (.map (some b)) (kv k) (.bool v)).run P w = .ok () (setBlock w b (.map es2 c2)) → es' = es2 := fun es2 c2 h2 => by
    rw [hrun] at h2
    have q := (Result.ok.inj h2).2
    have k1 := heap_setBlock_same hb (.map es' clock')
    rw [q, heap_setBlock_same hb] at k1
    cases k1; rfl
  refine ⟨_, hrun, ⟨es', clock', heap_setBlock_same hb _, F', ?_⟩, Only.set hb⟩
  rcases K.find w hk es.toList F.keys with ⟨h1, h2⟩ | ⟨j, e0, h1, h2, h3⟩
  · have e := inj (es.push ⟨kv k, .bool v, clock⟩) (clock + 1) (by simp [Instr.mapUpdate, run_underlying ht, MapKept.run_getObj_map hb, K.check w false hk, h1, MapKept.run_setObj_map _ hb, Result.andThen, setBlock])
    subst e
    refine ⟨by simp; omega, fun q hq => ?_⟩
    rcases List.mem_cons.1 hq with rfl | hq
    · exact ⟨⟨kv q, .bool v, clock⟩, by simp, rfl⟩
    · obtain ⟨x, x1, x2⟩ := hks q hq
      exact ⟨x, by simp [x1], x2⟩
  · have hj : es[j]? = some e0 := by simpa using h2
    have e := inj (es.modify j (fun e' => { e' with key := kv k, val := .bool v })) clock (by simp [Instr.mapUpdate, run_underlying ht, MapKept.run_getObj_map hb, K.check w false hk, h1, hj, h3, K.stays w hk, MapKept.run_setObj_map _ hb, Result.andThen, setBlock])
    subst e
    have hmem : ∀ x ∈ es.toList, ∃ y ∈ (es.modify j (fun e' => { e' with key := kv k, val := .bool v })).toList, y.key = x.key := fun x hx => by
      obtain ⟨i, hi, ex⟩ := List.getElem_of_mem hx
      rw [Array.toList_modify]
      rcases Nat.decEq j i with c | c
      · exact ⟨x, List.mem_of_getElem? (i := i) (by rw [List.getElem?_modify, List.getElem?_eq_getElem hi, ex]; simp [c]), rfl⟩
      · subst c
        refine ⟨{ x with key := kv k, val := .bool v }, List.mem_of_getElem? (i := j) (by rw [List.getElem?_modify, List.getElem?_eq_getElem hi, ex]; simp), ?_⟩
        have : x = e0 := by rw [List.getElem?_eq_getElem hi] at h2; cases h2; exact ex.symm
        rw [this]; exact h3.symm
    refine ⟨by simpa using (Nat.le_succ_of_le hs), fun q hq => ?_⟩
    rcases List.mem_cons.1 hq with rfl | hq
    · obtain ⟨y, y1, y2⟩ := hmem e0 (List.mem_of_getElem? h2)
      exact ⟨y, y1, y2.trans h3⟩
    · obtain ⟨x, x1, x2⟩ := hks q hq
      obtain ⟨y, y1, y2⟩ := hmem x x1
      exact ⟨y, y1, y2.trans x2⟩
theorem mapB_len (ht : P.underlying t = some (.map tk te)) {w : World} {b n : Nat} {ks : List κ} (h : MapB P tk te kv w b n ks) : ∃ (m : Nat) (vs : List Value), vs.length = m ∧ m ≤ n ∧ (∀ k ∈ ks, kv k ∈ vs) ∧ ∀ ty, (Builtin.len_ #[t] ty #[.map (some b)]).run P w = .ok (.int .i64 (m : Nat)) w := by
  obtain ⟨es, clock, hb, F, hs, hks⟩ := h
  refine ⟨es.size, es.toList.map (·.key), by simp, hs, fun k hk => ?_, fun ty => by simp [Builtin.len_, run_underlying ht, MapKept.run_getObj_map hb, goInt, Result.andThen]⟩
  obtain ⟨x, x1, x2⟩ := hks k hk
  exact List.mem_map.2 ⟨x, x1, x2⟩
end
theorem cellsInt' : Try.prog.cellsOf 3 = 1 := by kernel_rfl
theorem cellsBool' : Try.prog.cellsOf 4 = 1 := by kernel_rfl
theorem cellsEx : Try.prog.cellsOf 59 = 6 := by kernel_rfl
section
variable {H : Type} {enc : TypeId × Value → H} {w : World} {base : Nat} {sp : Nat → Bool} {held : Bool}
set_option maxRecDepth 100000 in
theorem ex_dec (m : Nat) (cs : List Value) (y : DataW H × List MemPlace) (hl : cs.length = 5 + 1) (h : DataW.trod enc Try.prog w base sp held m 59 cs = some y) : ∃ x : Ex, x.cells = cs ∧ (-9223372036854775808 ≤ x.v ∧ x.v ≤ 9223372036854775807) := by
  match cs, hl with
  | [c0, c1, c2, c3, c4, c5], _ =>
    obtain ⟨m0, y0, h0⟩ := trod_field Try.underlying59 h 0 3 0 rfl
    obtain ⟨m1, y1, h1⟩ := trod_field Try.underlying59 h 1 3 1 rfl
    obtain ⟨m2, y2, h2⟩ := trod_field Try.underlying59 h 2 3 2 rfl
    obtain ⟨m3, y3, h3⟩ := trod_field Try.underlying59 h 3 3 3 rfl
    obtain ⟨m4, y4, h4⟩ := trod_field Try.underlying59 h 4 3 4 rfl
    obtain ⟨m5, y5, h5⟩ := trod_field Try.underlying59 h 5 4 5 rfl
    simp only [cellsInt', cellsBool', List.drop_zero, List.drop_succ_cons, List.take_succ_cons, List.take_zero] at h0 h1 h2 h3 h4 h5
    obtain ⟨x0, rfl, -⟩ := int_cell Try.underlying3 h0
    obtain ⟨x1, rfl, -⟩ := int_cell Try.underlying3 h1
    obtain ⟨x2, rfl, -⟩ := int_cell Try.underlying3 h2
    obtain ⟨x3, rfl, -⟩ := int_cell Try.underlying3 h3
    obtain ⟨x4, rfl, w4⟩ := int_cell Try.underlying3 h4
    obtain ⟨x5, rfl⟩ := bool_cell Try.underlying4 h5
    obtain ⟨b1, b2⟩ := bounds_i64 w4
    exact ⟨⟨x0, x1, x2, x3, x4, x5⟩, rfl, b1, by omega⟩
/-- Expressions that are handed in. -/
structure Exs (w : World) (v : Value) (L : List Ex) (la : Option Addr) (lc : Nat) : Prop where
  v : v = .slice la L.length lc
  r : Rw w la (L.flatMap Ex.cells)
  ok : ∀ x ∈ L, -9223372036854775808 ≤ x.v ∧ x.v ≤ 9223372036854775807
  len : L.length ≤ maxLen
  cap : L.length ≤ lc
theorem exs_open {v : Value} {d : DataW H} {p : List MemPlace} (h : DataW.Trod enc Try.prog w 0 sp held 22 v d p) (hv : ∃ c, v.cells.toList = [c] ∧ v = c) : ∃ L la lc, Exs w v L la lc := by
  obtain ⟨fuel, hf⟩ := h
  obtain ⟨c, hc, rfl⟩ := hv
  rw [hc] at hf
  obtain ⟨la, lc, L, e0, r0, o0, l0, c0⟩ := slice_rows Ex.cells (fun x => -9223372036854775808 ≤ x.v ∧ x.v ≤ 9223372036854775807) 5 Try.underlying22 cellsEx (fun _ => rfl) ex_dec hf
  simp at e0
  exact ⟨L, la, lc, e0, r0, o0, l0, c0⟩
end
end Go.Proofs.Ytgcbngephokegab
/- Whether expressions may be, and are few. -/
namespace Go.Proofs.Ytgcbngephokegab
open Go.RowKit Go.Maps Go.MapKept Go.ChangeMaps Go.WideElems Go.Joins
set_option linter.unusedVariables false

/-- A bool is told, and what true means. -/
def TellsR (Q : Prop) (w : World) (e : Ending) (w' : World) : Prop := ∃ r, e = .returned (.bool r) ∧ (r = true → Q) ∧ Below w.heap.size w w'
theorem tellsR {Q : Prop} {w : World} {e : Ending} {w' : World} {r : Bool} (h : e = .returned (.bool r)) (q : r = true → Q) (b : Below w.heap.size w w') : TellsR Q w e w' := ⟨r, h, q, b⟩
theorem tellsF {Q : Prop} {w : World} {w' : World} (b : Below w.heap.size w w') : TellsR Q w (.returned (.bool false)) w' := ⟨false, rfl, fun q => (by cases q), b⟩
theorem okL_of : ∀ (l : List Ex) (i : Nat), (∀ (j : Nat) (x : Ex), l[j]? = some x → x.Ok (i + j)) → OkL i l
  | [], i, h => trivial
  | y :: r, i, h => ⟨h 0 y rfl, okL_of r (i + 1) (fun j x hx => by have := h (j + 1) x (by simpa using hx); rw [show i + (j + 1) = i + 1 + j by omega] at this; exact this)⟩
set_option maxRecDepth 100000 in
set_option maxHeartbeats 8000000 in
theorem right_any (L : List Ex) (la : Option Addr) (lc : Nat) (w : World) (hL : Rw w la (L.flatMap Ex.cells)) (hlen : L.length ≤ maxLen) :
    Calls Try.prog 29 #[.slice la L.length lc] w (TellsR (OkL 0 L) w) := by
  obtain ⟨n, hn⟩ : ∃ n, L.length = n := ⟨_, rfl⟩
  rw [hn]
  rw [hn] at hlen
  have hnm := hlen
  have HN := Lib.hid hn
  have HL0 := Lib.hid hL
  clear hn hL hlen
  go_enter Try.func29, Try.ntmps29
  go_wp2_with fail
  go_loopw [3, 4] (fun hv iv' wr => ∃ (hd : Int) (k : Nat), hv = .int .i64 hd ∧ iv' = .int .i64 (k : Nat) ∧ k ≤ n ∧ Hid (∀ j x, j < k → L[j]? = some x → x.Ok j) ∧ Hid (Below w.heap.size w wr)) (fun _ iv' _ => n - (intOf iv').toNat)
  case atStart => exact ⟨0, 0, rfl, rfl, Nat.zero_le _, Lib.hid (fun j x hj => by omega), Lib.hid (Below.refl _ _)⟩
  case round =>
    obtain ⟨hd, k, rfl, rfl, hk, hOk, hB⟩ := hrel
    by_cases hkn : k < n
    · obtain ⟨x, hx⟩ : ∃ x, L[k]? = some x := ⟨_, List.getElem?_eq_getElem (by have := HN.out; omega)⟩
      obtain ⟨b, off, rfl⟩ := HL0.out.elemAd 5 Ex.cells_len hx
      have HX := Lib.hid hx
      obtain ⟨xk, xa, xb, xc, xv, xo⟩ := x
      have el := (HL0.out.on hB.out).elem 6 Ex.cells_len hx
      have l_0 : wr.cell? ⟨b, off + k * 6, none⟩ = some (.int .i64 xk) := el 0 rfl
      have l_1 : wr.cell? ⟨b, off + k * 6 + 1, none⟩ = some (.int .i64 xa) := el 1 rfl
      have l_2 : wr.cell? ⟨b, off + k * 6 + 2, none⟩ = some (.int .i64 xb) := el 2 rfl
      have l_3 : wr.cell? ⟨b, off + k * 6 + 3, none⟩ = some (.int .i64 xc) := el 3 rfl
      have l_4 : wr.cell? ⟨b, off + k * 6 + 4, none⟩ = some (.int .i64 xv) := el 4 rfl
      have l_5 : wr.cell? ⟨b, off + k * 6 + 5, none⟩ = some (.bool xo) := el 5 rfl
      have hwk : IntKind.i64.wrap ((k : Int) + 1) = ((k + 1 : Nat) : Int) := by rw [IntKind.wrap_i64]; unfold maxLen at hnm; omega
      clear el hx
      go_upto_region 6 with fail
      refine at_code (S := fun W' => Blk W' wr.heap.size [.int .i64 xk, .int .i64 xa, .int .i64 xb, .int .i64 xc, .int .i64 xv, .bool xo] ∧ Below wr.heap.size wr W' ∧ wr.heap.size < W'.heap.size) ⟨Blk.new _ _ _, bel_al (Below.refl _ _) _, by simp⟩ (fun W1 hW => ?_)
      obtain ⟨hX, hb, hlt⟩ := hW
      have B1 := Lib.hid hb
      obtain ⟨x_0, x_1, x_2, x_3, x_4, x_5⟩ : _ ∧ _ ∧ _ ∧ _ ∧ _ ∧ _ := ⟨hX.1 0 _ rfl, hX.1 1 _ rfl, hX.1 2 _ rfl, hX.1 3 _ rfl, hX.1 4 _ rfl, hX.1 5 _ rfl⟩
      clear l_0 l_1 l_2 l_3 l_4 l_5 hX
      go_cut [71] (fun u wx => ∃ r, u = .bool r ∧ (r = false → Ex.Ok ⟨xk, xa, xb, xc, xv, xo⟩ k) ∧ W1 = wx)
      case first =>
        clear HL0 HN HX hOk hB B1 hwk hnm
        by_cases k1 : xk < 0
        · as_aux_lemma =>
            go_wp2
            go_meet
            exact ⟨true, rfl, fun q => (by cases q), rfl⟩
        · by_cases k2 : 9 < xk
          · as_aux_lemma =>
              go_wp2
              go_meet
              exact ⟨true, rfl, fun q => (by cases q), rfl⟩
          · by_cases k3 : 3 ≤ xk
            · by_cases c1 : xa < 0
              · as_aux_lemma =>
                  go_wp2
                  go_meet
                  exact ⟨true, rfl, fun q => (by cases q), rfl⟩
              · by_cases c2 : (k : Int) ≤ xa
                · as_aux_lemma =>
                    go_wp2
                    go_meet
                    exact ⟨true, rfl, fun q => (by cases q), rfl⟩
                · by_cases c3 : xb < 0
                  · as_aux_lemma =>
                      go_wp2
                      go_meet
                      exact ⟨true, rfl, fun q => (by cases q), rfl⟩
                  · by_cases c4 : (k : Int) ≤ xb
                    · as_aux_lemma =>
                        go_wp2
                        go_meet
                        exact ⟨true, rfl, fun q => (by cases q), rfl⟩
                    · by_cases c5 : xc < 0
                      · as_aux_lemma =>
                          go_wp2
                          go_meet
                          exact ⟨true, rfl, fun q => (by cases q), rfl⟩
                      · by_cases c6 : (k : Int) ≤ xc
                        · as_aux_lemma =>
                            go_wp2
                            go_meet
                            exact ⟨true, rfl, fun q => (by cases q), rfl⟩
                        · by_cases c7 : xv < 0
                          · as_aux_lemma =>
                              go_wp2
                              go_meet
                              exact ⟨true, rfl, fun q => (by cases q), rfl⟩
                          · by_cases c8 : 104 ≤ xv
                            · as_aux_lemma =>
                                go_wp2
                                go_meet
                                exact ⟨true, rfl, fun q => (by cases q), rfl⟩
                            · have hok : Ex.Ok ⟨xk, xa, xb, xc, xv, xo⟩ k := ⟨by show 0 ≤ xk; omega, by show xk ≤ 9; omega, fun q => ⟨by show 0 ≤ xa; omega, by show xa < (k : Int); omega, by show 0 ≤ xb; omega, by show xb < (k : Int); omega, by show 0 ≤ xc; omega, by show xc < (k : Int); omega⟩, by show 0 ≤ xv; omega, by show xv < 104; omega⟩
                              have HOk := Lib.hid hok
                              clear hok
                              as_aux_lemma =>
                                go_wp2
                                go_meet
                                exact ⟨false, rfl, fun _ => HOk.out, rfl⟩
            · by_cases c7 : xv < 0
              · as_aux_lemma =>
                  go_wp2
                  go_meet
                  exact ⟨true, rfl, fun q => (by cases q), rfl⟩
              · by_cases c8 : 104 ≤ xv
                · as_aux_lemma =>
                    go_wp2
                    go_meet
                    exact ⟨true, rfl, fun q => (by cases q), rfl⟩
                · have hok : Ex.Ok ⟨xk, xa, xb, xc, xv, xo⟩ k := ⟨by show 0 ≤ xk; omega, by show xk ≤ 9; omega, fun q => by replace q : 3 ≤ xk := q; omega, by show 0 ≤ xv; omega, by show xv < 104; omega⟩
                  have HOk := Lib.hid hok
                  clear hok
                  as_aux_lemma =>
                    go_wp2
                    go_meet
                    exact ⟨false, rfl, fun _ => HOk.out, rfl⟩
      case rest =>
        obtain ⟨r, rfl, hr, rfl⟩ := hcut
        have HR := Lib.hid hr
        clear hr
        cases r with
        | true =>
          go_wp2
          go_ret
          exact tellsF (bel_on' hB.out B1.out)
        | false =>
          have hnext : Hid (∀ j x, j < k + 1 → L[j]? = some x → x.Ok j) := Lib.hid (fun j x hj hx => by
            rcases Nat.lt_or_ge j k with q | q
            · exact hOk.out j x q hx
            · have : j = k := by omega
              subst this
              rw [HX.out] at hx
              cases hx
              exact HR.out rfl)
          by_cases h8 : xk = 8
          · subst h8
            go_wp2_with fail
            refine ⟨⟨_, k + 1, rfl, ?_, by omega, hnext, Lib.hid (bel_on' hB.out B1.out)⟩, by simp [intOf] <;> omega⟩
            first | rfl | rw [hwk]
          · have h8' : (xk == 8) = false := by simp; exact h8
            go_wp2_with fail
            refine ⟨⟨_, k + 1, rfl, ?_, by omega, hnext, Lib.hid (bel_on' hB.out B1.out)⟩, by simp [intOf] <;> omega⟩
            first | rfl | rw [hwk]
    · have hkn' : k = n := by omega
      subst hkn'
      go_wp2
      go_ret
      refine tellsR rfl (fun _ => okL_of L 0 (fun j x hx => ?_)) hB.out
      rw [Nat.zero_add]
      exact hOk.out j x (by have := lt_of_get hx; have := HN.out; omega) hx
/-- What Light tells. -/
structure Lt (L : List Ex) : Prop where
  len : L.length ≤ 60
  ok : OkL 0 L
  few : ∃ B, pw B ≤ 1024 ∧ ∀ x ∈ L, x.k = 2 → B x.v.toNat = true
def intOfV : Value → Option Nat
  | .int _ z => some z.toNat
  | _ => none
theorem lt_few (L : List Ex) (vs : List Value) (hm : vs.length ≤ 10) (h : ∀ x ∈ L, x.k = 2 → Value.int .i64 x.v ∈ vs) (hok : OkL 0 L) : ∃ B, pw B ≤ 1024 ∧ ∀ x ∈ L, x.k = 2 → B x.v.toNat = true := by
  refine ⟨fun i => (vs.filterMap intOfV).contains i, ?_, fun x hx hk => ?_⟩
  · refine pw_few (l := vs.filterMap intOfV) (k := 10) (fun i hi => by simpa using hi) ?_
    exact Nat.le_trans (List.length_filterMap_le _ _) hm
  · rw [List.contains_iff_mem, List.mem_filterMap]
    exact ⟨_, h x hx hk, rfl⟩
set_option maxRecDepth 100000 in
set_option maxHeartbeats 8000000 in
theorem light_any (L : List Ex) (la : Option Addr) (lc : Nat) (w : World) (hL : Rw w la (L.flatMap Ex.cells)) (hlen : L.length ≤ maxLen) (hrng : ∀ x ∈ L, -9223372036854775808 ≤ x.v ∧ x.v ≤ 9223372036854775807) :
    Calls Try.prog 12 #[.slice la L.length lc] w (TellsR (Lt L) w) := by
  have CR := Lib.hid (fun (W : World) (hb : Below w.heap.size w W) => right_any L la lc W (hL.on hb) hlen)
  obtain ⟨n, hn⟩ : ∃ n, L.length = n := ⟨_, rfl⟩
  rw [hn] at CR ⊢
  rw [hn] at hlen
  have hnm := hlen
  have HN := Lib.hid hn
  have HL0 := Lib.hid hL
  have HRg := Lib.hid hrng
  have hmm := @run_makeMap Try.prog
  clear hn hL hlen hrng
  go_enter Try.func12, Try.ntmps12
  go_upto_region 2 with fail
  refine at_code (S := fun W' => MapB Try.prog 3 4 (fun z : Int => .int .i64 z) W' w.heap.size 0 [] ∧ Below w.heap.size w W') ⟨MapB.made w, bel_al (Below.refl _ _) _⟩ (fun W0 hW => ?_)
  have M0 := Lib.hid hW.1
  have B0 := Lib.hid hW.2
  clear hW hmm
  go_wp2_with fail
  go_loopw [9] (fun iv' wr => ∃ k : Nat, iv' = .int .i64 (k : Nat) ∧ k ≤ n ∧ ∃ ks : List Int, Hid (MapB Try.prog 3 4 (fun z : Int => .int .i64 z) wr w.heap.size k ks) ∧ Hid (∀ j x, j < k → L[j]? = some x → x.k = 2 → x.v ∈ ks) ∧ Hid (Below w.heap.size w wr)) (fun iv' _ => n - (intOf iv').toNat)
  case atStart => exact ⟨0, rfl, Nat.zero_le _, [], M0, Lib.hid (fun j x hj => by omega), B0⟩
  case round =>
    obtain ⟨k, rfl, hk, ks, hM, hKs, hB⟩ := hrel
    by_cases hkn : k < n
    · obtain ⟨x, hx⟩ : ∃ x, L[k]? = some x := ⟨_, List.getElem?_eq_getElem (by have := HN.out; omega)⟩
      obtain ⟨b, off, rfl⟩ := HL0.out.elemAd 5 Ex.cells_len hx
      have HX := Lib.hid hx
      obtain ⟨xk, xa, xb, xc, xv, xo⟩ := x
      have el := (HL0.out.on hB.out).elem 6 Ex.cells_len hx
      have l_0 : wr.cell? ⟨b, off + k * 6, none⟩ = some (.int .i64 xk) := el 0 rfl
      have l_1 : wr.cell? ⟨b, off + k * 6 + 1, none⟩ = some (.int .i64 xa) := el 1 rfl
      have l_2 : wr.cell? ⟨b, off + k * 6 + 2, none⟩ = some (.int .i64 xb) := el 2 rfl
      have l_3 : wr.cell? ⟨b, off + k * 6 + 3, none⟩ = some (.int .i64 xc) := el 3 rfl
      have l_4 : wr.cell? ⟨b, off + k * 6 + 4, none⟩ = some (.int .i64 xv) := el 4 rfl
      have l_5 : wr.cell? ⟨b, off + k * 6 + 5, none⟩ = some (.bool xo) := el 5 rfl
      have hwk : IntKind.i64.wrap ((k : Int) + 1) = ((k + 1 : Nat) : Int) := by rw [IntKind.wrap_i64]; unfold maxLen at hnm; omega
      clear el hx
      go_upto_region 5 with fail
      refine at_code (S := fun W' => Blk W' wr.heap.size [.int .i64 xk, .int .i64 xa, .int .i64 xb, .int .i64 xc, .int .i64 xv, .bool xo] ∧ Below wr.heap.size wr W' ∧ wr.heap.size < W'.heap.size) ⟨Blk.new _ _ _, bel_al (Below.refl _ _) _, by simp⟩ (fun W1 hW => ?_)
      obtain ⟨hX, hb, hlt⟩ := hW
      have B1 := Lib.hid hb
      obtain ⟨x_0, x_1, x_2, x_3, x_4, x_5⟩ : _ ∧ _ ∧ _ ∧ _ ∧ _ ∧ _ := ⟨hX.1 0 _ rfl, hX.1 1 _ rfl, hX.1 2 _ rfl, hX.1 3 _ rfl, hX.1 4 _ rfl, hX.1 5 _ rfl⟩
      clear l_0 l_1 l_2 l_3 l_4 l_5 hX
      have M1 := Lib.hid (hM.out.same (hb.block _ hM.out.lt))
      clear hb
      by_cases h2 : xk = 2
      · subst h2
        have hrg := HRg.out _ (List.mem_of_getElem? HX.out)
        simp only at hrg
        have hkey : keyOf Try.prog 3 ((fun z : Int => Value.int .i64 z) xv) = some (.int .i64 xv) := keyOf_int_mk Try.underlying3 (by rw [Lit.wf, Bool.and_eq_true, decide_eq_true_eq, decide_eq_true_eq, show IntKind.i64.min = -9223372036854775808 from rfl, show IntKind.i64.max = 9223372036854775807 from rfl]; omega)
        obtain ⟨w2, hup, hM2, hO2⟩ := mapB_store (int_keyed Try.underlying3) Try.underlying73 (fun x => plainElem_bool Try.underlying4 x) M1.out hkey true (by omega)
        have M2 := Lib.hid hM2
        have O2 := Lib.hid hO2
        clear hM2 hO2 hkey hrg hlt
        try simp only at hup
        go_wp2_with fail
        refine ⟨⟨k + 1, ?_, by omega, xv :: ks, M2, Lib.hid (fun j x hj hx hx2 => ?_), Lib.hid ?_⟩, by simp [intOf] <;> omega⟩
        · first | rfl | rw [hwk]
        · rcases Nat.lt_or_ge j k with q | q
          · exact List.mem_cons_of_mem _ (hKs.out j x q hx hx2)
          · have : j = k := by omega
            subst this
            rw [HX.out] at hx
            cases hx
            exact List.mem_cons_self ..
        · exact O2.out.below (bel_on' hB.out B1.out) (Nat.le_refl _)
      · have h2' : (xk == 2) = false := by simp; exact h2
        go_wp2_with fail
        refine ⟨⟨k + 1, ?_, by omega, ks, Lib.hid ?_, Lib.hid (fun j x hj hx hx2 => ?_), Lib.hid (bel_on' hB.out B1.out)⟩, by simp [intOf] <;> omega⟩
        · first | rfl | rw [hwk]
        · obtain ⟨es, clock, q1, q2, q3, q4⟩ := M1.out
          exact ⟨es, clock, q1, q2, by omega, q4⟩
        · rcases Nat.lt_or_ge j k with q | q
          · exact hKs.out j x q hx hx2
          · have : j = k := by omega
            subst this
            rw [HX.out] at hx
            cases hx
            exact absurd hx2 h2
    · have hkn' : k = n := by omega
      subst hkn'
      obtain ⟨m, vs, hvl, hmn, hvs, hml⟩ := mapB_len Try.underlying73 hM.out
      have HV := Lib.hid (And.intro hvl hvs)
      clear hvl hvs
      have CR' := Lib.hid (CR.out wr hB.out)
      clear CR
      by_cases h60 : k ≤ 60
      · have h60' : (k : Int) ≤ 60 := by omega
        by_cases h10 : m ≤ 10
        · have h10' : (m : Int) ≤ 10 := by omega
          go_wp2_with fail
          refine CR'.out.mono ?_
          rintro e w3 ⟨r, rfl, hr, hb⟩
          have HR := Lib.hid (And.intro hr hb)
          clear hr hb
          go_wp2
          go_ret
          refine tellsR (r := r) rfl (fun q => ⟨by rw [HN.out]; exact h60, HR.out.1 q, lt_few L vs (by rw [HV.out.1]; exact h10) (fun x hx hx2 => ?_) (HR.out.1 q)⟩) (bel_on' hB.out HR.out.2)
          obtain ⟨j, hj⟩ := List.getElem?_of_mem hx
          exact HV.out.2 _ (hKs.out j x (by have := lt_of_get hj; have := HN.out; omega) hj hx2)
        · have h10' : ¬ (m : Int) ≤ 10 := by omega
          go_wp2
          go_ret
          exact tellsF hB.out
      · have h60' : ¬ (k : Int) ≤ 60 := by omega
        go_wp2
        go_ret
        exact tellsF hB.out
end Go.Proofs.Ytgcbngephokegab
/- Calls on an arena with room enough. -/
namespace Go.Proofs.Ytgcbngephokegab
open Go.RowKit
set_option linter.unusedVariables false

/-- What a call with room enough answers and leaves. -/
def Big (Z : Nat → Prop) (p : Nat) (W : World) (B : Nat → Bool) (ns : List Nd) (c : Nat) (φ : Env → Bool) (e : Ending) (w' : World) : Prop :=
  ∃ q ns', e = .returned (.tuple #[.int .i64 (q : Nat), .int .i64 0]) ∧ Sta Z p w' 262144 ns' ∧ Hold Z W w' ∧ On B ns ns' c ∧ St ns' q φ
theorem big_got {Z : Nat → Prop} {p : Nat} {W : World} {B : Nat → Bool} {ns : List Nd} {c : Nat} {φ : Env → Bool} {R : Option Nat × List Nd} (hR : ∃ q ns', R = (some q, ns') ∧ On B ns ns' c ∧ St ns' q φ) {e : Ending} {w' : World} (h : Got2 Z p 262144 R W e w') : Big Z p W B ns c φ e w' := by
  obtain ⟨q, ns', rfl, o, s⟩ := hR
  obtain ⟨rfl, hS, hH⟩ := h
  exact ⟨q, ns', rfl, hS, hH, o, s⟩
section
variable {Z : Nat → Prop} {p : Nat} {W : World} {ns : List Nd} {B : Nat → Bool} {c : Nat}
theorem bJoin (h : Sta Z p W 262144 ns) (hB : Bits B ns) (kind : Nat) (hk : kind ≤ 3) {f g : Nat} {φ ψ : Env → Bool} (hf : St ns f φ) (hg : St ns g ψ) (hc : pw B ≤ c) (hm : ns.length + c < 262144) :
    Calls Try.prog 17 #[.pointer (some ⟨p, 0, none⟩), .int .i64 (kind : Nat), .int .i64 (f : Nat), .int .i64 (g : Nat)] W (Big Z p W B ns c (fun e => opB kind (φ e) (ψ e))) :=
  (sJoin h kind f g hk hf.1 hg.1).mono fun _ _ => big_got (jF_big h.wf hf hg hB hc hm)
theorem bNot (h : Sta Z p W 262144 ns) (hB : Bits B ns) {f : Nat} {φ : Env → Bool} (hf : St ns f φ) (hc : pw B ≤ c) (hm : ns.length + c < 262144) :
    Calls Try.prog 18 #[.pointer (some ⟨p, 0, none⟩), .int .i64 (f : Nat)] W (Big Z p W B ns c (fun e => !φ e)) :=
  (sNot h f hf.1).mono fun _ _ q => big_got (by
    obtain ⟨q, ns', e, o, s⟩ := jF_big (kind := 3) h.wf (St.top h.wf) hf hB hc hm
    exact ⟨q, ns', e, o, s.1, fun e => by rw [s.2]; simp [opB]⟩) q
theorem bIte (h : Sta Z p W 262144 ns) (hB : Bits B ns) {f g i : Nat} {φ ψ χ : Env → Bool} (hf : St ns f φ) (hg : St ns g ψ) (hi : St ns i χ) (hc : 3 * pw B ≤ c) (hm : ns.length + c < 262144) :
    Calls Try.prog 20 #[.pointer (some ⟨p, 0, none⟩), .int .i64 (f : Nat), .int .i64 (g : Nat), .int .i64 (i : Nat)] W (Big Z p W B ns c (fun e => iteB (φ e) (ψ e) (χ e))) :=
  (sIte h f g i hf.1 hg.1 hi.1).mono fun _ _ => big_got (iF_big h.wf hf hg hi hB hc hm)
theorem bRes (h : Sta Z p W 262144 ns) (hB : Bits B ns) {f i : Nat} (on : Bool) (hi : i < 104) {φ : Env → Bool} (hf : St ns f φ) (hc : pw B ≤ c) (hm : ns.length + c < 262144) :
    Calls Try.prog 19 #[.pointer (some ⟨p, 0, none⟩), .int .i64 (f : Nat), .int .i64 (i : Nat), .bool on] W (Big Z p W B ns c (fun e => φ (hld e i on))) :=
  (sRes h f i on hi hf.1).mono fun _ _ => big_got (rF_big hi h.wf hf hB hc hm)
theorem bVar (h : Sta Z p W 262144 ns) (hB : Bits B ns) {i : Nat} (hi : i < 104) (hBi : B i = true) (hc : 1 ≤ c) (hm : ns.length + c < 262144) :
    Calls Try.prog 14 #[.pointer (some ⟨p, 0, none⟩), .int .i64 (i : Nat)] W (Big Z p W B ns c (fun e => e i)) :=
  (sVar h i hi).mono fun _ _ q => big_got (by
    obtain ⟨q, ns', e, o, s⟩ := cF_big (l := [(i, true)]) h.wf (rise_one hi true).1 (rise_one hi true).2 hB (fun p hp => by rw [List.mem_singleton.1 hp]; exact hBi) (k := c) (by simpa using hc) hm
    exact ⟨q, ns', e, o, s.1, fun e => by rw [s.2]; simp [allB]⟩) q
end
theorem On.st {B : Nat → Bool} {ns ns' : List Nd} {k q : Nat} {φ : Env → Bool} (h : On B ns ns' k) (hw : WF ns) (s : St ns q φ) : St ns' q φ := s.ext h.ext hw h.wf
/-- What Make leaves of few expressions in a new arena. -/
structure Few (L : List Ex) (o : List Nat) (B : Nat → Bool) (ns : List Nd) : Prop where
  len : o.length = L.length
  st : Stand ns o (semL [] L)
  bits : Bits B ns
  pw : pw B ≤ 1024
  most : ns.length ≤ 184322
def MkB (Z : Nat → Prop) (p : Nat) (W : World) (L : List Ex) (e : Ending) (w' : World) : Prop :=
  ∃ v o B ns, e = .returned (.tuple #[v, .int .i64 0]) ∧ Sta (Zv Z v) p w' 262144 ns ∧ Hold Z W w' ∧ w'.ownsRow W.heap.size 3 1 v o.length (o.map iv) ∧ Few L o B ns
theorem make_big {Z : Nat → Prop} {p : Nat} {W : World} (h : Sta Z p W 262144 [bot, top]) {L : List Ex} {la : Option Addr} {lc : Nat} (hL : Rw W la (L.flatMap Ex.cells)) (hZ : ∀ b off, la = some ⟨b, off, none⟩ → 0 < L.length → Z b) (lt : Lt L) :
    Calls Try.prog 7 #[.pointer (some ⟨p, 0, none⟩), .slice la L.length lc] W (MkB Z p W L) := by
  refine (make_any Z p 262144 [bot, top] L la lc W h hL hZ lt.ok lt.len).mono ?_
  rintro e w' ⟨v, rfl, hS, hH, hR⟩
  obtain ⟨B, hp, hB⟩ := lt.few
  obtain ⟨-, -, -, m4, -, -, m7⟩ := mk_any 262144 L [bot, top] [] [] wf_new (Stand.nil _) lt.ok
  obtain ⟨b1, b2, b3⟩ := m7 B 1024 (bits_new B) hB hp
  have hl : ([bot, top] : List Nd).length = 2 := rfl
  have h60 := lt.len
  have hok := b3 (by omega)
  obtain ⟨st, -⟩ := m4 hok
  refine ⟨v, _, B, _, by rw [hok]; rfl, hS, hH, hR, ⟨?_, st, b1, hp, by omega⟩⟩
  have := st.len
  rw [semL_len] at this
  simpa using this
/-- The last of what was made, and others. -/
theorem Few.at_ {L : List Ex} {o : List Nat} {B : Nat → Bool} {ns : List Nd} (h : Few L o B ns) {i : Nat} (hi : i < L.length) : St ns (o.getD i 0) ((semL [] L).getD i (fun _ => false)) :=
  h.st.at' i (by rw [semL_len]; simpa using hi)
theorem Zv_lt {Z : Nat → Prop} {v : Value} {n : Nat} (h : ∀ k, k < n → Z k) : ∀ k, k < n → Zv Z v k := fun k hk => Or.inl (h k hk)
/-- What a law over expressions that are handed in begins with. -/
theorem rw_z {w : World} {la : Option Addr} {L : List Ex} (h : Rw w la (L.flatMap Ex.cells)) : ∀ b off, la = some ⟨b, off, none⟩ → 0 < L.length → b < w.heap.size := fun b off e hl => by
  match L, hl with
  | x :: r, _ =>
    obtain ⟨b', off', e', hc⟩ := h 0 (.int .i64 x.k) (by simp [List.flatMap_cons, Ex.cells])
    rw [e] at e'
    cases e'
    exact cell_lt (o := off + 0) (by rw [hc]; rfl)
end Go.Proofs.Ytgcbngephokegab
