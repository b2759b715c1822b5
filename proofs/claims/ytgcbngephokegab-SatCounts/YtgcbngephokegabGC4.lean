/- The document's Counts. -/
import Derived.Test.YtgcbngephokegabGa24d2bb799
import Derived.Test.YtgcbngephokegabGc9f63fa7b2
namespace Go.Proofs.Ytgcbngephokegab
open Go.RowKit Wd
set_option linter.unusedVariables false
set_option linter.unusedSimpArgs false

def hcells (p : Nat × Nat) : List Value := [.int .u32 (fd p.1 : Nat), .int .u32 (fs p.1 : Nat), .int .u8 (fd p.2 : Nat), .int .u16 (fx p.2 : Nat), .int .u16 (fy p.2 : Nat)]
/-- The i-th set. -/
def phi (L : List Ex) (i : Nat) : Env → Bool := (semL [] L).getD i (fun _ => false)
/-- What the tables hold when so many ways are gone through. -/
structure CT (L : List Ex) (V : List Nat) (gv gn gl gs m n x : Nat) (w : World) : Prop where
  tv : Tbl w gv 1 m (fun i => [iv (V.getD i 0)])
  tn : Tbl w gn 1 n (fun i => [iv (cW (phi L i) V x)])
  tl : Tbl w gl 5 n (fun i => hcells (lW (phi L i) V x))
  ts : Tbl w gs 1 n (fun i => [.bool (sW (phi L i) V x)])
theorem CT.on {L : List Ex} {V : List Nat} {gv gn gl gs m n x : Nat} {w w' : World} (h : CT L V gv gn gl gs m n x w) (hb : Below w.heap.size w w') : CT L V gv gn gl gs m n x w' := ⟨h.tv.on hb, h.tn.on hb, h.tl.on hb, h.ts.on hb⟩
/-- .. and so many sets of the next one. -/
structure CU (L : List Ex) (V : List Nat) (gv gn gl gs m n x i : Nat) (w : World) : Prop where
  tv : Tbl w gv 1 m (fun j => [iv (V.getD j 0)])
  tn : Tbl w gn 1 n (fun j => [iv (cW (phi L j) V (if j < i then x + 1 else x))])
  tl : Tbl w gl 5 n (fun j => hcells (lW (phi L j) V (if j < i then x + 1 else x)))
  ts : Tbl w gs 1 n (fun j => [.bool (sW (phi L j) V (if j < i then x + 1 else x))])
theorem CU.on {L : List Ex} {V : List Nat} {gv gn gl gs m n x i : Nat} {w w' : World} (h : CU L V gv gn gl gs m n x i w) (hb : Below w.heap.size w w') : CU L V gv gn gl gs m n x i w' := ⟨h.tv.on hb, h.tn.on hb, h.tl.on hb, h.ts.on hb⟩
theorem CT.cu {L : List Ex} {V : List Nat} {gv gn gl gs m n x : Nat} {w : World} (h : CT L V gv gn gl gs m n x w) : CU L V gv gn gl gs m n x 0 w := by
  refine ⟨h.tv, h.tn.congr fun i _ => ?_, h.tl.congr fun i _ => ?_, h.ts.congr fun i _ => ?_⟩ <;> rw [if_neg (by omega)]
theorem CU.ct {L : List Ex} {V : List Nat} {gv gn gl gs m n x : Nat} {w : World} (h : CU L V gv gn gl gs m n x n w) : CT L V gv gn gl gs m n (x + 1) w := by
  refine ⟨h.tv, h.tn.congr fun i hi => ?_, h.tl.congr fun i hi => ?_, h.ts.congr fun i hi => ?_⟩ <;> rw [if_pos hi]
theorem CU.skip {L : List Ex} {V : List Nat} {gv gn gl gs m n x j : Nat} {w : World} (h : CU L V gv gn gl gs m n x j w) (hp : phi L j (envW V x (fun _ => false)) = false) : CU L V gv gn gl gs m n x (j + 1) w := by
  have hc : cW (phi L j) V (x + 1) = cW (phi L j) V x := by rw [cW_succ, hp, if_neg (by simp), Nat.add_zero]
  have hs : sW (phi L j) V (x + 1) = sW (phi L j) V x := by rw [sW_succ, hp, Bool.or_false]
  have hl : lW (phi L j) V (x + 1) = lW (phi L j) V x := by
    rw [lW_succ, hp]
    cases c : sW (phi L j) V x with
    | true => rw [if_pos rfl]
    | false => rw [if_neg (by simp), if_neg (by simp), lW_none c]
  refine ⟨h.tv, h.tn.congr fun k _ => ?_, h.tl.congr fun k _ => ?_, h.ts.congr fun k _ => ?_⟩ <;>
  · by_cases e : k = j
    · subst e
      rw [if_pos (by omega), if_neg (by omega)]
      first | rw [hc] | rw [hl] | rw [hs]
    · by_cases d : k < j
      · rw [if_pos (by omega), if_pos d]
      · rw [if_neg (by omega), if_neg d]
/-- The blocks are unlike. -/
structure Unl (gv gn gl gs m : Nat) : Prop where
  a : gn ≠ gl
  b : gn ≠ gs
  c : gl ≠ gs
  v : 0 < m → gv ≠ gn ∧ gv ≠ gl ∧ gv ≠ gs
theorem Tbl.far' {w : World} {g k n : Nat} {F : Nat → List Value} (h : Tbl w g k n F) (p : Addr) (y : Value) (hp : 0 < n → p.block ≠ g) : Tbl (w.setCell p y) g k n F := fun i c v hi hv => h.far p y (hp (by omega)) i c v hi hv
theorem Tbl.one {w : World} {g n : Nat} {F : Nat → Value} (h : Tbl w g 1 n (fun i => [F i])) (j : Nat) (hj : j < n) (y : Value) : Tbl (w.setCell ⟨g, j, none⟩ y) g 1 n (fun i => [if i = j then y else F i]) := by
  have := h.set (fun _ _ => rfl) j 0 hj (by omega) y
  rw [Nat.mul_one, Nat.add_zero] at this
  refine this.congr (fun i _ => ?_)
  try dsimp only
  by_cases c : i = j
  · rw [if_pos c, if_pos c]; rfl
  · rw [if_neg c, if_neg c]
theorem Tbl.five {w : World} {g n : Nat} {F : Nat → List Value} (h : Tbl w g 5 n F) (hk : ∀ i, i < n → (F i).length = 5) (j : Nat) (hj : j < n) (y0 y1 y2 y3 y4 : Value) : Tbl (((((w.setCell ⟨g, j * 5, none⟩ y0).setCell ⟨g, j * 5 + 1, none⟩ y1).setCell ⟨g, j * 5 + 2, none⟩ y2).setCell ⟨g, j * 5 + 3, none⟩ y3).setCell ⟨g, j * 5 + 4, none⟩ y4) g 5 n (fun i => if i = j then [y0, y1, y2, y3, y4] else F i) := by
  have len : ∀ (G : Nat → List Value), (∀ i, i < n → (G i).length = 5) → ∀ c y i, i < n → ((fun i => if i = j then (G i).set c y else G i) i).length = 5 := fun G hG c y i hi => by
    dsimp only; split
    · rw [List.length_set]; exact hG i hi
    · exact hG i hi
  have h0 := h.set hk j 0 hj (by omega) y0
  have k0 := len F hk 0 y0
  have h1 := h0.set k0 j 1 hj (by omega) y1
  have k1 := len _ k0 1 y1
  have h2 := h1.set k1 j 2 hj (by omega) y2
  have k2 := len _ k1 2 y2
  have h3 := h2.set k2 j 3 hj (by omega) y3
  have k3 := len _ k2 3 y3
  have h4 := h3.set k3 j 4 hj (by omega) y4
  refine h4.congr (fun i hi => ?_)
  try dsimp only
  by_cases c : i = j
  · simp only [if_pos c]
    have hl := hk i hi
    match F i, hl with
    | [a, b, c, d, e], _ => rfl
  · simp only [if_neg c]
theorem Tbl.two {w : World} {g n : Nat} {F : Nat → List Value} (h : Tbl w g 2 n F) (hk : ∀ i, i < n → (F i).length = 2) (j : Nat) (hj : j < n) (y0 y1 : Value) : Tbl ((w.setCell ⟨g, j * 2, none⟩ y0).setCell ⟨g, j * 2 + 1, none⟩ y1) g 2 n (fun i => if i = j then [y0, y1] else F i) := by
  have h0 := h.set hk j 0 hj (by omega) y0
  have h1 := h0.set (fun i hi => by (try dsimp only); split; rw [List.length_set]; exact hk i hi; exact hk i hi) j 1 hj (by omega) y1
  refine h1.congr (fun i hi => ?_)
  try dsimp only
  by_cases c : i = j
  · simp only [if_pos c]
    have hl := hk i hi
    match F i, hl with
    | [a, b], _ => rfl
  · simp only [if_neg c]
theorem CU.n1 {L : List Ex} {V : List Nat} {gv gn gl gs m n x j : Nat} {w : World} (h : CU L V gv gn gl gs m n x j w) (hu : Unl gv gn gl gs m) (hj : j < n) (hp : phi L j (envW V x (fun _ => false)) = true) :
    Tbl (w.setCell ⟨gn, j, none⟩ (iv (cW (phi L j) V x + 1))) gn 1 n (fun k => [iv (cW (phi L k) V (if k < j + 1 then x + 1 else x))]) := by
  refine (h.tn.one j hj _).congr (fun k _ => ?_)
  by_cases e : k = j
  · subst e
    rw [if_pos (by omega), if_pos rfl, cW_succ, hp, if_pos rfl]
  · rw [if_neg e]
    by_cases d : k < j
    · rw [if_pos (by omega), if_pos d]
    · rw [if_neg (by omega), if_neg d]
theorem CU.hit {L : List Ex} {V : List Nat} {gv gn gl gs m n x j : Nat} {w : World} (h : CU L V gv gn gl gs m n x j w) (hu : Unl gv gn gl gs m) (hj : j < n) (hp : phi L j (envW V x (fun _ => false)) = true) (hsw : sW (phi L j) V x = true) :
    CU L V gv gn gl gs m n x (j + 1) (w.setCell ⟨gn, j, none⟩ (iv (cW (phi L j) V x + 1))) := by
  have hs : sW (phi L j) V (x + 1) = sW (phi L j) V x := by rw [sW_succ, hsw]; rfl
  have hl : lW (phi L j) V (x + 1) = lW (phi L j) V x := by rw [lW_succ, if_pos hsw]
  refine ⟨h.tv.far' _ _ (fun q => (hu.v q).1.symm), h.n1 hu hj hp, (h.tl.far _ _ hu.a).congr fun k _ => ?_, (h.ts.far _ _ hu.b).congr fun k _ => ?_⟩ <;>
  · by_cases e : k = j
    · subst e
      rw [if_pos (by omega), if_neg (by omega)]
      first | rw [hl] | rw [hs]
    · by_cases d : k < j
      · rw [if_pos (by omega), if_pos d]
      · rw [if_neg (by omega), if_neg d]
theorem CU.hit0 {L : List Ex} {V : List Nat} {gv gn gl gs m n x j : Nat} {w : World} (h : CU L V gv gn gl gs m n x j w) (hu : Unl gv gn gl gs m) (hj : j < n) (hp : phi L j (envW V x (fun _ => false)) = true) (hsw : sW (phi L j) V x = false) (y0 y1 y2 y3 y4 : Value) (hy : hcells (wayW V x) = [y0, y1, y2, y3, y4]) :
    CU L V gv gn gl gs m n x (j + 1) (((((((w.setCell ⟨gn, j, none⟩ (iv (cW (phi L j) V x + 1))).setCell ⟨gl, j * 5, none⟩ y0).setCell ⟨gl, j * 5 + 1, none⟩ y1).setCell ⟨gl, j * 5 + 2, none⟩ y2).setCell ⟨gl, j * 5 + 3, none⟩ y3).setCell ⟨gl, j * 5 + 4, none⟩ y4).setCell ⟨gs, j, none⟩ (.bool true)) := by
  have hs : sW (phi L j) V (x + 1) = true := by rw [sW_succ, hp, Bool.or_true]
  have hl : lW (phi L j) V (x + 1) = wayW V x := by rw [lW_succ, hsw, if_neg (by simp), if_pos hp]
  have vl := fun q : 0 < m => (hu.v q).2.1.symm
  refine ⟨?_, ?_, ?_, ?_⟩
  · exact ((((((h.tv.far' _ _ (fun q => (hu.v q).1.symm)).far' _ _ vl).far' _ _ vl).far' _ _ vl).far' _ _ vl).far' _ _ vl).far' _ _ (fun q => (hu.v q).2.2.symm)
  · exact ((((((h.n1 hu hj hp).far _ _ hu.a.symm).far _ _ hu.a.symm).far _ _ hu.a.symm).far _ _ hu.a.symm).far _ _ hu.a.symm).far _ _ hu.b.symm
  · refine (((h.tl.far _ _ hu.a).five (fun _ _ => rfl) j hj y0 y1 y2 y3 y4).far _ _ hu.c.symm).congr (fun k _ => ?_)
    by_cases e : k = j
    · subst e
      rw [if_pos (by omega), if_pos rfl, hl, hy]
    · rw [if_neg e]
      by_cases d : k < j
      · rw [if_pos (by omega), if_pos d]
      · rw [if_neg (by omega), if_neg d]
  · refine ((((((h.ts.far _ _ hu.b).far _ _ hu.c).far _ _ hu.c).far _ _ hu.c).far _ _ hu.c).far _ _ hu.c |>.one j hj (.bool true)).congr (fun k _ => ?_)
    by_cases e : k = j
    · subst e
      rw [if_pos (by omega), if_pos rfl, hs]
    · rw [if_neg e]
      by_cases d : k < j
      · rw [if_pos (by omega), if_pos d]
      · rw [if_neg (by omega), if_neg d]
theorem row_tbl {w : World} {g : Nat} (h : Tbl w g 1 104 (fun _ => [.bool false])) : Row w g (fun _ => false) := fun j hj => by
  have := h j 0 (.bool false) hj rfl
  rw [Nat.mul_one, Nat.add_zero] at this
  exact this
theorem vrow_tbl {w : World} {base : Nat} {v : Value} {V : List Nat} (h : w.ownsRow base 3 1 v V.length (V.map iv)) : ∃ gv va vc, v = .slice va V.length vc ∧ (0 < V.length → va = some ⟨gv, 0, none⟩) ∧ Tbl w gv 1 V.length (fun i => [iv (V.getD i 0)]) ∧ (0 < V.length → gv < w.heap.size) := by
  rcases h.2 with ⟨e1, e2⟩ | ⟨g, cap, cur, e1, -⟩
  · refine ⟨0, none, 0, by rw [e1, e2], fun q => by omega, fun i c v hi => by omega, fun q => by omega⟩
  · subst e1
    refine ⟨g, _, cap, rfl, fun _ => rfl, fun i c v hi hv => ?_, fun q => (World.ownsRow.lt h g rfl).2⟩
    have hc : c = 0 := by have := (List.getElem?_eq_some_iff.1 hv).1; simp at this; exact this
    subst hc
    cases hv
    rw [Nat.mul_one, Nat.add_zero]
    refine ⟨?_, World.ownsRow.frozenAt h i⟩
    rw [World.ownsRow.cellAt h i (by omega), List.getElem?_map, List.getElem?_eq_getElem hi, List.getD_eq_getElem?_getD, List.getElem?_eq_getElem hi]
    rfl
set_option maxRecDepth 100000 in
set_option maxHeartbeats 16000000 in
theorem rcounts_any (L : List Ex) (la : Option Addr) (lc : Nat) (w : World) (hL : Rw w la (L.flatMap Ex.cells)) (hok : OkL 0 L) (h30 : L.length ≤ 30) (h7 : (varsL L).length ≤ 7) (hcap : L.length ≤ lc) :
    Calls Try.prog 8 #[.slice la L.length lc] w fun e w' => ∃ g1 g2 g3, e = .returned (.tuple #[.slice (some ⟨g1, 0, none⟩) L.length L.length, .slice (some ⟨g2, 0, none⟩) L.length L.length, .slice (some ⟨g3, 0, none⟩) L.length L.length]) ∧
      Tbl w' g1 2 L.length (fun i => [.int .u64 (hi (upI (cW (phi L i) (varsL L) (2 ^ (varsL L).length)) (104 - (varsL L).length : Nat))), .int .u64 (lo (upI (cW (phi L i) (varsL L) (2 ^ (varsL L).length)) (104 - (varsL L).length : Nat)))]) ∧
      Tbl w' g2 5 L.length (fun i => hcells (lW (phi L i) (varsL L) (2 ^ (varsL L).length))) ∧ Tbl w' g3 1 L.length (fun i => [.bool (sW (phi L i) (varsL L) (2 ^ (varsL L).length))]) ∧ Below w.heap.size w w' := by
  have CV := Lib.hid (rvars_any L la lc w hL (by unfold maxLen; omega))
  have CIn := Lib.hid (fun (a b : Nat) (hw : WB a b) (W : World) (hb : Below w.heap.size w W) => rin_any L.length L (Nat.le_refl _) (by omega) hok la lc a b W hw (hL.on hb) hcap)
  have HVL := Lib.hid (varsL_lt L)
  obtain ⟨O1, hO1⟩ : ∃ o, Obj.cells (madeCells (Value.int .i64 0).cells (L.length * 1)) 3 = o := ⟨_, rfl⟩
  obtain ⟨O2, hO2⟩ : ∃ o, Obj.cells (madeCells (Value.agg #[.int .u32 0, .int .u32 0, .int .u8 0, .int .u16 0, .int .u16 0]).cells (L.length * 5)) 44 = o := ⟨_, rfl⟩
  obtain ⟨O3, hO3⟩ : ∃ o, Obj.cells (madeCells (Value.bool false).cells (L.length * 1)) 4 = o := ⟨_, rfl⟩
  have hm1 : ∀ w, (Instr.makeSlice 29 (.int .i64 (L.length : Int)) (.int .i64 (L.length : Int))).run Try.prog w = .ok (.slice (some ⟨w.heap.size, 0, none⟩) L.length L.length) (w.alloc O1) := fun w => by rw [← hO1]; exact mk_of 29 3 (.int .i64 0) 1 8 Try.underlying29 infoInt (by omega) L.length (by omega) w
  have hm2 : ∀ w, (Instr.makeSlice 33 (.int .i64 (L.length : Int)) (.int .i64 (L.length : Int))).run Try.prog w = .ok (.slice (some ⟨w.heap.size, 0, none⟩) L.length L.length) (w.alloc O2) := fun w => by rw [← hO2]; exact mk_of 33 44 _ 5 16 Try.underlying33 infoHdr8 (by omega) L.length (by omega) w
  have hm3 : ∀ w, (Instr.makeSlice 34 (.int .i64 (L.length : Int)) (.int .i64 (L.length : Int))).run Try.prog w = .ok (.slice (some ⟨w.heap.size, 0, none⟩) L.length L.length) (w.alloc O3) := fun w => by rw [← hO3]; exact mk_of 34 4 (.bool false) 1 1 Try.underlying34 infoBool8 (by omega) L.length (by omega) w
  have HO1 : Hid (∀ w : World, Tbl (w.alloc O1) w.heap.size 1 L.length (fun _ => [.int .i64 0])) := Lib.hid (fun w => by rw [← hO1]; exact Tbl.made w _ _ _ 1 rfl)
  have HO2 : Hid (∀ w : World, Tbl (w.alloc O2) w.heap.size 5 L.length (fun _ => [.int .u32 0, .int .u32 0, .int .u8 0, .int .u16 0, .int .u16 0])) := Lib.hid (fun w => by rw [← hO2]; exact Tbl.made w _ _ _ 5 rfl)
  have HO3 : Hid (∀ w : World, Tbl (w.alloc O3) w.heap.size 1 L.length (fun _ => [.bool false])) := Lib.hid (fun w => by rw [← hO3]; exact Tbl.made w _ _ _ 1 rfl)
  clear hO1 hO2 hO3
  have HM4 := Lib.hid (mk_of 32 47 _ 2 16 Try.underlying32 infoCnt8 (by omega) L.length (by omega))
  have HM5 : Hid (∀ w : World, ∃ O : Obj, (Instr.makeSlice 34 (.int .i64 104) (.int .i64 104)).run Try.prog w = .ok (.slice (some ⟨w.heap.size, 0, none⟩) 104 104) (w.alloc O) ∧ Row (w.alloc O) w.heap.size (fun _ => false)) := Lib.hid (fun w => by
    have h := mk_of 34 4 (.bool false) 1 1 Try.underlying34 infoBool8 (by omega) 104 (by omega) w
    have e : ((104 : Nat) : Int) = 104 := rfl
    rw [e] at h
    exact ⟨_, h, row_tbl (Tbl.made w _ _ 104 1 rfl)⟩)
  have HVR := Lib.hid (varsL_rise L)
  obtain ⟨V, hV⟩ : ∃ V, varsL L = V := ⟨_, rfl⟩
  rw [hV] at CV HVL h7 HVR ⊢
  have HPL : Hid (∀ (E : Env), (semL [] L).length = L.length) := Lib.hid (fun _ => by rw [semL_len]; simp)
  obtain ⟨n, hn⟩ : ∃ n, L.length = n := ⟨_, rfl⟩
  rw [hn] at CV CIn hm1 hm2 hm3 HO1 HO2 HO3 HM4 h30 hcap HPL ⊢
  have HN := Lib.hid hn
  clear hL hok hV hn
  obtain ⟨base, hbase⟩ : ∃ b, w.heap.size = b := ⟨_, rfl⟩
  rw [hbase] at CV CIn ⊢
  have HBS := Lib.hid hbase
  clear hbase
  go_enter Try.func8, Try.ntmps8
  go_wp2_with fail
  refine CV.out.mono ?_
  rintro e w1 ⟨v, rfl, hv, hb⟩
  obtain ⟨gv, va, vc, rfl, hva, htv, hgv⟩ := vrow_tbl hv
  have B1 := Lib.hid hb
  have TV := Lib.hid htv
  have HVA := Lib.hid hva
  have HGV := Lib.hid hgv
  obtain ⟨m, hm⟩ : ∃ m, V.length = m := ⟨_, rfl⟩
  have HM := Lib.hid hm
  rw [hm] at TV HVA HGV h7 ⊢
  obtain ⟨gn, hgn⟩ : ∃ g, w1.heap.size = g := ⟨_, rfl⟩
  have HGN := Lib.hid hgn
  clear hv hb CV hva htv hgv hm
  go_upto_region 5 with fail
  obtain ⟨gl, hgl⟩ : ∃ g, gn + 1 = g := ⟨_, rfl⟩
  rw [hgl]
  obtain ⟨gs, hgs⟩ : ∃ g, gl + 1 = g := ⟨_, rfl⟩
  rw [hgs]
  refine at_code (S := fun w' => CT L V gv gn gl gs m n 0 w' ∧ Below base w w' ∧ gs < w'.heap.size) ?_ (fun w2 h2 => ?_)
  · have b1 : Below w1.heap.size w1 (w1.alloc O1) := bel_al (Below.refl _ _) _
    have b2 : Below (w1.alloc O1).heap.size (w1.alloc O1) ((w1.alloc O1).alloc O2) := bel_al (Below.refl _ _) _
    have b3 : Below ((w1.alloc O1).alloc O2).heap.size ((w1.alloc O1).alloc O2) (((w1.alloc O1).alloc O2).alloc O3) := bel_al (Below.refl _ _) _
    have b13 := bel_on' (bel_on' b1 b2) b3
    have z1 : (w1.alloc O1).heap.size = gl := by rw [World.size_alloc, HGN.out, hgl]
    have z2 : ((w1.alloc O1).alloc O2).heap.size = gs := by rw [World.size_alloc, z1, hgs]
    have t1 := HO1.out w1
    have t2 := HO2.out (w1.alloc O1)
    have t3 := HO3.out ((w1.alloc O1).alloc O2)
    rw [HGN.out] at t1
    rw [z1] at t2
    rw [z2] at t3
    refine ⟨⟨TV.out.on b13, (t1.on (bel_on' b2 b3)).congr (fun i _ => rfl), (t2.on b3).congr (fun i _ => by show hcells (0, 0) = _; rfl), t3.congr (fun i _ => rfl)⟩, ?_, ?_⟩
    · rw [← HBS.out]
      have := B1.out
      rw [← HBS.out] at this
      exact bel_on' this b13
    · rw [World.size_alloc, z2]; omega
  have T2 := Lib.hid h2.1
  have B2 := Lib.hid h2.2.1
  have Z2 := Lib.hid h2.2.2
  have HGB : Hid (base ≤ gn) := Lib.hid (by have := B1.out.size; rw [HBS.out, HGN.out] at this; exact this)
  have HGVN : Hid (0 < m → gv < gn) := Lib.hid (fun q => by have := HGV.out q; rw [HGN.out] at this; exact this)
  have HGL := Lib.hid hgl
  have HGS := Lib.hid hgs
  clear h2 hgl hgs hm1 hm2 hm3 HO1 HO2 HO3 B1 TV HGN
  go_wp2_with fail
  go_loopw [9] (fun xv wr => ∃ x : Nat, xv = .int .i64 (x : Nat) ∧ x ≤ 2 ^ m ∧ Hid (CT L V gv gn gl gs m n x wr) ∧ Hid (Below base w wr) ∧ Hid (gs < wr.heap.size)) (fun xv _ => 2 ^ m - (intOf xv).toNat)
  case atStart => exact ⟨0, rfl, Nat.zero_le _, T2, B2, Z2⟩
  case round =>
    obtain ⟨x, rfl, hx, T, B, Z⟩ := hrel
    obtain ⟨wA, rfl⟩ : ∃ u : World, u = wr := ⟨_, rfl⟩
    clear T2 B2 Z2
    have hpm : (2 : Nat) ^ m ≤ 128 := Nat.pow_le_pow_right (n := 2) (by omega) h7
    have hsh : IntKind.i64.wrap ((2 : Int) ^ m) = ((2 ^ m : Nat) : Int) := by
      rw [show ((2 : Int) ^ m) = ((2 ^ m : Nat) : Int) by rw [Int.natCast_pow]; rfl, IntKind.wrap_i64]
      generalize 2 ^ m = q at *; omega
    obtain ⟨M2, hM2⟩ : ∃ q, 2 ^ m = q := ⟨_, rfl⟩
    have HM2 := Lib.hid hM2
    rw [hM2] at hx hpm hsh ⊢
    by_cases hxm : x < M2
    · have hw1 : IntKind.i64.wrap ((x : Int) + 1) = ((x + 1 : Nat) : Int) := by rw [IntKind.wrap_i64]; omega
      obtain ⟨O, hmk, hrow⟩ := HM5.out wA
      obtain ⟨gb, hgb⟩ : ∃ g, wA.heap.size = g := ⟨_, rfl⟩
      rw [hgb] at hmk hrow
      go_upto_region 9 with fail
      refine at_code (S := fun w' => Row w' gb (fun _ => false) ∧ Below gb wA w') ⟨hrow, by rw [← hgb]; exact bel_al (Below.refl _ _) _⟩ (fun w3 h3 => ?_)
      have R3 := Lib.hid h3.1
      have B3 := Lib.hid h3.2
      have HGBW := Lib.hid hgb
      clear h3 hmk hrow hgb
      have E3 : Hid (envW (V.drop 0) x (fun _ => false) = envW V x (fun _ => false)) := Lib.hid rfl
      go_wp2_with fail
      go_loopw [11] (fun iv' w4 => ∃ (i : Nat) (Q : Env), iv' = .int .i64 (i : Nat) ∧ i ≤ m ∧ Hid (Row w4 gb Q) ∧ Hid (envW (V.drop i) x Q = envW V x (fun _ => false)) ∧ Hid (Below gb wA w4)) (fun iv' _ => m - (intOf iv').toNat)
      case atStart => exact ⟨0, _, rfl, Nat.zero_le _, R3, E3, B3⟩
      case round =>
        obtain ⟨i, Q, rfl, hi, R, E, B'⟩ := hrel
        clear R3 B3 E3
        by_cases him : i < m
        · have hwi : IntKind.i64.wrap ((i : Int) + 1) = ((i + 1 : Nat) : Int) := by rw [IntKind.wrap_i64]; omega
          obtain ⟨vv, hvv⟩ : ∃ v, V[i]? = some v := ⟨_, List.getElem?_eq_getElem (by rw [HM.out]; exact him)⟩
          have hvl : vv < 104 := HVL.out vv (List.mem_of_getElem? hvv)
          have hgd : V.getD i 0 = vv := by rw [List.getD_eq_getElem?_getD, hvv]; rfl
          obtain ⟨hcv, -⟩ := (T.out.on (show Below wA.heap.size wA wr by rw [HGBW.out]; exact B'.out)).tv i 0 (iv vv) him (by dsimp only; rw [hgd]; rfl)
          rw [Nat.mul_one, Nat.add_zero] at hcv
          have hva := HVA.out (by omega)
          subst hva
          obtain ⟨sh, hsh2⟩ : ∃ s, m - 1 - i = s := ⟨_, rfl⟩
          have E2 : Hid (envW (V.drop (i + 1)) x (hld Q vv (x.testBit sh)) = envW V x (fun _ => false)) := Lib.hid (by
            rw [← E.out]
            have hd : V.drop i = vv :: V.drop (i + 1) := by
              obtain ⟨h1, h2⟩ := List.getElem?_eq_some_iff.1 hvv
              rw [List.drop_eq_getElem_cons h1, h2]
            have hl : (V.drop (i + 1)).length = sh := by rw [List.length_drop, HM.out]; omega
            rw [hd]
            show _ = envW (V.drop (i + 1)) x (hld Q vv (x.testBit (V.drop (i + 1)).length))
            rw [hl])
          have hs1 : IntKind.i64.wrap ((m : Int) - 1) = ((m - 1 : Nat) : Int) := by rw [IntKind.wrap_i64]; omega
          have hs2 : IntKind.i64.wrap (((m - 1 : Nat) : Int) - (i : Int)) = ((sh : Nat) : Int) := by rw [IntKind.wrap_i64]; omega
          have hs64 : sh < 64 := by omega
          have hsr : IntKind.i64.wrap ((x : Int) / 2 ^ sh) = ((x / 2 ^ sh : Nat) : Int) := by
            have e : ((x : Int) / 2 ^ sh) = ((x / 2 ^ sh : Nat) : Int) := by rw [Int.natCast_ediv, Int.natCast_pow]; rfl
            have hl : x / 2 ^ sh ≤ x := Nat.div_le_self _ _
            rw [e, IntKind.wrap_i64]; generalize x / 2 ^ sh = q at *; omega
          have hdiv : ((x : Int) / 2 ^ sh) = ((x / 2 ^ sh : Nat) : Int) := by rw [Int.natCast_ediv, Int.natCast_pow]; rfl
          have htb : x.testBit sh = decide (x / 2 ^ sh % 2 = 1) := Nat.testBit_eq_decide_div_mod_eq
          obtain ⟨q, hq⟩ : ∃ q, x / 2 ^ sh = q := ⟨_, rfl⟩
          rw [hq] at hsr htb hdiv
          have htm : ((q : Nat) : Int).tmod 2 = ((q % 2 : Nat) : Int) := by rw [Int.tmod_eq_emod_of_nonneg (by omega)]; exact (Int.natCast_emod q 2).symm
          obtain ⟨q2, hq2⟩ : ∃ r, q % 2 = r := ⟨_, rfl⟩
          rw [hq2] at htm htb
          have hql : q2 < 2 := by omega
          have hwq : IntKind.i64.wrap (q2 : Int) = (q2 : Int) := by rw [IntKind.wrap_i64]; omega
          obtain ⟨tb', htb'⟩ : ∃ b, x.testBit sh = b := ⟨_, rfl⟩
          have heq : ((q2 : Int) == 1) = tb' := by rw [← htb', htb, Bool.eq_iff_iff]; simp; omega
          rw [htb'] at E2
          have HST : Hid ((((x : Int) / 2 ^ sh).tmod 2 == 1) = tb') := Lib.hid (by rw [hdiv, htm]; exact heq)
          clear hdiv
          have hvl' : (vv : Int) < 104 := by omega
          clear hvv hgd hsh2 htb htb' hq hq2 E
          go_upto_region 12 with fail
          refine wp_region_noPanic ?_
          refine wp_region_along (S := fun w' => w'.cell? ⟨gv, i, none⟩ = some (iv vv)) ([(0, true), (1, true), (2, true), (3, true), (4, true), (5, true), (6, true), (7, true), (8, true), (9, true), (10, true), (11, true), (12, true), (13, true), (14, true), (15, false)]) (by kernel_rfl) (by as_aux_lemma => kernel_rfl) (by kernel_rfl) (by kernel_rfl) (by as_aux_lemma => kernel_rfl) (by as_aux_lemma => kernel_rfl) (fun _ _ _ _ _ h => h) hcv (fun hH => ?_)
          simp only [stepsOf, pickOp]
          iterate 15 (first | (refine along_skip (by rfl) ?_; try simp only [Act.put, List.setIfInBounds_toArray, List.set_cons_zero, List.set_cons_succ]) | (refine along_pure ?_ (by rfl) (fun w hSw => ?_) ?_; rotate_left; ((try unfold iv at hSw); (try dsimp only at hSw); go_simp; try with_reducible rfl); try simp only [Act.put, List.setIfInBounds_toArray, List.set_cons_zero, List.set_cons_succ]))
          clear hH
          obtain ⟨wd, hwd⟩ : ∃ u : World, u = wr.drew := ⟨_, rfl⟩
          have RD := Lib.hid (show Row wd gb Q by rw [hwd]; exact R.out.on (Below.refl _ _).drew)
          have BD := Lib.hid (show Below gb wA wd by rw [hwd]; exact B'.out.drew)
          have CD := Lib.hid (show wd.cell? ⟨gv, i, none⟩ = some (iv vv) by rw [hwd]; exact hcv)
          have hne : gb ≠ gv := by have := HGVN.out (by omega); have := HGL.out; have := HGS.out; have := Z.out; have := HGBW.out; omega
          rw [← hwd]
          clear hwd hcv R B'
          refine along_bar (fun K hK => ?_)
          obtain ⟨r_c, r_f⟩ := RD.out vv hvl
          go_simp
          refine hK.out _ _ (by rw [World.cell?_setCell_far _ _ _ _ (by exact hne)]; exact CD.out) (fun _ => ?_)
          clear hK K r_c r_f
          try simp only [Act.put, List.setIfInBounds_toArray, List.set_cons_zero, List.set_cons_succ]
          refine along_end (NoPanic.normal ?_)
          go_upto_region 11 with fail
          refine at_code (S := fun w' => Row w' gb (hld Q vv tb') ∧ Below gb wA w') ⟨by rw [HST.out]; exact RD.out.set vv hvl tb', BD.out.setCell (Nat.le_refl _) _⟩ (fun w5 h5 => ?_)
          have R5 := Lib.hid h5.1
          have B5 := Lib.hid h5.2
          clear h5 RD BD CD hne hs1 hs2 hs64 hsr htm hql hwq heq hvl hvl'
          go_wp2_with fail
          refine ⟨⟨i + 1, _, by first | rfl | rw [hwi], by omega, R5, E2, B5⟩, by simp [intOf] <;> omega⟩
        · obtain rfl : i = m := by omega
          have hE : Q = envW V x (fun _ => false) := by
            have := E.out
            rw [List.drop_of_length_le (by rw [HM.out]; exact Nat.le_refl _)] at this
            exact this
          obtain ⟨hwb, hte⟩ := wayW_ok HVL.out x
          obtain ⟨ab, hab⟩ : ∃ p, wayW V x = p := ⟨_, rfl⟩
          rw [hab] at hwb hte
          have HAB := Lib.hid hab
          have HTE := Lib.hid hte
          have HWB := Lib.hid hwb
          have T6 := Lib.hid (T.out.on (show Below wA.heap.size wA wr by rw [HGBW.out]; exact B'.out))
          have B6 : Hid (Below base w wr) := Lib.hid (by rw [← HBS.out] at B ⊢; exact bel_on' B.out (by rw [HGBW.out]; exact B'.out))
          have Z6 := Lib.hid (show gs < wr.heap.size by have := Z.out; have := B'.out.size; omega)
          have CBk := Lib.hid (back_row ab.1 ab.2 hwb Q (fun j hj => by rw [hE, ← hte]; rfl) wr gb 104 R.out)
          clear hE hwb hte hab R E B' T B Z HGBW
          go_wp2_with fail
          refine CBk.out.mono ?_
          rintro e w7 ⟨rfl, hb⟩
          have T7 := Lib.hid (T6.out.on hb)
          have B7 : Hid (Below base w w7) := Lib.hid (by rw [← HBS.out] at B6 ⊢; exact bel_on' B6.out hb)
          have Z7 := Lib.hid (show gs < w7.heap.size by have := Z6.out; have := hb.size; omega)
          obtain ⟨nh, hnh⟩ : ∃ g, w7.heap.size = g := ⟨_, rfl⟩
          clear hb T6 B6 Z6 CBk
          go_upto_region 14 with fail
          refine at_code (S := fun w' => Blk w' nh (hcells ab) ∧ CT L V gv gn gl gs i n x w' ∧ Below base w w' ∧ gs < nh ∧ nh < w'.heap.size) ⟨by rw [← hnh]; exact Blk.new w7 44 (hcells ab), T7.out.on (bel_al (Below.refl _ _) _), by rw [← HBS.out] at B7 ⊢; exact bel_al B7.out _, by rw [← hnh]; exact Z7.out, by rw [World.size_alloc, hnh]; omega⟩ (fun w8 h8 => ?_)
          have X8 := Lib.hid h8.1
          have T8 := Lib.hid h8.2.1
          have B8 := Lib.hid h8.2.2.1
          have Z8 := Lib.hid h8.2.2.2.1
          have N8 := Lib.hid h8.2.2.2.2
          clear h8 T7 B7 Z7 hnh
          obtain ⟨x_0, x_1, x_2, x_3, x_4⟩ : _ ∧ _ ∧ _ ∧ _ ∧ _ := ⟨X8.out.1 0 _ rfl, X8.out.1 1 _ rfl, X8.out.1 2 _ rfl, X8.out.1 3 _ rfl, X8.out.1 4 _ rfl⟩
          have CI8 := Lib.hid (CIn.out ab.1 ab.2 HWB.out w8 B8.out)
          go_wp2_with fail
          refine CI8.out.mono ?_
          rintro e w9 ⟨vi, rfl, hb, hrow⟩
          rw [HN.out] at hrow
          have T9 := Lib.hid (T8.out.on hb)
          have B9 : Hid (Below base w w9) := Lib.hid (by rw [← HBS.out] at B8 ⊢; exact bel_on' B8.out hb)
          have X9 := Lib.hid (X8.out.on hb)
          have hrb := row_formB (n := n) hrow (HPL.out (fun _ => false))
          have hvi : ∃ gi vx ci, vi = .slice vx n ci ∧ (0 < n → vx = some ⟨gi, 0, none⟩ ∧ nh < gi ∧ gi < w9.heap.size) ∧ Tbl w9 gi 1 n (fun i => [.bool (phi L i (envW V x (fun _ => false)))]) := by
            by_cases hn0 : 0 < n
            · obtain ⟨gi, ci, e1, hc⟩ := hrb hn0
              subst e1
              have hlt := World.ownsRow.lt hrow gi rfl
              refine ⟨gi, _, ci, rfl, fun _ => ⟨rfl, by have := N8.out; omega, hlt.2⟩, fun j c v hj hv => ?_⟩
              have hc0 : c = 0 := by have := (List.getElem?_eq_some_iff.1 hv).1; simp at this; exact this
              subst hc0
              cases hv
              rw [Nat.mul_one, Nat.add_zero]
              refine ⟨?_, World.ownsRow.frozenAt hrow j⟩
              rw [hc j hj, HTE.out]
              rfl
            · rcases hrow.2 with ⟨e1, e2⟩ | ⟨g, cap, cur, e1, -⟩
              · exact ⟨0, none, 0, by rw [e1, show n = 0 by omega], fun q => absurd q hn0, fun j c v hj => by omega⟩
              · exact ⟨0, _, cap, e1, fun q => absurd q hn0, fun j c v hj => by omega⟩
          obtain ⟨gi, vx, ci, rfl, hgi, hti⟩ := hvi
          have TI := Lib.hid hti
          have HGI := Lib.hid hgi
          have N9 := Lib.hid (show nh < w9.heap.size by have := N8.out; have := hb.size; omega)
          have U9 := Lib.hid T9.out.cu
          clear hb hrow hrb hgi hti T8 B8 X8 N8 T9 x_0 x_1 x_2 x_3 x_4 CI8
          go_wp2_with fail
          go_loopw [14] (fun jv wr => ∃ j : Nat, jv = .int .i64 (j : Nat) ∧ j ≤ n ∧ Hid (CU L V gv gn gl gs i n x j wr) ∧ Hid (Below base w wr) ∧ Hid (Blk wr nh (hcells ab)) ∧ Hid (Tbl wr gi 1 n (fun j => [.bool (phi L j (envW V x (fun _ => false)))])) ∧ Hid (nh < wr.heap.size)) (fun jv _ => n - (intOf jv).toNat)
          case atStart => exact ⟨0, rfl, Nat.zero_le _, U9, B9, X9, TI, N9⟩
          case round =>
            obtain ⟨j, rfl, hj, U, B, X, TJ, NJ⟩ := hrel
            clear U9 B9 X9 TI N9
            by_cases hjn : j < n
            · have hwj : IntKind.i64.wrap ((j : Int) + 1) = ((j + 1 : Nat) : Int) := by rw [IntKind.wrap_i64]; omega
              have hvx := (HGI.out (by omega)).1
              subst hvx
              obtain ⟨i_c, -⟩ := TJ.out j 0 _ hjn rfl
              obtain ⟨n_c, n_f⟩ := U.out.tn j 0 _ hjn rfl
              obtain ⟨s_c, s_f⟩ := U.out.ts j 0 _ hjn rfl
              have hl5 := fun c v (hv : (hcells (lW (phi L j) V (if j < j then x + 1 else x)))[c]? = some v) => U.out.tl j c v hjn hv
              obtain ⟨⟨l_0, p_0⟩, ⟨l_1, p_1⟩, ⟨l_2, p_2⟩, ⟨l_3, p_3⟩, ⟨l_4, p_4⟩⟩ : (_ ∧ _) ∧ (_ ∧ _) ∧ (_ ∧ _) ∧ (_ ∧ _) ∧ (_ ∧ _) := ⟨hl5 0 _ rfl, hl5 1 _ rfl, hl5 2 _ rfl, hl5 3 _ rfl, hl5 4 _ rfl⟩
              clear hl5
              rw [if_neg (Nat.lt_irrefl j)] at n_c s_c
              rw [Nat.mul_one, Nat.add_zero] at i_c n_c n_f s_c s_f
              rw [Nat.add_zero] at l_0 p_0
              have hcl := cW_le (phi L j) V x
              have HU : Hid (Unl gv gn gl gs i) := Lib.hid (by
                have h1 := HGL.out
                have h2 := HGS.out
                exact ⟨by omega, by omega, by omega, fun q => by have := HGVN.out q; omega⟩)
              obtain ⟨x_0, x_1, x_2, x_3, x_4⟩ : _ ∧ _ ∧ _ ∧ _ ∧ _ := ⟨X.out.1 0 _ rfl, X.out.1 1 _ rfl, X.out.1 2 _ rfl, X.out.1 3 _ rfl, X.out.1 4 _ rfl⟩
              obtain ⟨c0, hc0⟩ : ∃ c, cW (phi L j) V x = c := ⟨_, rfl⟩
              obtain ⟨pb, hpb⟩ : ∃ b, phi L j (envW V x (fun _ => false)) = b := ⟨_, rfl⟩
              obtain ⟨sb, hsb⟩ : ∃ b, sW (phi L j) V x = b := ⟨_, rfl⟩
              have HC0 := Lib.hid hc0
              have HPB := Lib.hid hpb
              have HSB := Lib.hid hsb
              rw [hpb] at i_c
              rw [hsb] at s_c
              rw [hc0] at n_c hcl
              unfold iv at n_c
              have hwc : IntKind.i64.wrap ((c0 : Int) + 1) = ((c0 + 1 : Nat) : Int) := by rw [IntKind.wrap_i64]; omega
              clear hc0 hpb hsb
              cases pb with
              | false =>
                have U2 := Lib.hid (U.out.skip HPB.out)
                clear U
                go_wp2_with fail
                refine ⟨⟨j + 1, by first | rfl | rw [hwj], by omega, U2, B, X, TJ, NJ⟩, by simp [intOf] <;> omega⟩
              | true =>
                have hgb := HGB.out
                have hgl := HGL.out
                have hgs := HGS.out
                have hz8 := Z8.out
                have hgi := (HGI.out (by omega)).2.1
                have hbs : ∀ u, Below base w u → ∀ (g o : Nat) (y : Value), base ≤ g → Below base w (u.setCell ⟨g, o, none⟩ y) := fun u hu g o y hg => hu.setCell hg y
                have HB := Lib.hid hbs
                clear hbs
                go_upto_region 20 with fail
                refine at_code (S := fun w' => w' = wr.setCell ⟨gn, j, none⟩ (iv (c0 + 1))) rfl (fun w6 hw6 => ?_)
                have e_s : w6.cell? ⟨gs, j, none⟩ = some (.bool sb) := by rw [hw6, World.cell?_setCell_far _ _ _ _ (by exact HU.out.b)]; exact s_c
                have e_f : w6.frozen? ⟨gs, j, none⟩ = false := by rw [hw6]; simp; exact s_f
                have B6 : Hid (Below base w w6) := Lib.hid (by rw [hw6]; exact HB.out _ B.out _ _ _ (by omega))
                have X6 : Hid (Blk w6 nh (hcells ab)) := Lib.hid (by rw [hw6]; exact X.out.far _ _ (by show gn ≠ nh; omega))
                have T6 : Hid (Tbl w6 gi 1 n (fun j => [.bool (phi L j (envW V x (fun _ => false)))])) := Lib.hid (by rw [hw6]; exact TJ.out.far _ _ (by show gn ≠ gi; omega))
                have N6 : Hid (nh < w6.heap.size) := Lib.hid (by rw [hw6]; simp; exact NJ.out)
                clear x_0 x_1 x_2 x_3 x_4
                cases sb with
                | true =>
                  have U2 : Hid (CU L V gv gn gl gs i n x (j + 1) w6) := Lib.hid (by
                    have := U.out.hit HU.out hjn HPB.out HSB.out
                    rw [HC0.out] at this
                    rw [hw6]; exact this)
                  clear hw6 n_c n_f s_c s_f l_0 l_1 l_2 l_3 l_4 p_0 p_1 p_2 p_3 p_4 U B X TJ NJ i_c hgb hgl hgs hz8 hgi
                  go_wp2_with fail
                  refine ⟨⟨j + 1, by first | rfl | rw [hwj], by omega, U2, B6, X6, T6, N6⟩, by simp [intOf] <;> omega⟩
                | false =>
                  have HF := fun (o : Nat) (v : Option Value) (h : wr.cell? ⟨gl, o, none⟩ = v) => (show w6.cell? ⟨gl, o, none⟩ = v by rw [hw6, World.cell?_setCell_far _ _ _ _ (by exact HU.out.a)]; exact h)
                  have q_0 := HF _ _ l_0
                  have q_1 := HF _ _ l_1
                  have q_2 := HF _ _ l_2
                  have q_3 := HF _ _ l_3
                  have q_4 := HF _ _ l_4
                  clear HF
                  have r_0 : w6.frozen? ⟨gl, j * 5, none⟩ = false := by rw [hw6]; simp; exact p_0
                  have r_1 : w6.frozen? ⟨gl, j * 5 + 1, none⟩ = false := by rw [hw6]; simp; exact p_1
                  have r_2 : w6.frozen? ⟨gl, j * 5 + 2, none⟩ = false := by rw [hw6]; simp; exact p_2
                  have r_3 : w6.frozen? ⟨gl, j * 5 + 3, none⟩ = false := by rw [hw6]; simp; exact p_3
                  have r_4 : w6.frozen? ⟨gl, j * 5 + 4, none⟩ = false := by rw [hw6]; simp; exact p_4
                  have HW6 := Lib.hid hw6
                  clear hw6 n_c n_f s_c s_f l_0 l_1 l_2 l_3 l_4 p_0 p_1 p_2 p_3 p_4 i_c
                  obtain ⟨x_0, x_1, x_2, x_3, x_4⟩ : _ ∧ _ ∧ _ ∧ _ ∧ _ := ⟨X6.out.1 0 _ rfl, X6.out.1 1 _ rfl, X6.out.1 2 _ rfl, X6.out.1 3 _ rfl, X6.out.1 4 _ rfl⟩
                  go_upto_region 22 with fail
                  refine at_code (S := fun w' => w' = (((((w6.setCell ⟨gl, j * 5, none⟩ (.int .u32 (fd ab.1 : Nat))).setCell ⟨gl, j * 5 + 1, none⟩ (.int .u32 (fs ab.1 : Nat))).setCell ⟨gl, j * 5 + 2, none⟩ (.int .u8 (fd ab.2 : Nat))).setCell ⟨gl, j * 5 + 3, none⟩ (.int .u16 (fx ab.2 : Nat))).setCell ⟨gl, j * 5 + 4, none⟩ (.int .u16 (fy ab.2 : Nat)))) rfl (fun w7 hw7 => ?_)
                  have e_s7 : w7.cell? ⟨gs, j, none⟩ = some (.bool false) := by
                    rw [hw7]
                    repeat rw [World.cell?_setCell_far _ _ _ _ (by exact HU.out.c)]
                    exact e_s
                  have e_f7 : w7.frozen? ⟨gs, j, none⟩ = false := by rw [hw7]; simp; exact e_f
                  have U2 : Hid (CU L V gv gn gl gs i n x (j + 1) (w7.setCell ⟨gs, j, none⟩ (.bool true))) := Lib.hid (by
                    have := U.out.hit0 HU.out hjn HPB.out HSB.out _ _ _ _ _ (show hcells (wayW V x) = _ by rw [HAB.out]; rfl)
                    rw [HC0.out] at this
                    rw [hw7, HW6.out]; exact this)
                  have B7 : Hid (Below base w (w7.setCell ⟨gs, j, none⟩ (.bool true))) := Lib.hid (by
                    rw [hw7]
                    have h1 : base ≤ gl := by omega
                    exact HB.out _ (HB.out _ (HB.out _ (HB.out _ (HB.out _ (HB.out _ B6.out _ _ _ h1) _ _ _ h1) _ _ _ h1) _ _ _ h1) _ _ _ h1) _ _ _ (by omega))
                  have X7 : Hid (Blk (w7.setCell ⟨gs, j, none⟩ (.bool true)) nh (hcells ab)) := Lib.hid (by
                    have h1 : gl ≠ nh := by omega
                    have h2 : gs ≠ nh := by omega
                    rw [hw7]; exact (((((X6.out.far _ _ h1).far _ _ h1).far _ _ h1).far _ _ h1).far _ _ h1).far _ _ h2)
                  have T7 : Hid (Tbl (w7.setCell ⟨gs, j, none⟩ (.bool true)) gi 1 n (fun j => [.bool (phi L j (envW V x (fun _ => false)))])) := Lib.hid (by
                    have h1 : gl ≠ gi := by omega
                    have h2 : gs ≠ gi := by omega
                    rw [hw7]; exact (((((T6.out.far _ _ h1).far _ _ h1).far _ _ h1).far _ _ h1).far _ _ h1).far _ _ h2)
                  have N7 : Hid (nh < (w7.setCell ⟨gs, j, none⟩ (.bool true)).heap.size) := Lib.hid (by rw [hw7]; simp; exact N6.out)
                  clear hw7 HW6 x_0 x_1 x_2 x_3 x_4 q_0 q_1 q_2 q_3 q_4 r_0 r_1 r_2 r_3 r_4 e_s e_f U B X TJ NJ B6 X6 T6 N6 hgb hgl hgs hz8 hgi
                  go_wp2_with fail
                  refine ⟨⟨j + 1, by first | rfl | rw [hwj], by omega, U2, B7, X7, T7, N7⟩, by simp [intOf] <;> omega⟩
            · obtain rfl : j = n := by omega
              have T2 := Lib.hid U.out.ct
              have Z2 := Lib.hid (show gs < wr.heap.size by have := NJ.out; have := Z8.out; omega)
              clear U X TJ NJ
              go_wp2_with fail
              refine ⟨⟨x + 1, by first | rfl | rw [hw1], by omega, T2, B, Z2⟩, by simp [intOf] <;> omega⟩
    · obtain rfl : x = M2 := by omega
      have HXM := Lib.hid HM2.out
      obtain ⟨O4, hO4⟩ : ∃ o, Obj.cells (madeCells (Value.agg #[.int .u64 0, .int .u64 0]).cells (n * 2)) 47 = o := ⟨_, rfl⟩
      have hm4 : ∀ w, (Instr.makeSlice 32 (.int .i64 (n : Int)) (.int .i64 (n : Int))).run Try.prog w = .ok (.slice (some ⟨w.heap.size, 0, none⟩) n n) (w.alloc O4) := fun w => by rw [← hO4]; exact HM4.out w
      have t4 : Tbl (wA.alloc O4) wA.heap.size 2 n (fun _ => [.int .u64 0, .int .u64 0]) := by rw [← hO4]; exact Tbl.made wA _ _ _ 2 rfl
      obtain ⟨go, hgo⟩ : ∃ g, wA.heap.size = g := ⟨_, rfl⟩
      rw [hgo] at t4
      clear hO4
      go_upto_region 24 with fail
      try rw [hgo]
      refine at_code (S := fun w' => Tbl w' go 2 n (fun _ => [.int .u64 0, .int .u64 0]) ∧ CT L V gv gn gl gs m n x w' ∧ Below base w w' ∧ gs < go) ⟨t4, T.out.on (bel_al (Below.refl _ _) _), by have := B.out; rw [← HBS.out] at this ⊢; exact bel_al this _, by have := Z.out; omega⟩ (fun w3 h3 => ?_)
      have O3 := Lib.hid (h3.1.congr (F' := fun k => if k < 0 then [.int .u64 (hi (upI (cW (phi L k) V x) (104 - m : Nat))), .int .u64 (lo (upI (cW (phi L k) V x) (104 - m : Nat)))] else [.int .u64 0, .int .u64 0]) (fun i _ => by rw [if_neg (by omega)]))
      have T3 := Lib.hid h3.2.1
      have B3 := Lib.hid h3.2.2.1
      have Z3 := Lib.hid h3.2.2.2
      clear h3 t4 hm4 hgo T B Z
      go_wp2_with fail
      go_loopw [16] (fun iv' wr => ∃ i : Nat, iv' = .int .i64 (i : Nat) ∧ i ≤ n ∧ Hid (Tbl wr go 2 n (fun k => if k < i then [.int .u64 (hi (upI (cW (phi L k) V x) (104 - m : Nat))), .int .u64 (lo (upI (cW (phi L k) V x) (104 - m : Nat)))] else [.int .u64 0, .int .u64 0])) ∧ Hid (CT L V gv gn gl gs m n x wr) ∧ Hid (Below base w wr)) (fun iv' _ => n - (intOf iv').toNat)
      case atStart => exact ⟨0, rfl, Nat.zero_le _, O3, T3, B3⟩
      case round =>
        obtain ⟨i, rfl, hi', O, T, B⟩ := hrel
        clear O3 T3 B3
        by_cases hin : i < n
        · have hwi : IntKind.i64.wrap ((i : Int) + 1) = ((i + 1 : Nat) : Int) := by rw [IntKind.wrap_i64]; omega
          obtain ⟨n_c, -⟩ := T.out.tn i 0 _ hin rfl
          rw [Nat.mul_one, Nat.add_zero] at n_c
          have hcl := cW_le (phi L i) V x
          obtain ⟨c, hc⟩ : ∃ c, cW (phi L i) V x = c := ⟨_, rfl⟩
          rw [hc] at n_c hcl
          unfold iv at n_c
          have HC := Lib.hid hc
          have hwc : IntKind.u64.wrap (c : Int) = (c : Int) := by rw [IntKind.wrap_u64]; omega
          have hwm : IntKind.i64.wrap (104 - (m : Int)) = ((104 - m : Nat) : Int) := by rw [IntKind.wrap_i64]; omega
          have CU8 : Hid (∀ w, Calls Try.prog 23 #[.agg #[.int .u64 0, .int .u64 (c : Nat)], .int .i64 ((104 - m : Nat) : Int)] w fun e w' => e = .returned (cn (upI c (104 - m : Nat))) ∧ Below w.heap.size w w') := Lib.hid (fun w => by
            have h1 : c / 18446744073709551616 = 0 := by omega
            have h2 : c % 18446744073709551616 = c := by omega
            have := rup_any c (104 - m : Nat) (by unfold MM; omega) w
            have e1 : cn c = .agg #[.int .u64 0, .int .u64 (c : Nat)] := by unfold cn hi lo; rw [h1, h2]; rfl
            rw [e1] at this; exact this)
          obtain ⟨u, hu⟩ : ∃ u, upI c (104 - m : Nat) = u := ⟨_, rfl⟩
          rw [hu] at CU8
          have HU := Lib.hid hu
          have hom := O.out.on (Below.refl wr.heap.size wr)
          obtain ⟨lm, hlm⟩ : ∃ l : Nat, (104 - m : Nat) = l := ⟨_, rfl⟩
          rw [hlm] at hwm CU8
          clear hc hu hom
          go_wp2_with fail
          refine (CU8.out _).mono ?_
          rintro e w5 ⟨rfl, hb⟩
          have O5 := Lib.hid (O.out.on hb)
          have T5 := Lib.hid (T.out.on hb)
          have B5 : Hid (Below base w w5) := Lib.hid (by have := B.out; rw [← HBS.out] at this ⊢; exact bel_on' this hb)
          obtain ⟨o_0, f_0⟩ := O5.out i 0 (.int .u64 0) hin (by dsimp only; rw [if_neg (by omega)]; rfl)
          obtain ⟨o_1, f_1⟩ := O5.out i 1 (.int .u64 0) hin (by dsimp only; rw [if_neg (by omega)]; rfl)
          rw [Nat.add_zero] at o_0 f_0
          have hz3 := Z3.out
          have hgb := HGB.out
          have hgl := HGL.out
          have hgs := HGS.out
          have FIN : Hid (Tbl ((w5.setCell ⟨go, i * 2, none⟩ (.int .u64 (hi u))).setCell ⟨go, i * 2 + 1, none⟩ (.int .u64 (lo u))) go 2 n (fun k => if k < i + 1 then [.int .u64 (hi (upI (cW (phi L k) V x) (104 - m : Nat))), .int .u64 (lo (upI (cW (phi L k) V x) (104 - m : Nat)))] else [.int .u64 0, .int .u64 0]) ∧ CT L V gv gn gl gs m n x ((w5.setCell ⟨go, i * 2, none⟩ (.int .u64 (hi u))).setCell ⟨go, i * 2 + 1, none⟩ (.int .u64 (lo u))) ∧ Below base w ((w5.setCell ⟨go, i * 2, none⟩ (.int .u64 (hi u))).setCell ⟨go, i * 2 + 1, none⟩ (.int .u64 (lo u)))) := Lib.hid (by
            refine ⟨(O5.out.two (fun k _ => by (try dsimp only); split <;> rfl) i hin _ _).congr (fun k _ => ?_), ?_, (B5.out.setCell (show base ≤ go by omega) _).setCell (show base ≤ go by omega) _⟩
            · by_cases e : k = i
              · subst e
                rw [if_pos rfl, if_pos (by omega), HC.out, HU.out]
              · rw [if_neg e]
                by_cases d : k < i
                · rw [if_pos d, if_pos (by omega)]
                · rw [if_neg d, if_neg (by omega)]
            · have h1 : go ≠ gn := by omega
              have h2 : go ≠ gl := by omega
              have h3 : go ≠ gs := by omega
              have h4 : 0 < m → go ≠ gv := fun q => by have := HGVN.out q; omega
              have t := T5.out
              exact ⟨(t.tv.far' _ _ h4).far' _ _ h4, (t.tn.far _ _ h1).far _ _ h1, (t.tl.far _ _ h2).far _ _ h2, (t.ts.far _ _ h3).far _ _ h3⟩)
          clear hb n_c O T B hlm hz3 hgb hgl hgs
          go_wp2_with fail
          refine ⟨⟨i + 1, by first | rfl | rw [hwi], by omega, Lib.hid FIN.out.1, Lib.hid FIN.out.2.1, Lib.hid FIN.out.2.2⟩, by simp [intOf] <;> omega⟩
        · obtain rfl : i = n := by omega
          have FIN : Hid (Tbl wr go 2 i (fun k => [.int .u64 (hi (upI (cW (phi L k) V x) (104 - m : Nat))), .int .u64 (lo (upI (cW (phi L k) V x) (104 - m : Nat)))])) := Lib.hid (O.out.congr (fun k hk => by rw [if_pos hk]))
          clear O
          go_wp2
          refine bodyPost_ret (v := .tuple #[.slice (some ⟨go, 0, none⟩) i i, .slice (some ⟨gl, 0, none⟩) i i, .slice (some ⟨gs, 0, none⟩) i i]) (by simp [results, Try.results8, go_sem]) rfl ?_
          simp only [HM.out, HXM.out]
          exact ⟨go, gl, gs, rfl, FIN.out, T.out.tl, T.out.ts, B.out⟩
end Go.Proofs.Ytgcbngephokegab
