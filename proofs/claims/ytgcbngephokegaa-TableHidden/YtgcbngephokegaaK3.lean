/- How a tree lies in memory: its nodes' cells, its maps, its counts. No program in sight. -/
import Derived.Test.YtgcbngephokegaaK2
import Derived.Test.YtgcbngephokegaaKP
import Derived.Test.YtgcbngephokegaaMV
namespace Go.Proofs.Ytgcbngephokegaa
open Go.RowKit Go.Maps Go.MapKept Go.ChangeMaps Go.WideElems Go.Joins
set_option linter.unusedVariables false

/-- Cells of a block, from one on. -/
def Blo (w : World) (b o : Nat) (cs : List Value) : Prop := ∀ i v, cs[i]? = some v → w.cell? ⟨b, o + i, none⟩ = some v ∧ w.frozen? ⟨b, o + i, none⟩ = false
theorem Blo.same {w w' : World} {b o : Nat} {cs : List Value} (h : Blo w b o cs) (e : w'.heap[b]? = w.heap[b]?) : Blo w' b o cs := fun i v hv =>
  ⟨(World.cell?_of_block (w := w) (a := ⟨b, o + i, none⟩) e).trans (h i v hv).1, (World.frozen?_of_block (w := w) (a := ⟨b, o + i, none⟩) e).trans (h i v hv).2⟩
theorem Blo.lt {w : World} {b o : Nat} {c : Value} {cs : List Value} (h : Blo w b o (c :: cs)) : b < w.heap.size := cell_lt (o := o + 0) (by rw [(h 0 c rfl).1]; rfl)
theorem Blo.lt3 {w : World} {b o : Nat} {cs : List Value} (h : Blo w b o cs) (hl : cs.length = 3) : b < w.heap.size := by
  match cs, hl with
  | [x, y, z], _ => exact h.lt
theorem Blo.on {w w' : World} {b o : Nat} {c : Value} {cs : List Value} (h : Blo w b o (c :: cs)) (hb : Below w.heap.size w w') : Blo w' b o (c :: cs) := h.same (hb.block _ h.lt)
theorem Blo.far {w : World} {b o : Nat} {cs : List Value} (h : Blo w b o cs) (b' o' : Nat) (y : Value) (hp : b' ≠ b ∨ o' < o ∨ o + cs.length ≤ o') : Blo (w.setCell ⟨b', o', none⟩ y) b o cs := fun i v hv => by
  obtain ⟨h1, h2⟩ := h i v hv
  have hi : i < cs.length := by
    rcases Nat.lt_or_ge i cs.length with q | q
    · exact q
    · rw [List.getElem?_eq_none q] at hv; cases hv
  refine ⟨?_, by simp [h2]⟩
  rcases Nat.decEq b' b with c | c
  · rw [World.cell?_setCell_far _ _ _ _ (by exact c)]; exact h1
  · subst c
    rw [World.cell?_setCell_other _ _ _ _ (by simp <;> omega)]; exact h1
theorem Blo.set {w : World} {b o : Nat} {cs : List Value} (h : Blo w b o cs) (j : Nat) (y : Value) (hj : j < cs.length) : Blo (w.setCell ⟨b, o + j, none⟩ y) b o (cs.set j y) := fun i v hv => by
  have hc := (h j cs[j] (List.getElem?_eq_getElem hj)).1
  have : ∃ u, cs[i]? = some u := by
    by_cases e : i = j
    · subst e; exact ⟨_, List.getElem?_eq_getElem hj⟩
    · rw [List.getElem?_set_ne (fun q => e q.symm)] at hv; exact ⟨v, hv⟩
  obtain ⟨u, hu⟩ := this
  refine ⟨?_, by simp [(h i u hu).2]⟩
  by_cases e : i = j
  · subst e
    rw [List.getElem?_set_self hj] at hv
    cases hv
    exact World.cell?_setCell_same _ _ _ hc
  · rw [List.getElem?_set_ne (fun q => e q.symm)] at hv
    rw [World.cell?_setCell_other _ _ _ _ (by simp <;> omega)]; exact (h i v hv).1
theorem Blo.of {w : World} {b : Nat} {cs : List Value} (h : Blk w b cs) : Blo w b 0 cs := fun i v hv => by rw [Nat.zero_add]; exact ⟨h.1 i v hv, h.2 i v hv⟩
theorem Blo.isCells {w : World} {b o : Nat} {c : Value} {cs : List Value} (h : Blo w b o (c :: cs)) {es : Array MapEntry} {clock : Nat} (hm : w.heap[b]? = some (.map es clock)) : False := by
  have := (h 0 c rfl).1
  simp [World.cell?, hm] at this
/-- Where a tree lies: its nodes' blocks, their maps. -/
structure TL where
  bk : Pth → Nat
  mp : Pth → Option Nat
def off (pre : List Value) (q : Pth) : Nat := if q = [] then pre.length else 0
def wyV (a : TL) (N : List Pth) (q : Pth) : Value := .pointer (if q ∈ N then some ⟨a.bk q, 0, none⟩ else none)
def ncells (a : TL) (N : List Pth) (q : Pth) : List Value := [wyV a N (q ++ [false]), wyV a N (q ++ [true]), .map (a.mp q)]
/-- A value's map. -/
def zK (x : Int) : Value := .int .i64 x
def uV (_ : Unit) : Value := .agg #[]
def unitL (l : List Int) : List (Int × Unit) := l.map fun v => (v, ())
section
variable {P : Program} {tk : TypeId}
def MapO (P : Program) (tk : TypeId) (w : World) (m : Option Nat) (l : List Int) : Prop := match m with
  | none => l = []
  | some b => MapV P tk zK uV w b (unitL l)
/-- The cells of a tree's nodes, whatever they hold; what stands ahead of the first one; the counts. -/
structure LieC (w : World) (pre : List Value) (bk : Pth → Nat) (N : List Pth) (cf : Pth → List Value) (nb ne : Nat) : Prop where
  cells : ∀ q ∈ N, Blo w (bk q) (off pre q) (cf q)
  clen : ∀ q ∈ N, (cf q).length = 3
  ahd : Blo w (bk []) 0 pre
  cnt : Blo w (bk []) (pre.length + 3) [.int .i64 (nb : Nat), .int .i64 (ne : Nat)]
  bi : ∀ q ∈ N, ∀ s ∈ N, bk q = bk s → q = s
  nil : [] ∈ N
theorem LieC.same {w w' : World} {pre : List Value} {bk : Pth → Nat} {N : List Pth} {cf : Pth → List Value} {nb ne : Nat} (h : LieC w pre bk N cf nb ne) (e : ∀ q ∈ N, w'.heap[bk q]? = w.heap[bk q]?) : LieC w' pre bk N cf nb ne :=
  ⟨fun q hq => (h.cells q hq).same (e q hq), h.clen, h.ahd.same (e _ h.nil), h.cnt.same (e _ h.nil), h.bi, h.nil⟩
/-- A node's cell is stored to. -/
theorem LieC.set {w : World} {pre : List Value} {bk : Pth → Nat} {N : List Pth} {cf : Pth → List Value} {nb ne : Nat} (h : LieC w pre bk N cf nb ne) {q : Pth} (hq : q ∈ N) (j : Nat) (hj : j < 3) (y : Value) :
    LieC (w.setCell ⟨bk q, off pre q + j, none⟩ y) pre bk N (fun s => if s = q then (cf q).set j y else cf s) nb ne := by
  have hl := h.clen q hq
  refine ⟨fun s hs => ?_, fun s hs => ?_, ?_, ?_, h.bi, h.nil⟩
  · rcases Classical.em (s = q) with rfl | c
    · rw [if_pos rfl]; exact (h.cells s hs).set j y (by omega)
    · rw [if_neg c]
      exact (h.cells s hs).far _ _ y (Or.inl (fun e => c (h.bi s hs q hq e.symm)))
  · rcases Classical.em (s = q) with rfl | c
    · rw [if_pos rfl, List.length_set]; exact hl
    · rw [if_neg c]; exact h.clen s hs
  · refine h.ahd.far _ _ y ?_
    rcases Classical.em (q = []) with rfl | c
    · right; right; unfold off; rw [if_pos rfl]; omega
    · exact Or.inl (fun e => c (h.bi q hq [] h.nil e))
  · refine h.cnt.far _ _ y ?_
    rcases Classical.em (q = []) with rfl | c
    · right; left; unfold off; rw [if_pos rfl]; omega
    · exact Or.inl (fun e => c (h.bi q hq [] h.nil e))
theorem LieC.cnt3 {w : World} {pre : List Value} {bk : Pth → Nat} {N : List Pth} {cf : Pth → List Value} {nb ne : Nat} (h : LieC w pre bk N cf nb ne) (n : Nat) : LieC (w.setCell ⟨bk [], pre.length + 3, none⟩ (.int .i64 (n : Nat))) pre bk N cf n ne := by
  refine ⟨fun s hs => ?_, h.clen, h.ahd.far _ _ _ (by right; right; omega), h.cnt.set 0 _ (by simp), h.bi, h.nil⟩
  refine (h.cells s hs).far _ _ _ ?_
  have := h.clen s hs
  rcases Classical.em (s = []) with rfl | c
  · right; right; unfold off; rw [if_pos rfl, this]; omega
  · exact Or.inl (fun e => c (h.bi s hs [] h.nil e.symm))
theorem LieC.cnt4 {w : World} {pre : List Value} {bk : Pth → Nat} {N : List Pth} {cf : Pth → List Value} {nb ne : Nat} (h : LieC w pre bk N cf nb ne) (n : Nat) : LieC (w.setCell ⟨bk [], pre.length + 4, none⟩ (.int .i64 (n : Nat))) pre bk N cf nb n := by
  refine ⟨fun s hs => ?_, h.clen, h.ahd.far _ _ _ (by right; right; omega), h.cnt.set 1 _ (by simp), h.bi, h.nil⟩
  refine (h.cells s hs).far _ _ _ ?_
  have := h.clen s hs
  rcases Classical.em (s = []) with rfl | c
  · right; right; unfold off; rw [if_pos rfl, this]; omega
  · exact Or.inl (fun e => c (h.bi s hs [] h.nil e.symm))
/-- The nodes' maps. -/
structure LieM (P : Program) (tk : TypeId) (w : World) (mp : Pth → Option Nat) (N : List Pth) (E : List Ent) : Prop where
  maps : ∀ q ∈ N, MapO P tk w (mp q) (vals E q)
  mi : ∀ q ∈ N, ∀ s ∈ N, ∀ b, mp q = some b → mp s = some b → q = s
/-- A tree of these nodes and entries lies there. -/
structure Lie (P : Program) (tk : TypeId) (w : World) (pre : List Value) (a : TL) (N : List Pth) (E : List Ent) (nb ne : Nat) : Prop where
  c : LieC w pre a.bk N (ncells a N) nb ne
  m : LieM P tk w a.mp N E
  nn : N.Nodup
  en : E.Nodup
  ed : ∀ e ∈ E, e.1 ∈ N
def TL.has (a : TL) (N : List Pth) (k : Nat) : Prop := (∃ q ∈ N, a.bk q = k) ∨ ∃ q ∈ N, a.mp q = some k
theorem LieM.same {w w' : World} {mp : Pth → Option Nat} {N : List Pth} {E : List Ent} (h : LieM P tk w mp N E) (e : ∀ q ∈ N, ∀ b, mp q = some b → w'.heap[b]? = w.heap[b]?) : LieM P tk w' mp N E :=
  ⟨fun q hq => by
    have := h.maps q hq
    cases hm : mp q with
    | none => rw [hm] at this; exact this
    | some b => rw [hm] at this; exact MapV.same this (e q hq b hm), h.mi⟩
variable {w w' : World} {pre : List Value} {a : TL} {N : List Pth} {E : List Ent} {nb ne : Nat}
theorem Lie.lt (h : Lie P tk w pre a N E nb ne) (k : Nat) (hk : a.has N k) : k < w.heap.size := by
  rcases hk with ⟨q, hq, rfl⟩ | ⟨q, hq, e⟩
  · exact (h.c.cells q hq).lt3 (h.c.clen q hq)
  · have := h.m.maps q hq
    rw [e] at this
    exact MapV.lt this
theorem Lie.keep {S : Nat → Prop} (h : Lie P tk w pre a N E nb ne) (k : Keep S w w') (hs : ∀ i, a.has N i → ¬ S i) : Lie P tk w' pre a N E nb ne :=
  ⟨h.c.same (fun q hq => k.block _ (h.lt _ (Or.inl ⟨q, hq, rfl⟩)) (hs _ (Or.inl ⟨q, hq, rfl⟩))), h.m.same (fun q hq b e => k.block _ (h.lt _ (Or.inr ⟨q, hq, e⟩)) (hs _ (Or.inr ⟨q, hq, e⟩))), h.nn, h.en, h.ed⟩
theorem Lie.on (h : Lie P tk w pre a N E nb ne) (hb : Below w.heap.size w w') : Lie P tk w' pre a N E nb ne := h.keep (S := fun _ => False) (Keep.of hb) (fun _ _ q => q)
/-- A node's block is no map. -/
theorem Lie.nem (h : Lie P tk w pre a N E nb ne) {q s : Pth} (hq : q ∈ N) (hs : s ∈ N) {b : Nat} (hm : a.mp s = some b) : a.bk q ≠ b := fun e => by
  have h1 := h.m.maps s hs
  rw [hm] at h1
  obtain ⟨es, clock, h2⟩ := MapV.isMap h1
  have h3 := h.c.cells q hq
  have h4 := h.c.clen q hq
  subst e
  match hc : ncells a N q, h4 with
  | [x, y, z], _ => rw [hc] at h3; exact h3.isCells h2
theorem Lie.mset (h : Lie P tk w pre a N E nb ne) {q : Pth} (hq : q ∈ N) (o : Nat) (y : Value) : LieM P tk (w.setCell ⟨a.bk q, o, none⟩ y) a.mp N E :=
  h.m.same (fun s hs b e => Below.heap_setCell _ _ _ _ (fun k => h.nem hq hs e k.symm))
/-- What a node's cells hold. -/
theorem Lie.node (h : Lie P tk w pre a N E nb ne) {q : Pth} (hq : q ∈ N) : Blo w (a.bk q) (off pre q) [wyV a N (q ++ [false]), wyV a N (q ++ [true]), .map (a.mp q)] := h.c.cells q hq
theorem Lie.cnt3 (h : Lie P tk w pre a N E nb ne) (n : Nat) : Lie P tk (w.setCell ⟨a.bk [], pre.length + 3, none⟩ (.int .i64 (n : Nat))) pre a N E n ne := ⟨h.c.cnt3 n, h.mset h.c.nil _ _, h.nn, h.en, h.ed⟩
theorem Lie.cnt4 (h : Lie P tk w pre a N E nb ne) (n : Nat) : Lie P tk (w.setCell ⟨a.bk [], pre.length + 4, none⟩ (.int .i64 (n : Nat))) pre a N E nb n := ⟨h.c.cnt4 n, h.mset h.c.nil _ _, h.nn, h.en, h.ed⟩
theorem Lie.pre1 {x : Value} (h : Lie P tk w [x] a N E nb ne) (y : Value) : Lie P tk (w.setCell ⟨a.bk [], 0, none⟩ y) [y] a N E nb ne := by
  refine ⟨⟨fun s hs => ?_, h.c.clen, ?_, ?_, h.c.bi, h.c.nil⟩, h.mset h.c.nil _ _, h.nn, h.en, h.ed⟩
  · have hc := h.c.cells s hs
    have e : off [x] s = off [y] s := rfl
    rw [← e]
    refine hc.far _ _ _ ?_
    rcases Classical.em (s = []) with rfl | c
    · right; left; unfold off; rw [if_pos rfl]; exact Nat.zero_lt_one
    · exact Or.inl (fun e => c (h.c.bi s hs [] h.c.nil e.symm))
  · exact h.c.ahd.set 0 y (by simp)
  · exact h.c.cnt.far _ _ _ (by right; left; show 0 < 1 + 3; omega)
/-- Where a tree lies with a node more. -/
def TL.add (a : TL) (s : Pth) (b : Nat) : TL := ⟨fun q => if q = s then b else a.bk q, fun q => if q = s then none else a.mp q⟩
theorem side_inj {q s : Pth} {x y : Bool} (h : q ++ [x] = s ++ [y]) : q = s ∧ x = y := by
  have := List.append_inj' h rfl
  exact ⟨this.1, by simpa using this.2⟩
/-- A new node. -/
theorem Lie.link (h : Lie P tk w pre a N E nb ne) {q : Pth} (hq : q ∈ N) (x : Bool) (hs : q ++ [x] ∉ N) (hcl : ∀ y, q ++ [x] ++ [y] ∉ N) {b : Nat} (hb : Blk w b [.pointer none, .pointer none, .map none]) (hn : ¬ a.has N b) :
    Lie P tk (w.setCell ⟨a.bk q, off pre q + (if x then 1 else 0), none⟩ (.pointer (some ⟨b, 0, none⟩))) pre (a.add (q ++ [x]) b) ((q ++ [x]) :: N) E nb ne := by
  have hbq : ∀ s ∈ N, a.bk s ≠ b := fun s hs e => hn (Or.inl ⟨s, hs, e⟩)
  have hne : ∀ s ∈ N, s ≠ q ++ [x] := fun s h1 e => hs (by rw [← e]; exact h1)
  have hC := h.c.set hq (if x then 1 else 0) (by split <;> omega) (.pointer (some ⟨b, 0, none⟩))
  have e0 : (a.add (q ++ [x]) b).bk [] = a.bk [] := if_neg (by simp)
  have hoff : off pre (q ++ [x]) = 0 := if_neg (by simp)
  have ebk : ∀ s ∈ N, (a.add (q ++ [x]) b).bk s = a.bk s := fun s h1 => if_neg (hne s h1)
  have emp : ∀ s ∈ N, (a.add (q ++ [x]) b).mp s = a.mp s := fun s h1 => if_neg (hne s h1)
  have ebs : (a.add (q ++ [x]) b).bk (q ++ [x]) = b := if_pos rfl
  have ems : (a.add (q ++ [x]) b).mp (q ++ [x]) = none := if_pos rfl
  have hw : ∀ s, s ≠ q ++ [x] → wyV (a.add (q ++ [x]) b) ((q ++ [x]) :: N) s = wyV a N s := fun s h1 => by
    unfold wyV
    have : (a.add (q ++ [x]) b).bk s = a.bk s := if_neg h1
    rw [this]
    by_cases c : s ∈ N
    · rw [if_pos c, if_pos (List.mem_cons_of_mem _ c)]
    · rw [if_neg c, if_neg (fun k => (List.mem_cons.1 k).elim h1 c)]
  have hws : wyV (a.add (q ++ [x]) b) ((q ++ [x]) :: N) (q ++ [x]) = .pointer (some ⟨b, 0, none⟩) := by
    unfold wyV; rw [if_pos (List.mem_cons_self ..), ebs]
  refine ⟨⟨fun s h1 => ?_, fun s _ => rfl, ?_, ?_, ?_, List.mem_cons_of_mem _ h.c.nil⟩, ⟨fun s h1 => ?_, ?_⟩, List.nodup_cons.2 ⟨hs, h.nn⟩, h.en, fun e he => List.mem_cons_of_mem _ (h.ed e he)⟩
  · rcases List.mem_cons.1 h1 with rfl | h1
    · rw [ebs, hoff]
      have : ncells (a.add (q ++ [x]) b) ((q ++ [x]) :: N) (q ++ [x]) = [.pointer none, .pointer none, .map none] := by
        unfold ncells
        rw [ems, hw _ (by simp), hw _ (by simp)]
        unfold wyV
        rw [if_neg (hcl false), if_neg (hcl true)]
      rw [this]
      exact (Blo.of hb).far _ _ _ (Or.inl (hbq q hq))
    · have hin : s ∈ N := h1
      clear h1
      have hc := hC.cells s hin
      rw [ebk s hin]
      rcases Classical.em (s = q) with rfl | c
      · rw [if_pos rfl] at hc
        have : ncells (a.add (s ++ [x]) b) ((s ++ [x]) :: N) s = (ncells a N s).set (if x then 1 else 0) (.pointer (some ⟨b, 0, none⟩)) := by
          unfold ncells
          rw [emp s hin]
          cases x
          · rw [hws, hw _ (by simp)]; rfl
          · rw [hws, hw _ (by simp)]; rfl
        rw [this]; exact hc
      · rw [if_neg c] at hc
        have : ncells (a.add (q ++ [x]) b) ((q ++ [x]) :: N) s = ncells a N s := by
          unfold ncells
          rw [emp s hin, hw _ (fun e => c (side_inj e).1), hw _ (fun e => c (side_inj e).1)]
        rw [this]; exact hc
  · rw [e0]; exact hC.ahd
  · rw [e0]; exact hC.cnt
  · intro s h1 t h2 e
    rcases List.mem_cons.1 h1 with rfl | h1 <;> rcases List.mem_cons.1 h2 with rfl | h2
    · rfl
    · rw [ebs, ebk t h2] at e; exact absurd e.symm (hbq t h2)
    · rw [ebs, ebk s h1] at e; exact absurd e (hbq s h1)
    · rw [ebk s h1, ebk t h2] at e; exact h.c.bi s h1 t h2 e
  · rcases List.mem_cons.1 h1 with rfl | h1
    · rw [ems]
      show vals E (q ++ [x]) = []
      cases hv : vals E (q ++ [x]) with
      | nil => rfl
      | cons v r => exact absurd (h.ed _ (mem_vals.1 (by rw [hv]; exact List.mem_cons_self ..))) hs
    · rw [emp s h1]; exact (h.mset hq _ _).maps s h1
  · intro s h1 t h2 k k1 k2
    rcases List.mem_cons.1 h1 with rfl | h1
    · rw [ems] at k1; cases k1
    · rcases List.mem_cons.1 h2 with rfl | h2
      · rw [ems] at k2; cases k2
      · rw [emp s h1] at k1; rw [emp t h2] at k2; exact h.m.mi s h1 t h2 k k1 k2
/-- A node without ways goes. -/
theorem Lie.cut (h : Lie P tk w pre a N E nb ne) {q : Pth} (hq : q ∈ N) (x : Bool) (hs : q ++ [x] ∈ N) (hv : vals E (q ++ [x]) = []) :
    Lie P tk (w.setCell ⟨a.bk q, off pre q + (if x then 1 else 0), none⟩ (.pointer none)) pre a (N.erase (q ++ [x])) E nb ne := by
  have hC := h.c.set hq (if x then 1 else 0) (by split <;> omega) (.pointer none)
  have hM := h.mset hq (off pre q + (if x then 1 else 0)) (.pointer none)
  have hsub : ∀ {s}, s ∈ N.erase (q ++ [x]) → s ≠ q ++ [x] ∧ s ∈ N := fun {s} h1 => (h.nn.mem_erase_iff).1 h1
  have hnil : [] ∈ N.erase (q ++ [x]) := (h.nn.mem_erase_iff).2 ⟨by simp, h.c.nil⟩
  have hw : ∀ s, s ≠ q ++ [x] → wyV a (N.erase (q ++ [x])) s = wyV a N s := fun s h1 => by
    unfold wyV
    by_cases c : s ∈ N
    · rw [if_pos c, if_pos ((h.nn.mem_erase_iff).2 ⟨h1, c⟩)]
    · rw [if_neg c, if_neg (fun k => c (hsub k).2)]
  have hws : wyV a (N.erase (q ++ [x])) (q ++ [x]) = .pointer none := by
    unfold wyV; rw [if_neg (fun k => (hsub k).1 rfl)]
  refine ⟨⟨fun s h1 => ?_, fun s _ => rfl, hC.ahd, hC.cnt, fun s h1 t h2 => h.c.bi s (hsub h1).2 t (hsub h2).2, hnil⟩, ⟨fun s h1 => hM.maps s (hsub h1).2, fun s h1 t h2 => h.m.mi s (hsub h1).2 t (hsub h2).2⟩, h.nn.erase _, h.en, fun e he => ?_⟩
  · have hc := hC.cells s (hsub h1).2
    rcases Classical.em (s = q) with rfl | c
    · rw [if_pos rfl] at hc
      have : ncells a (N.erase (s ++ [x])) s = (ncells a N s).set (if x then 1 else 0) (.pointer none) := by
        unfold ncells
        cases x
        · rw [hws, hw _ (by simp)]; rfl
        · rw [hws, hw _ (by simp)]; rfl
      rw [this]; exact hc
    · rw [if_neg c] at hc
      have : ncells a (N.erase (q ++ [x])) s = ncells a N s := by
        unfold ncells
        rw [hw _ (fun e => c (side_inj e).1), hw _ (fun e => c (side_inj e).1)]
      rw [this]; exact hc
  · refine (h.nn.mem_erase_iff).2 ⟨fun k => ?_, h.ed e he⟩
    have : e.2 ∈ vals E (q ++ [x]) := mem_vals.2 (by rw [← k]; exact he)
    rw [hv] at this; cases this
/-- Where a tree lies with a map more. -/
def TL.own (a : TL) (s : Pth) (b : Nat) : TL := ⟨a.bk, fun q => if q = s then some b else a.mp q⟩
/-- A node's own map. -/
theorem Lie.own (h : Lie P tk w pre a N E nb ne) {q : Pth} (hq : q ∈ N) (hv : vals E q = []) {b : Nat} (hb : MapV P tk zK uV w b []) (hn : ¬ a.has N b) :
    Lie P tk (w.setCell ⟨a.bk q, off pre q + 2, none⟩ (.map (some b))) pre (a.own q b) N E nb ne := by
  have hC := h.c.set hq 2 (by omega) (.map (some b))
  have hM := h.mset hq (off pre q + 2) (.map (some b))
  have hbq : a.bk q ≠ b := fun e => hn (Or.inl ⟨q, hq, e⟩)
  refine ⟨⟨fun s h1 => ?_, fun s _ => rfl, hC.ahd, hC.cnt, h.c.bi, h.c.nil⟩, ⟨fun s h1 => ?_, fun s h1 t h2 k k1 k2 => ?_⟩, h.nn, h.en, h.ed⟩
  · have hc := hC.cells s h1
    rcases Classical.em (s = q) with rfl | c
    · rw [if_pos rfl] at hc
      have : ncells (a.own s b) N s = (ncells a N s).set 2 (.map (some b)) := by
        unfold ncells
        rw [show (a.own s b).mp s = some b from if_pos rfl]; rfl
      rw [this]; exact hc
    · rw [if_neg c] at hc
      have : ncells (a.own q b) N s = ncells a N s := by
        unfold ncells
        rw [show (a.own q b).mp s = a.mp s from if_neg c]; rfl
      rw [this]; exact hc
  · rcases Classical.em (s = q) with rfl | c
    · rw [show (a.own s b).mp s = some b from if_pos rfl, hv]
      exact MapV.same hb (Below.heap_setCell _ _ _ _ (fun k => hbq k.symm))
    · rw [show (a.own q b).mp s = a.mp s from if_neg c]; exact hM.maps s h1
  · have own : ∀ s ∈ N, (a.own q b).mp s = some b → s = q := fun s h1 e => by
      rcases Classical.em (s = q) with c | c
      · exact c
      · rw [show (a.own q b).mp s = a.mp s from if_neg c] at e
        exact absurd (Or.inr ⟨s, h1, e⟩) hn
    rcases Classical.em (s = q) with c | c
    · subst c
      rw [show (a.own s b).mp s = some b from if_pos rfl] at k1
      cases k1
      exact (own t h2 k2).symm
    · rcases Classical.em (t = q) with d | d
      · subst d
        rw [show (a.own t b).mp t = some b from if_pos rfl] at k2
        cases k2
        exact own s h1 k1
      · rw [show (a.own q b).mp s = a.mp s from if_neg c] at k1
        rw [show (a.own q b).mp t = a.mp t from if_neg d] at k2
        exact h.m.mi s h1 t h2 k k1 k2
/-- A node's map turns, all else stays. -/
theorem Lie.put (h : Lie P tk w pre a N E nb ne) {q : Pth} (hq : q ∈ N) {b : Nat} (hm : a.mp q = some b) {E' : List Ent} (hb : MapV P tk zK uV w' b (unitL (vals E' q))) (ho : Only b w w') (hv : ∀ s ∈ N, s ≠ q → vals E' s = vals E s) (hn : E'.Nodup) (hed : ∀ e ∈ E', e.1 ∈ N) :
    Lie P tk w' pre a N E' nb ne := by
  refine ⟨h.c.same (fun s h1 => ho.blk _ (h.nem h1 hq hm)), ⟨fun s h1 => ?_, h.m.mi⟩, h.nn, hn, hed⟩
  rcases Classical.em (s = q) with rfl | c
  · rw [hm]; exact hb
  · rw [hv s h1 c]
    have := h.m.maps s h1
    cases hs : a.mp s with
    | none => rw [hs] at this; exact this
    | some k =>
      rw [hs] at this
      refine MapV.same this (ho.blk _ (fun e => c (h.m.mi s h1 q hq b (by rw [hs, e]) hm)))
theorem vals_add {E : List Ent} {q s : Pth} {v : Int} (hs : s ≠ q) : vals ((q, v) :: E) s = vals E s := by
  unfold vals; rw [List.filter_cons, if_neg (by simp; exact fun e => hs e.symm)]
theorem vals_add' {E : List Ent} {q : Pth} {v : Int} : vals ((q, v) :: E) q = v :: vals E q := by
  unfold vals; rw [List.filter_cons, if_pos (by simp)]; rfl
theorem vals_drop {E : List Ent} {q s : Pth} {v : Int} (hs : s ≠ q) : vals (dropE E (q, v)) s = vals E s := by
  unfold vals dropE
  rw [List.filter_filter]
  congr 1
  refine List.filter_congr (fun e he => ?_)
  rw [Bool.eq_iff_iff, Bool.and_eq_true, decide_eq_true_eq, decide_eq_true_eq]
  exact ⟨fun h => h.1, fun h => ⟨h, fun k => hs (by rw [← h, k])⟩⟩
theorem mem_unitL {l : List Int} {p : Int × Unit} : p ∈ unitL l ↔ p.1 ∈ l := by
  unfold unitL
  rw [List.mem_map]
  exact ⟨fun ⟨v, h, e⟩ => by rw [← e]; exact h, fun h => ⟨p.1, h, rfl⟩⟩
end
end Go.Proofs.Ytgcbngephokegaa
