/- maps.Values of a map of rules: its iterator gives each rule once. maps.Values of a map of rules: its iterator gives each rule once. slices.Collect of rules. -/
import Derived.Test.YtgcbngephokegaaT9
import Derived.Shelf.SlIterI.Nil
import Derived.Test.YtgcbngephokegaaIter
namespace Go.Proofs.Ytgcbngephokegaa
open Go.RowKit Go.Maps Go.MapKept Go.ChangeMaps Go.WideElems Go.Joins Go.Sort Go.Shelf Go.WideShapes
set_option linter.unusedVariables false
set_option linter.unusedSimpArgs false

/-- How an element reads: as itself. -/
def heldElem (v : Value) : Option (DataW Value × List MemPlace) := some (.held v, [])
section
variable {P : Program} {tk : TypeId} {w : World} {b : Nat} {ν : Type} {vv : ν → Value} {m : List (Int × ν)}
theorem held_rd {x : MapEntry} {y : Lit × DataW Unit} (h : WideElems.rd P tk anyElem x = some y) : WideElems.rd P tk heldElem x = some (y.1, .held x.val) := by
  have hk := WideElems.rd_key h
  unfold WideElems.rd
  simp [hk, heldElem]
theorem val_owns (K : Keyed P tk) (hk : P.underlying tk = some (.int .i64)) (h : MapV P tk zK vv w b m) :
    ∃ D0 : DataW Value, w.ownsMap P tk heldElem b m.length D0 ∧ Maps.size D0 ≤ m.length ∧ (intKeys D0).Nodup ∧ (∀ x, x ∈ intKeys D0 ↔ x ∈ m.map (·.1)) ∧ (∀ x, has D0 (.int .i64 x) = true → x ∈ m.map (·.1)) ∧
      ∀ x r, (x, r) ∈ m → ∀ zd, D0.atKey (.int .i64 x) zd = .held (vv r) := by
  obtain ⟨es, clock, h1, F, h2, h3⟩ := h
  have hs := MapV.size F h2
  have F' : Fit (H := Value) P tk heldElem es clock := ⟨F.size, F.stamped, fun x hx => by obtain ⟨y, hy⟩ := F.reads x hx; exact ⟨_, held_rd hy⟩⟩
  have hkey : ∀ e ∈ es.toList, ∃ v : Int, (rg P tk heldElem e).1 = .int .i64 v ∧ e.key = encZ v ∧ (rg P tk heldElem e).2 = .held e.val := fun e he => by
    obtain ⟨y, hy⟩ := F.reads e he
    obtain ⟨v, e1, e2, -⟩ := Maps.keyOf_i64 hk (WideElems.rd_key hy)
    have := rg_of (held_rd hy)
    exact ⟨v, by rw [this]; exact e2, e1, by rw [this]⟩
  have hap := apart_of_rising _ (fit_rising K F')
  have hpw : ((es.toList.map (rg P tk heldElem)).foldr DataW.insert []).Pairwise (fun p q => p.1 ≠ q.1) := (List.Perm.pairwise_iff (R := fun (p q : Lit × DataW Value) => p.1 ≠ q.1) (fun h e => h e.symm) (sorted_perm _)).2 hap
  have hin : ∀ x, x ∈ intKeys (.map ((es.toList.map (rg P tk heldElem)).foldr DataW.insert []) : DataW Value) ↔ x ∈ m.map (·.1) := fun x => by
    show x ∈ ((es.toList.map (rg P tk heldElem)).foldr DataW.insert []).map (fun p => Go.intOf p.1) ↔ _
    rw [List.mem_map, List.mem_map]
    constructor
    · rintro ⟨p, hp, rfl⟩
      rw [mem_sorted] at hp
      obtain ⟨e, he, rfl⟩ := List.mem_map.1 hp
      obtain ⟨v, k1, k2, -⟩ := hkey e he
      obtain ⟨q, hq, k3, -⟩ := h2 e he
      rw [k1]
      have : v = q.1 := encZ_inj (k2.symm.trans k3)
      exact ⟨q, hq, this.symm⟩
    · rintro ⟨q, hq, rfl⟩
      obtain ⟨e, he, k3, -⟩ := h3 q hq
      obtain ⟨v, k1, k2, -⟩ := hkey e he
      refine ⟨_, mem_sorted.2 (List.mem_map.2 ⟨e, he, rfl⟩), ?_⟩
      rw [k1]
      exact encZ_inj (k2.symm.trans k3)
  refine ⟨.map ((es.toList.map (rg P tk heldElem)).foldr DataW.insert []), ⟨es, clock, h1, F', hs, rfl⟩, ?_, ?_, hin, fun x hx => ?_, fun x r hr zd => ?_⟩
  · show ((es.toList.map (rg P tk heldElem)).foldr DataW.insert []).length ≤ _
    rw [length_sorted]; simpa using hs
  · show (((es.toList.map (rg P tk heldElem)).foldr DataW.insert []).map fun p => Go.intOf p.1).Nodup
    refine ((sorted_perm _).map _).nodup_iff.2 ?_
    refine List.pairwise_map.2 (hap.imp_of_mem (fun {p q} hp hq hne e => hne ?_))
    obtain ⟨e1, he1, rfl⟩ := List.mem_map.1 hp
    obtain ⟨e2, he2, rfl⟩ := List.mem_map.1 hq
    obtain ⟨v1, k1, -⟩ := hkey e1 he1
    obtain ⟨v2, k2, -⟩ := hkey e2 he2
    rw [k1, k2] at e ⊢
    exact congrArg _ e
  · have hk2 : ∀ p ∈ ((es.toList.map (rg P tk heldElem)).foldr DataW.insert []), ∃ x, p.1 = .int .i64 x := fun p hp => by
      rw [mem_sorted] at hp
      obtain ⟨e, he, rfl⟩ := List.mem_map.1 hp
      obtain ⟨v, k1, -⟩ := hkey e he
      exact ⟨v, k1⟩
    rw [has_eq, List.any_eq_true] at hx
    obtain ⟨p, hp, hsk⟩ := hx
    obtain ⟨a, ha⟩ := hk2 p hp
    rw [ha] at hsk
    refine (hin x).1 (List.mem_map.2 ⟨p, hp, ?_⟩)
    rw [ha]
    simpa [Lit.sameKey, Go.intOf] using hsk
  · obtain ⟨e, he, k3, k4⟩ := h3 (x, r) hr
    obtain ⟨v, k1, k2, k5⟩ := hkey e he
    have hv : v = x := encZ_inj (k2.symm.trans k3)
    refine WideAt.atKey_mem zd (by unfold WideAt.IsKeyLit; trivial) hpw (mem_sorted.2 (List.mem_map.2 ⟨e, he, ?_⟩))
    refine Prod.ext (by rw [k1, hv]) ?_
    rw [k5, k4]
end
end Go.Proofs.Ytgcbngephokegaa
namespace Go.Proofs.Ytgcbngephokegaa
open Go.RowKit Go.Maps Go.MapKept Go.ChangeMaps Go.WideElems Go.Joins Go.Sort Go.Shelf Go.WideShapes
set_option linter.unusedVariables false
set_option linter.unusedSimpArgs false

abbrev valsF (w : World) : Value := .func (.func 73) #[] #[.pointer (some ⟨w.heap.size, 0, none⟩)]
theorem values_any (mb : Option Nat) (w : World) : Calls Try.prog 58 #[.map mb] w fun e w' => e = .returned (valsF w) ∧ w.alloc (.cells #[.map mb] 106) = w' := by
  go_enter Try.func58, Try.ntmps58
  go_wp2
  go_ret
  exact ⟨rfl, rfl⟩
/-- All rules of a list, each once. -/
def AllOnce (R rs : List Ru) : Prop := rs.Nodup ∧ ∀ r, r ∈ rs ↔ r ∈ R
set_option maxRecDepth 100000 in
set_option maxHeartbeats 1000000 in
theorem values1_in (F : Fence) (n : Nat) (hf : F.fn 73) (hro : F.round = none) (hn : 1 ≤ n) (l Bm b : Nat) (R : List Ru) (hR : (R.map Ru.id).Nodup) (J : List Ru → World → Prop)
    (hY : ∀ pre x W, J pre W → pre.length < R.length → YieldAt F (n - 1) Try.prog l #[rv x] W fun e W' => e = .returned (.bool true) ∧ J (pre ++ [x]) W' ∧ KeepsWalks W W')
    (W : World) (hJ : AbidesFrom W.heap.size J) (hm : W.cell? ⟨Bm, 0, none⟩ = some (.map (some b))) (hM : RMap W (some b) R) (h0 : J [] W) :
    CallsIn F n Try.prog 73 #[.func (.yield l) #[] #[], .pointer (some ⟨Bm, 0, none⟩)] W fun e W' => (∃ v, e = .returned v) ∧ ∃ rs : List Ru, AllOnce R rs ∧ J rs W' := by
  obtain ⟨D0, hown, hsz, hnd, hin, hhas, hat0⟩ := val_owns (keyedInt) Try.underlying3 (show MapV Try.prog 3 zK (fun x : Ru => rv x) W b (ruL R) from hM)
  have hlen : (ruL R).length = R.length := by unfold ruL; rw [List.length_map]
  rw [hlen] at hown hsz
  have HIN := Lib.hid hin
  have HHAS := Lib.hid hhas
  have HAT := Lib.hid hat0
  have HND := Lib.hid hnd
  clear hin hhas hat0 hnd hM
  refine callsIn_of_wp Try.func73 rfl hf ?_ hro
  simp only [Try.ntmps73, List.size_toArray, List.length_cons, List.length_nil, Nat.reduceAdd, Nat.reduceSub, Array.replicate_succ, Array.replicate_zero, List.push_toArray, List.append_toArray, List.nil_append, List.cons_append]
  gi_wp2_with (first
    | (gi_at_range; refine wpListIn_range_own _ rfl _ 106 rfl 3 57 keyedInt Try.underlying106 _ b R.length _ rfl hown ?_; intro w0 hrg0 hg0 hs0)
    | gi_in)
  go_frame
  gi_loopw [4] (fun _ wr => ∃ (left : Lit → Bool) (cnt : Nat) (ps : List Ru), wr.ranges Try.prog 3 heldElem b W.heap.size R.length D0 left cnt ∧ ps.length + cnt ≤ Maps.size D0 ∧ CollectedI D0 left (ps.map Ru.id) ∧ (∀ p ∈ ps, p ∈ R) ∧ J ps wr)
    (fun _ wr => wr.rangeLeft b W.heap.size)
  case atStart =>
    exact ⟨_, _, [], hrg0, by simp, CollectedI.start D0, fun p hp => (by cases hp), hJ [] W w0 none h0 hg0 (fun r e => by cases e)⟩
  case round =>
    obtain ⟨left, cnt, ps, hrg, hcs, hC, hps, hJs⟩ := hrel
    gi_wp2_with (first
      | (gi_at_next; refine wpListIn_next_ranges _ rfl _ rfl 3 keyedInt heldElem encZ id (fun key kl hk => by obtain ⟨x, hx, _⟩ := Maps.keyOf_i64 Try.underlying3 hk; exact ⟨x, hx⟩) (fun v _ _ => ⟨v, rfl⟩) b W.heap.size R.length _ _ _ rfl hrg ?_ ?_)
      | gi_in)
    · intro hc0 hl0
      gi_wp2
      go_end0
      have hp := hC.perm hown keyedInt Try.underlying3 hl0
      refine ⟨⟨_, rfl⟩, ps, ⟨List.Pairwise.of_map (S := fun a b => a ≠ b) (f := Ru.id) (fun a b h e => h (congrArg _ e)) hC.1, fun r => ⟨hps r, fun hr => ?_⟩⟩, hJs⟩
      have h1 : r.id ∈ ps.map Ru.id := hp.mem_iff.2 ((HIN.out r.id).2 (by rw [ruL_keys]; exact List.mem_map.2 ⟨r, hr, rfl⟩))
      obtain ⟨s, hs, e⟩ := List.mem_map.1 h1
      rw [← id_inj hR (hps s hs) hr e]; exact hs
    · intro x c kl yd yp w2 cnt2 hkey hlk hv hat hrg2 hlt hg2 hs2 hen
      obtain ⟨x', ex, rfl, _⟩ := Maps.keyOf_i64 Try.underlying3 hkey
      obtain rfl : x = x' := encZ_inj ex
      obtain ⟨rfl, -⟩ : DataW.held c = yd ∧ [] = yp := by
        have := Option.some.inj hv
        exact ⟨congrArg Prod.fst this, congrArg Prod.snd this⟩
      obtain ⟨r, hr, hrx, hcr⟩ : ∃ r ∈ R, r.id = x ∧ c = rv r := by
        have h1 := HHAS.out x (has_true_of_atKey hat)
        rw [ruL_keys] at h1
        obtain ⟨r, hr, e⟩ := List.mem_map.1 h1
        refine ⟨r, hr, e, ?_⟩
        have h2 := HAT.out x r (mem_ruL.2 ⟨hr, e.symm⟩) .nil
        rw [hat .nil] at h2
        exact DataW.held.inj h2
      subst hcr
      subst hrx
      have hJ2 : J ps w2 := hJ ps wr w2 (some W.heap.size) hJs hg2 (fun r e => by cases e; exact ⟨Nat.le_refl _, hrg.iter_walk⟩)
      have hrg3 := hrg2.of_walks (KeepsWalks.alloc w2 (.cells r.cells.toArray 57))
      have hJ3 : J ps (w2.alloc (.cells r.cells.toArray 57)) := hJ ps w2 _ none hJ2 (World.grownBy_alloc w2 _ none) (fun r e => by cases e)
      obtain ⟨fn, tmps, assign, body, hy, hR'⟩ := hY ps r (w2.alloc (.cells r.cells.toArray 57)) hJ3 (by omega)
      have hC2 : CollectedI D0 (fun z => left z && !z.sameKey (.int .i64 r.id)) ((ps ++ [r]).map Ru.id) := by
        rw [List.map_append, List.map_singleton]; exact hC.step hlk hat
      have hps2 : ∀ p ∈ ps ++ [r], p ∈ R := fun p hp => by
        rcases List.mem_append.1 hp with q | q
        · exact hps p q
        · rw [List.mem_singleton.1 q]; exact hr
      have HC2 := Lib.hid hC2
      have HP2 := Lib.hid hps2
      clear hs2 hJ2 hJ3 hC2 hps2
      dsimp only [Ru.cells] at hy hR' hrg3
      gi_wp2
      refine hR'.mono ?_
      rintro e W3 ⟨rfl, hJ4, hk3⟩
      gi_wp2
      have hrg4 := hrg3.of_walks hk3
      go_roundw
      case rel => exact ⟨_, cnt2, ps ++ [r], hrg4, by simp; omega, HC2.out, HP2.out, hJ4⟩
      case measure => rw [hrg4.left_eq, hrg.left_eq]; exact hlt
set_option maxRecDepth 100000 in
set_option maxHeartbeats 1000000 in
theorem values1_nil (F : Fence) (n : Nat) (hf : F.fn 73) (hro : F.round = none) (l Bm : Nat) (J : List Ru → World → Prop) (W : World) (hJ : AbidesFrom W.heap.size J)
    (hm : W.cell? ⟨Bm, 0, none⟩ = some (.map none)) (h0 : J [] W) :
    CallsIn F n Try.prog 73 #[.func (.yield l) #[] #[], .pointer (some ⟨Bm, 0, none⟩)] W fun e W' => (∃ v, e = .returned v) ∧ ∃ rs : List Ru, AllOnce [] rs ∧ J rs W' := by
  refine callsIn_of_wp Try.func73 rfl hf ?_ hro
  simp only [Try.ntmps73, List.size_toArray, List.length_cons, List.length_nil, Nat.reduceAdd, Nat.reduceSub, Array.replicate_succ, Array.replicate_zero, List.push_toArray, List.append_toArray, List.nil_append, List.cons_append]
  have hrg := run_range_nilMap (P := Try.prog) W 106 3 57 Try.underlying106
  have hnx : ∀ ty, (Instr.next (.pointer (some ⟨W.heap.size, 0, none⟩)) false ty).run Try.prog (W.alloc (.mapIter none 0 #[] 0)) = _ := fun ty => run_next_nilMap _ ty 0 0 #[]
  gi_wp2
  refine wpIn_loop_rounds 1 ?_
  rw [roundsIn_succ]
  gi_wp2
  go_end0
  exact ⟨⟨_, rfl⟩, [], ⟨List.nodup_nil, fun r => Iff.rfl⟩, hJ [] W _ none h0 (World.grownBy_alloc W _ none) (fun r e => by cases e)⟩
/-- The iterator over a table's rules gives each once. -/
theorem values_gives (n : Nat) (hn : 1 ≤ n) (m : Option Nat) (R : List Ru) (hR : (R.map Ru.id).Nodup) (w : World) (h : RMap w m R) :
    SeqGives Fence.wide n Try.prog 73 #[.pointer (some ⟨w.heap.size, 0, none⟩)] (fun x : Ru => rv x) (AllOnce R) R.length (w.alloc (.cells #[.map m] 106)) := fun l J W hW hJ hY h0 => by
  have hc : W.cell? ⟨w.heap.size, 0, none⟩ = some (.map m) := (hW.cell (p := ⟨w.heap.size, 0, none⟩) (by show w.heap.size < _; rw [World.size_alloc]; omega)).trans (by simp)
  have hb := (bel_al (Below.refl w.heap.size w) (.cells #[.map m] 106)).trans (hW.mono (by rw [World.size_alloc]; omega))
  cases m with
  | none =>
    have hR0 : R = [] := h
    subst hR0
    exact values1_nil Fence.wide n trivial rfl l w.heap.size J W hJ hc h0
  | some b => exact values1_in Fence.wide n trivial rfl hn l w.heap.size b R hR J hY W hJ hc (h.on hb) h0
end Go.Proofs.Ytgcbngephokegaa
namespace Go.Proofs.Ytgcbngephokegaa
open Go.RowKit Go.Maps Go.MapKept Go.ChangeMaps Go.WideElems Go.Joins Go.Sort Go.Shelf Go.WideShapes
set_option linter.unusedVariables false
set_option linter.unusedSimpArgs false

def apAssignR : Code := .region 2 #[{ dst := some 5, op := .alloc 57, type := 0, pos := "iter.go:51", after := #[], guard := none }, { dst := none, op := .store 57 (.tmp 5) (.tmp 7), type := 0, pos := "iter.go:51", after := #[{ on := 0, ground := .data }, { on := 0, ground := .phase }], guard := none }] false
def apBodyR : Code := .block 1 (.region 3 #[{ dst := some 8, op := .load 55 (.tmp 2), type := 55, pos := "iter.go:52", after := #[], guard := none }, { dst := some 9, op := .load 57 (.tmp 5), type := 57, pos := "iter.go:52", after := #[], guard := none }, { dst := some 10, op := .buildSlice 55 1 #[(0, .tmp 9)], type := 55, pos := "iter.go:52", after := #[{ on := 1, ground := .data }], guard := none }, { dst := some 11, op := .call { callee := .builtin .append, args := #[.tmp 8, .tmp 10], argTypes := #[55, 55] }, type := 55, pos := "iter.go:52", after := #[{ on := 0, ground := .data }, { on := 2, ground := .data }], guard := none }, { dst := none, op := .store 55 (.tmp 2) (.tmp 11), type := 0, pos := "iter.go:52", after := #[{ on := 3, ground := .data }, { on := 3, ground := .chain }, { on := 0, ground := .phase }, { on := 1, ground := .phase }, { on := 2, ground := .phase }, { on := 3, ground := .phase }], guard := none }] false)
def apRecR (fn : FuncId) (sv : Value) (Bs D : Nat) (st : LoopState) (pend : Option Code) : Loop :=
  { state := st, pending := pend, fn, tmps := #[.slice none 0 0, sv, .pointer (some ⟨Bs, 0, none⟩), undef, .slice none 0 0, undef, sv, undef, undef, undef, undef, undef, undef], params := #[7], assign := apAssignR, body := apBodyR, defers := D }
/-- Between two rounds. -/
structure ApAt (w0 : World) (fn : FuncId) (sv : Value) (Bs l D : Nat) (ss : List Ru) (W : World) : Prop where
  box : ∃ v, W.heap[Bs]? = some (.cells #[v] 55 (0, 0)) ∧ W.ownsRow w0.heap.size 57 6 v ss.length (ss.flatMap Ru.cells) ∧ (v = .slice none 0 0 ↔ ss = [])
  L : W.heap[l]? = some (.loop (apRecR fn sv Bs D .ready none))
  K : W.heap[D]? = some (.deferred (some []))
  below : Below w0.heap.size w0 W
theorem ap_abides (w0 : World) (fn : FuncId) (sv : Value) (Bs l D B : Nat) (hB : w0.heap.size ≤ B) : AbidesFrom B (ApAt w0 fn sv Bs l D) := fun s W W' row h hg hrow => by
  have hrow' : ∀ r, row = some r → ∃ o : Obj, W.heap[r]? = some o ∧ o.isWalk = true := fun r e => (hrow r e).2
  obtain ⟨v, hv, hr, hn⟩ := h.box
  exact ⟨⟨v, (grownBy_keeps hg hrow' hv rfl).trans hv, ownsRow_abides_a hr hg hrow', hn⟩, (grownBy_keeps hg hrow' h.L rfl).trans h.L, (grownBy_keeps hg hrow' h.K rfl).trans h.K,
    h.below.grown hg h.below.size (fun k e => Nat.le_trans hB (hrow k e).1)⟩
theorem trules_ne : (55 : TypeId) ≠ 57 := by decide
theorem infoRuleR : (Try.prog.info? 57).map (fun i => (i.zero, i.size, i.bytes)) = some (some (.agg #[.int .i64 0, .int .i64 0, .int .u32 0, .int .i64 0, .int .i64 0, .int .i64 0]), 6, 48) := by kernel_rfl
set_option maxRecDepth 100000 in
set_option maxHeartbeats 2000000 in
theorem apYieldR (F : Fence) (m : Nat) (w0 : World) (fn : FuncId) (hfn : F.fn fn) (sv : Value) (Bs l D : Nat) (hBl : Bs ≠ l) (hDl : D ≠ l) (hDB : D ≠ Bs) (h0B : w0.heap.size ≤ Bs) (h0l : w0.heap.size ≤ l)
    (N : Nat) (hN : N ≤ 1000000) (ss : List Ru) (x : Ru) (W : World) (h : ApAt w0 fn sv Bs l D ss W) (hlen : ss.length < N) :
    YieldAt F m Try.prog l #[rv x] W fun e W' => e = .returned (.bool true) ∧ ApAt w0 fn sv Bs l D (ss ++ [x]) W' ∧ KeepsWalks W W' := by
  have hne : (55 : TypeId) ≠ 57 := trules_ne
  obtain ⟨i0, hi, hz0, hz1, hz2⟩ := hinfo_parts infoRuleR
  refine ⟨fn, #[.slice none 0 0, sv, .pointer (some ⟨Bs, 0, none⟩), undef, .slice none 0 0, undef, sv, rv x, undef, undef, undef, undef, undef], apAssignR, apBodyR, by simpa [apRecR] using run_yield (P := Try.prog) (args := #[rv x]) h.L rfl, roundIn_of_wpIn hfn ?_⟩
  have hl0 : l < W.heap.size := (Array.getElem?_eq_some_iff.1 h.L).1
  have hB0 : Bs < W.heap.size := by obtain ⟨v, hv, -⟩ := h.box; exact (Array.getElem?_eq_some_iff.1 hv).1
  unfold apAssignR
  gi_wp2_with gi_round_op_a
  obtain ⟨W1, hW1⟩ : ∃ W1, W.alloc (.cells x.cells.toArray 57) = W1 := ⟨_, rfl⟩
  have h1 : ApAt w0 fn sv Bs l D ss W1 := ap_abides w0 fn sv Bs l D w0.heap.size (Nat.le_refl _) ss W W1 none h (by rw [← hW1]; exact World.grownBy_alloc W _ none) (fun r e => by cases e)
  have hx1 : W1.heap[W.heap.size]? = some (.cells x.cells.toArray 57 (0, 0)) := by rw [← hW1]; exact World.alloc_heap_new W _
  have hk1 : KeepsWalks W W1 := by rw [← hW1]; exact KeepsWalks.alloc _ _
  dsimp only [Ru.cells] at hW1
  rw [hW1]
  obtain ⟨B, hB⟩ : ∃ B, W.heap.size = B := ⟨_, rfl⟩
  rw [hB] at hx1 hl0 hB0 ⊢
  clear hW1
  obtain ⟨v, hv, hrow, _⟩ := h1.box
  have hl : l < W1.heap.size := (Array.getElem?_eq_some_iff.1 h1.L).1
  have hbr := run_beginRound (P := Try.prog) h1.L rfl
  obtain ⟨W2, hW2⟩ : ∃ W2, W1.putObj l (.loop { apRecR fn sv Bs D .ready none with state := .busy }) = W2 := ⟨_, rfl⟩
  rw [hW2] at hbr
  have hg2 : W1.grownBy W2 (some l) := by rw [← hW2]; exact grownBy_putObj_a _ _ _
  have hk2 : KeepsWalks W W2 := hk1.trans (by rw [← hW2]; exact KeepsWalks.putObj _ h1.L rfl)
  have hx2 : W2.heap[B]? = some (.cells x.cells.toArray 57 (0, 0)) := by rw [← hW2]; exact (World.putObj_heap_other (by omega)).trans hx1
  have hv2 : W2.heap[Bs]? = some (.cells #[v] 55 (0, 0)) := by rw [← hW2]; exact (World.putObj_heap_other hBl).trans hv
  have hK2 : W2.heap[D]? = some (.deferred (some [])) := by rw [← hW2]; exact (World.putObj_heap_other hDl).trans h1.K
  have hL2 : W2.heap[l]? = some (.loop { apRecR fn sv Bs D .ready none with state := .busy }) := by rw [← hW2]; exact World.putObj_heap_same hl
  have hrow2 : W2.ownsRow w0.heap.size 57 6 v ss.length (ss.flatMap Ru.cells) := hrow.kept hg2 (ownsRow_ne_a hrow h1.L (fun cur e => by first | cases e | exact hne (Obj.cells.inj e).2.1))
  have hb2 : Below w0.heap.size w0 W2 := h1.below.grown hg2 h1.below.size (fun k e => by cases e; exact h0l)
  obtain ⟨hc2, hf2⟩ := cell_of_box_a hv2
  have x_0 : W2.cell? ⟨B, 0, none⟩ = some (.int .i64 x.id) := by simp [World.cell?, hx2, Ru.cells]
  have x_1 : W2.cell? ⟨B, 1, none⟩ = some (.int .i64 x.dev) := by simp [World.cell?, hx2, Ru.cells]
  have x_2 : W2.cell? ⟨B, 2, none⟩ = some (.int .u32 (x.a : Nat)) := by simp [World.cell?, hx2, Ru.cells]
  have x_3 : W2.cell? ⟨B, 3, none⟩ = some (.int .i64 x.n) := by simp [World.cell?, hx2, Ru.cells]
  have x_4 : W2.cell? ⟨B, 4, none⟩ = some (.int .i64 x.prio) := by simp [World.cell?, hx2, Ru.cells]
  have x_5 : W2.cell? ⟨B, 5, none⟩ = some (.int .i64 x.out) := by simp [World.cell?, hx2, Ru.cells]
  have hBlt : Bs < W2.heap.size := (Array.getElem?_eq_some_iff.1 hv2).1
  have hl2 : l < W2.heap.size := (Array.getElem?_eq_some_iff.1 hL2).1
  have hDlt : D < W2.heap.size := (Array.getElem?_eq_some_iff.1 hK2).1
  have ne_of : ∀ {j : Nat} {o : Obj}, W2.heap[j]? = some o → (∀ cur, o ≠ .cells cur 57 (0, 0)) → some j ≠ v.ownBlock := fun hj hno => by
    rcases ownsRow_ne_a hrow2 hj hno with e | e
    · rw [e]; simp
    · exact fun e' => e e'.symm
  clear hW2
  refine ⟨W2, hbr, ?_⟩
  unfold apBodyR
  obtain ⟨cs, hcs⟩ : ∃ cs, ss.flatMap Ru.cells = cs := ⟨_, rfl⟩
  have HCS := Lib.hid hcs
  rw [hcs] at hrow2
  have hcl : cs.length = ss.length * 6 := hrow2.1
  clear hcs hrow
  gi_wp2_with (first
    | (gi_at_builtin; refine wpListIn_append_own _ rfl _ _ 55 rfl w0.heap.size 57 i0 (.agg #[.int .i64 0, .int .i64 0, .int .u32 0, .int .i64 0, .int .i64 0, .int .i64 0]) 6 48 Try.underlying55 hi hz0 hz1 hz2 rfl (by decide) _ _ _ rfl (hrow2.alloc _) ⟨W2.heap.size, 0, none⟩ 1 1 [.int .i64 x.id, .int .i64 x.dev, .int .u32 (x.a : Nat), .int .i64 x.n, .int .i64 x.prio, .int .i64 x.out] rfl rfl (fun j y hj => by rw [add_plain, Nat.zero_add]; exact (Blk.new W2 57 x.cells).1 j y hj) (by simp [Value.oneCell']) (by unfold maxLen; omega) (by omega) (by have := hb2.size; simp; omega) ?_; intro v' w3 hown' hg3 hnil3
       have hv3 : w3.heap[Bs]? = some (.cells #[v] 55 (0, 0)) := (hg3.block Bs (by simp; omega) (ne_of hv2 (fun cur e => by first | cases e | exact hne (Obj.cells.inj e).2.1))).trans ((Below.heap_alloc _ _ Bs hBlt).trans hv2)
       obtain ⟨hc3, hf3⟩ := cell_of_box_a hv3
       obtain ⟨g', cap', cur', rfl, hbase', hgb', hr1, hr2, hr3, hr4⟩ : ∃ g' cap' cur', v' = .slice (some ⟨g', 0, none⟩) (ss.length + 1) cap' ∧ w0.heap.size ≤ g' ∧ w3.heap[g']? = some (.cells cur' 57 (0, 0)) ∧ ss.length + 1 ≤ cap' ∧ cap' ≤ maxLen ∧ cur'.size = cap' * 6 ∧ cur'.toList.take ((ss.length + 1) * 6) = cs ++ [.int .i64 x.id, .int .i64 x.dev, .int .u32 (x.a : Nat), .int .i64 x.n, .int .i64 x.prio, .int .i64 x.out] := by
         rcases hown'.2 with ⟨_, h0⟩ | h'
         · exact absurd h0 (by omega)
         · exact h'
       go_frame)
    | gi_round_op_a)
  have hg3' : (W2.alloc (.cells #[.int .i64 x.id, .int .i64 x.dev, .int .u32 (x.a : Nat), .int .i64 x.n, .int .i64 x.prio, .int .i64 x.out] 57)).grownBy w3 v.ownBlock := hg3
  have hL3 : w3.heap[l]? = some (.loop { apRecR fn sv Bs D .ready none with state := .busy }) := (hg3'.block l (by simp; omega) (ne_of hL2 (fun cur e => by first | cases e | exact hne (Obj.cells.inj e).2.1))).trans ((Below.heap_alloc _ _ l hl2).trans hL2)
  have hK3 : w3.heap[D]? = some (.deferred (some [])) := (hg3'.block D (by simp; omega) (ne_of hK2 (fun cur e => by first | cases e | exact hne (Obj.cells.inj e).2.1))).trans ((Below.heap_alloc _ _ D hDlt).trans hK2)
  obtain ⟨w4, hw4⟩ : ∃ w4, w3.setCell ⟨Bs, 0, none⟩ (.slice (some ⟨g', 0, none⟩) (ss.length + 1) cap') = w4 := ⟨_, rfl⟩
  rw [hw4]
  have hg4 : w3.grownBy w4 (some Bs) := by rw [← hw4]; exact grownBy_setCell0_a _ _ _
  have hv4 : w4.heap[Bs]? = some (.cells #[.slice (some ⟨g', 0, none⟩) (ss.length + 1) cap'] 55 (0, 0)) := by rw [← hw4]; exact heap_setCell_box_a _ hv3
  have hL4 : w4.heap[l]? = some (.loop { apRecR fn sv Bs D .ready none with state := .busy }) := (hg4.block l (Array.getElem?_eq_some_iff.1 hL3).1 (fun e => hBl (by cases e; rfl))).trans hL3
  have hK4 : w4.heap[D]? = some (.deferred (some [])) := (hg4.block D (Array.getElem?_eq_some_iff.1 hK3).1 (fun e => hDB (by cases e; rfl))).trans hK3
  have hrow4 := hown'.kept hg4 (ownsRow_ne_a hown' hv3 (fun cur e => by first | cases e | exact hne (Obj.cells.inj e).2.1))
  have hl4 : l < w4.heap.size := (Array.getElem?_eq_some_iff.1 hL4).1
  have hb3 : Below w0.heap.size w0 w3 := (hb2.alloc hb2.size _).grown hg3' (by have := hb2.size; simp; omega) (fun k e => (hrow2.lt k e).1)
  have hb4 : Below w0.heap.size w0 w4 := hb3.grown hg4 hb3.size (fun k e => by cases e; exact h0B)
  have hk4 : KeepsWalks W w4 := ((hk2.trans (KeepsWalks.alloc _ _)).trans (KeepsWalks.of_grownBy hg3' (ownsRow_not_walk_a (hrow2.alloc _)))).trans (by rw [← hw4]; exact KeepsWalks.setCell _ _ _)
  clear hw4
  refine ⟨_, _, run_endRound none hL4, rfl, ⟨⟨_, (World.putObj_heap_other hBl).trans hv4, ?_, by simp⟩, World.putObj_heap_same hl4, (World.putObj_heap_other hDl).trans hK4, hb4.grown (grownBy_putObj_a _ _ _) hb4.size (fun k e => by cases e; exact h0l)⟩, hk4.trans (KeepsWalks.putObj _ hL4 rfl)⟩
  have := hrow4.kept (grownBy_putObj_a w4 l (.loop { { apRecR fn sv Bs D .ready none with state := .busy } with state := if (none : Option Code).isNone then .ready else .done, pending := none })) (ownsRow_ne_a hrow4 hL4 (fun cur e => by first | cases e | exact hne (Obj.cells.inj e).2.1))
  rw [List.length_append, List.flatMap_append, HCS.out]
  simpa [Ru.cells] using this
set_option maxRecDepth 100000 in
set_option maxHeartbeats 2000000 in
theorem appendSeqR (F : Fence) (n : Nat) (h11 : F.fn 79) (hro : F.round = none) (hn : 2 ≤ n) (g : Nat) (lb : Array Value) (hFg : F.fn g) (eg : ∀ args w, (callFunc g args).run Try.prog w = .ok (.enter g args) w)
    (S : List Ru → Prop) (N : Nat) (hN : N ≤ 1000000) (w : World) (hseq : SeqGives F (n - 1) Try.prog g lb (fun x : Ru => rv x) S N w) :
    CallsIn F n Try.prog 79 #[.slice none 0 0, .func (.func g) #[] lb] w fun e w' => ∃ (v : Value) (ss : List Ru), e = .returned v ∧ S ss ∧ w'.ownsRow w.heap.size 57 6 v ss.length (ss.flatMap Ru.cells) ∧ (v = .slice none 0 0 ↔ ss = []) ∧ Below w.heap.size w w' := by
  have h1 : 1 ≤ n := by omega
  have hne : (55 : TypeId) ≠ 57 := trules_ne
  refine callsIn_of_wp_marks Try.func79 rfl h11 ?_ hro
  simp only [Try.ntmps79, List.size_toArray, List.length_cons, List.length_nil, Nat.reduceAdd, Nat.reduceSub, Array.replicate_succ, Array.replicate_zero, List.push_toArray, List.append_toArray, List.nil_append, List.cons_append]
  gi_wp2
  refine wpIn_rangeFunc ?_
  intro fn hfn
  rw [hro]
  obtain ⟨W0, hW0⟩ : ∃ W0, w.alloc (.cells #[.slice none 0 0] 55) = W0 := ⟨_, rfl⟩
  have hs0 : W0.heap.size = w.heap.size + 1 := by rw [← hW0]; simp
  have hv0 : W0.heap[w.heap.size]? = some (.cells #[.slice none 0 0] 55 (0, 0)) := by rw [← hW0]; exact World.alloc_heap_new w _
  have hb0 : Below w.heap.size w W0 := by rw [← hW0]; exact (Below.refl _ w).alloc (Nat.le_refl _) _
  rw [hW0]
  obtain ⟨W1, hW1⟩ : ∃ W1, (W0.alloc (.deferred (some []))).alloc (.loop (apRecR fn (.func (.func g) #[] lb) w.heap.size W0.heap.size .ready none)) = W1 := ⟨_, rfl⟩
  have hold : ∀ k, k < W0.heap.size → W1.heap[k]? = W0.heap[k]? := fun k hk => by
    rw [← hW1]; exact (Below.heap_alloc _ _ k (by simp; omega)).trans (Below.heap_alloc _ _ k hk)
  have hb1 : Below w.heap.size w W1 := by rw [← hW1]; exact (hb0.alloc hb0.size _).alloc (by have := hb0.size; simp; omega) _
  have hs1 : W1.heap.size = W0.heap.size + 2 := by rw [← hW1]; simp
  have hM : ApAt w fn (.func (.func g) #[] lb) w.heap.size (W0.heap.size + 1) W0.heap.size [] W1 :=
    ⟨⟨_, (hold w.heap.size (by omega)).trans hv0, ⟨rfl, .inl ⟨rfl, rfl⟩⟩, by simp⟩,
     by rw [← hW1]; have := World.alloc_heap_new (W0.alloc (.deferred (some []))) (.loop (apRecR fn (.func (.func g) #[] lb) w.heap.size W0.heap.size .ready none)); rwa [World.size_alloc] at this,
     by rw [← hW1]; exact (Below.heap_alloc _ _ _ (by simp)).trans (World.alloc_heap_new W0 _), hb1⟩
  refine ⟨W0.heap.size + 1, [{ target := .collected W0.heap.size, args := #[] }], W1, { target := .fn (.func g) lb, args := #[.func (.yield (W0.heap.size + 1)) #[] #[]] }, W1, g,
    #[.func (.yield (W0.heap.size + 1)) #[] #[]] ++ lb, W1, ?_, ?_, ?_, ?_, fun _ => h1, ?_⟩
  · rw [← hW1]; exact run_enterLoop_outer _ _ _ _ _
  · simp [resolve, go_sem]
  · intro f' hf'; simp [Target.leads] at hf'; subst hf'; exact hFg
  · simp [invoke, go_sem, eg]
  · refine (hseq (W0.heap.size + 1) (ApAt w fn (.func (.func g) #[] lb) w.heap.size (W0.heap.size + 1) W0.heap.size) W1 hb1 (ap_abides _ _ _ _ _ _ _ hb1.size)
      (fun pre x W hJ hl => apYieldR F (n - 1 - 1) w fn hfn _ w.heap.size (W0.heap.size + 1) W0.heap.size (by omega) (by omega) (by omega) (Nat.le_refl _) (by omega) N hN pre x W hJ hl) hM).mono ?_
    rintro e W2 ⟨⟨v0, rfl⟩, ss, hS, h2⟩
    obtain ⟨v, hv, hrow, hnil⟩ := h2.box
    have hend := run_endLoop (P := Try.prog) h2.L (by simp [apRecR])
    obtain ⟨W3, hW3⟩ : ∃ W3, W2.putObj (W0.heap.size + 1) (.loop { apRecR fn (.func (.func g) #[] lb) w.heap.size W0.heap.size .ready none with state := .exhausted }) = W3 := ⟨_, rfl⟩
    rw [hW3] at hend
    have hg3 : W2.grownBy W3 (some (W0.heap.size + 1)) := by rw [← hW3]; exact grownBy_putObj_a _ _ _
    have hv3 : W3.heap[w.heap.size]? = some (.cells #[v] 55 (0, 0)) := by rw [← hW3]; exact (World.putObj_heap_other (by omega)).trans hv
    have hK3 : W3.heap[W0.heap.size]? = some (.deferred (some [])) := by rw [← hW3]; exact (World.putObj_heap_other (by omega)).trans h2.K
    have hrow3 := hrow.kept hg3 (ownsRow_ne_a hrow h2.L (fun cur e => by first | cases e | exact hne (Obj.cells.inj e).2.1))
    have hb3 : Below w.heap.size w W3 := h2.below.grown hg3 h2.below.size (fun k e => by cases e; omega)
    obtain ⟨hc3, hf3⟩ := cell_of_box_a hv3
    clear hW3
    refine ⟨none, W3, hend, ?_⟩
    gi_wp2
    rw [← hs0]
    refine ⟨by simp, .inl ⟨_, _, rfl, run_takeDeferred hK3, ?_⟩⟩
    exact ⟨_, results_tmp rfl _ _ _, v, ss, rfl, hS, hrow3.kept (grownBy_putObj_a _ _ _) (ownsRow_ne_a hrow3 hK3 (fun cur e => by first | cases e | exact hne (Obj.cells.inj e).2.1)), hnil, hb3.grown (grownBy_putObj_a _ _ _) hb3.size (fun k e => by cases e; omega)⟩
set_option maxRecDepth 100000 in
theorem collectR (g : Nat) (lb : Array Value) (eg : ∀ args w, (callFunc g args).run Try.prog w = .ok (.enter g args) w)
    (S : List Ru → Prop) (N : Nat) (hN : N ≤ 1000000) (w : World) (hseq : SeqGives Fence.wide 2 Try.prog g lb (fun x : Ru => rv x) S N w) :
    Calls Try.prog 72 #[.func (.func g) #[] lb] w fun e w' => ∃ (v : Value) (ss : List Ru), e = .returned v ∧ S ss ∧ Rules w' w.heap.size v ss ∧ Below w.heap.size w w' := by
  have cA := Lib.hid ((callsIn_wide (n := 3)).1 (appendSeqR Fence.wide 3 trivial rfl (by omega) g lb trivial eg S N hN w hseq))
  clear hseq
  go_enter Try.func72, Try.ntmps72
  go_wp2_with fail
  refine cA.out.mono ?_
  rintro e w' ⟨v, ss, rfl, hS, hrow, hnil, hb⟩
  have HR := Lib.hid (show Rules w' w.heap.size v ss from ⟨hrow, by rw [hnil]; exact List.length_eq_zero_iff.symm⟩)
  have HS := Lib.hid hS
  have HB := Lib.hid hb
  clear hrow hnil hb hS cA
  go_wp2
  go_ret
  exact ⟨v, ss, rfl, HS.out, HR.out, HB.out⟩
end Go.Proofs.Ytgcbngephokegaa
