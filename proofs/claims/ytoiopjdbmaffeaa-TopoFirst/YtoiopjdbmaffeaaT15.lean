/- An entry that all pass put ahead of entries, or behind them; what the first that counts says then.
-/
import Derived.Test.YtoiopjdbmaffeaaT10
import Derived.Test.YtoiopjdbmaffeaaT9
namespace Go.Proofs.Ytoiopjdbmaffeaa
open Go.RowKit
set_option linter.unusedVariables false

/-- The entry of a port that all headers pass. -/
def opn (d p : Int) (io z : Bool) : Ac := ⟨d, p, io, z, 0, 0, 0, 0, -1, 0, 65535, 0, 65535⟩
theorem has_all (x : Nat) (hx : x < 4294967296) : hasB 0 0 x = true := by
  rw [hasB_iff 0 0 x (by decide)]
  have : x / sz 0 = 0 := Nat.div_eq_of_lt (by unfold sz; omega)
  show decide (x / sz 0 = 0 / sz 0) = true
  rw [this]
  simp
theorem opn_pass (g : Hr) (hg : g.Ok) (hx : g.x < 65536) (hy : g.y < 65536) (d p : Int) (io z : Bool) : (opn d p io z).pass g = true := by
  unfold Ac.pass passB opn
  simp only
  rw [has_all _ hg.d, has_all _ hg.s]
  have a1 : inR 0 65535 g.x = true := decide_eq_true ⟨Nat.zero_le _, by omega⟩
  have a2 : inR 0 65535 g.y = true := decide_eq_true ⟨Nat.zero_le _, by omega⟩
  rw [a1, a2]
  rfl
theorem perm_ahead (g : Hr) (hg : g.Ok) (hx : g.x < 65536) (hy : g.y < 65536) (d p : Int) (io z : Bool) (es : List Ac) : permF d p io g (opn d p io z :: es) = z := by
  rw [permF, if_pos ⟨rfl, rfl, rfl, opn_pass g hg hx hy d p io z⟩]; rfl
theorem perm_other (g : Hr) (d p : Int) (io z : Bool) (es : List Ac) : permF d p io g (opn d p (!io) z :: es) = permF d p io g es := by
  rw [permF, if_neg (fun q => by have := q.1; cases io <;> simp [opn] at this)]
theorem perm_behind (g : Hr) (hg : g.Ok) (hx : g.x < 65536) (hy : g.y < 65536) (d p : Int) (io : Bool) : ∀ es : List Ac, permF d p io g (es ++ [opn d p io true]) = permF d p io g es
  | [] => by rw [List.nil_append, perm_ahead g hg hx hy]; rfl
  | c :: r => by rw [List.cons_append, permF, permF, perm_behind g hg hx hy d p io r]
theorem chk_opn : Go.Proofs.Ytoiopjdbmaffeaa.chk (rightB 0 0) (rightB 0 0) (-1) (decide ((65535 : Nat) < 0)) (decide ((65535 : Nat) < 0)) = 0 := by decide +kernel
theorem opn_chk (d p : Int) (io z : Bool) : (opn d p io z).chk = 0 := chk_opn
theorem chk_ahead {ps : List Int} {ls : List Lk} {es : List Ac} {d p : Int} (h : TP.chk ⟨ps, ls, es⟩ = 0) (hp : portE ps d p = 0) (he : es.length ≤ 30) (io z : Bool) : TP.chk ⟨ps, ls, opn d p io z :: es⟩ = 0 := by
  unfold TP.chk at *
  simp only [List.length_cons] at *
  by_cases c1 : ps.length < 1 ∨ 16 < ps.length ∨ 32 < es.length
  · rw [if_pos c1] at h; exact absurd h (by omega)
  · rw [if_neg c1] at h
    rw [if_neg (by omega)]
    by_cases c2 : cntE ps = 0
    · rw [if_neg (by omega)] at h ⊢
      by_cases c3 : lnkE ps [] (ends ls) = 0
      · rw [if_neg (by omega)] at h ⊢
        rw [entE, if_neg (by show ¬ portE ps d p ≠ 0; omega), if_neg (by rw [opn_chk]; omega)]
        exact h
      · rw [if_pos c3] at h; exact absurd h c3
    · rw [if_pos c2] at h; exact absurd h c2
theorem infoAce : (Try.prog.info? 43).map (fun i => (i.zero, i.size, i.bytes)) = some (some (.agg #[.int .i64 0, .int .i64 0, .bool false, .bool false, .int .u32 0, .int .i64 0, .int .u32 0, .int .i64 0, .int .i64 0, .int .u16 0, .int .u16 0, .int .u16 0, .int .u16 0]), 13, 72) := by kernel_rfl
theorem cells_len : ∀ es : List Ac, (es.flatMap Ac.cells).length = es.length * 13
  | [] => rfl
  | c :: r => by rw [List.flatMap_cons, List.length_append, cells_len r, List.length_cons, show c.cells.length = 13 from rfl]; omega
/-- What an own row is. -/
theorem row_rw {w : World} {base n : Nat} {v : Value} {xs : List Value} (h : w.ownsRow base 43 13 v n xs) : ∃ a cap, v = .slice a n cap ∧ Rw w a xs ∧ ∀ q, a = some q → base ≤ q.block := by
  rcases h.2 with ⟨rfl, rfl⟩ | ⟨g, cap, cur, rfl, hg, -⟩
  · refine ⟨none, 0, rfl, fun j v hv => ?_, fun q e => by cases e⟩
    have := h.1
    rw [Nat.zero_mul, List.length_eq_zero_iff] at this
    subst this
    simp at hv
  · refine ⟨_, cap, rfl, fun j v hv => ⟨g, 0, rfl, ?_⟩, fun q e => by cases e; exact hg⟩
    have hj : j < n * 13 := by
      rw [← h.1]
      rcases Nat.lt_or_ge j xs.length with q | q
      · exact q
      · rw [List.getElem?_eq_none q] at hv; cases hv
    rw [Nat.zero_add, World.ownsRow.cellAt h j hj]; exact hv
theorem Rw.far {w : World} {a : Option Addr} {cs : List Value} (h : Rw w a cs) (p : Addr) (y : Value) (hp : ∀ q, a = some q → p.block ≠ q.block) : Rw (w.setCell p y) a cs := fun j v hv => by
  obtain ⟨b, off, e, hc⟩ := h j v hv
  refine ⟨b, off, e, ?_⟩
  rw [World.cell?_setCell_far _ _ _ _ (by have := hp _ e; exact this)]; exact hc
theorem Blk.put3 {w : World} {b : Nat} {x y z : Value} (h : Blk w b [x, y, z]) (x' y' z' : Value) : Blk (((w.setCell ⟨b, 0, none⟩ x').setCell ⟨b, 1, none⟩ y').setCell ⟨b, 2, none⟩ z') b [x', y', z'] :=
  ((h.set 0 x' (by simp)).set 1 y' (by simp)).set 2 z' (by simp)
theorem Blk.far3 {w : World} {b b' : Nat} {cs : List Value} (h : Blk w b cs) (hne : b' ≠ b) (x' y' z' : Value) : Blk (((w.setCell ⟨b', 0, none⟩ x').setCell ⟨b', 1, none⟩ y').setCell ⟨b', 2, none⟩ z') b cs :=
  ((h.far _ _ hne).far _ _ hne).far _ _ hne
theorem tbel_put3 {W w : World} {n c : Nat} (h : Below n W w) (hn : n ≤ c) (x' y' z' : Value) : Below n W (((w.setCell ⟨c, 0, none⟩ x').setCell ⟨c, 1, none⟩ y').setCell ⟨c, 2, none⟩ z') :=
  ((h.setCell hn _).setCell hn _).setCell hn _
theorem wanted_then {c : Bool} {A B : Prop} (hc : c = true) (h : A) : if c = true then A else B := by rw [if_pos hc]; exact h
theorem wp_append_run {P : Program} {o : Oper} {a : Act} {w w' : World} {K : Act → World → Prop} {Q : Exit → Act → World → Prop} (s x : Operand) (t : TypeId) {v xv v' : Value}
    (ho : o.op = .call { callee := .builtin .append, args := #[s, x], argTypes := #[t, t] }) (hs : a.eval s = v) (hx : a.eval x = xv) (hr : (Builtin.append_ #[t, t] o.type #[v, xv]).run P w = .ok v' w') (h : K (a.put o.dst v') w') : o.wp P a w K Q := by
  unfold Oper.wp execOp
  simp only [ho, resolve, invoke, builtin, Sem.run_bind, Sem.run_pure, Result.andThen_ok, List.map_toArray, List.map_cons, List.map_nil, hs, hx, hr]
  exact h
theorem wpList_app_run {P : Program} {ops : Array Oper} {rest : List Oper} {o : Oper} {a : Act} {w w' : World} {Q : Exit → Act → World → Prop} (hgd : o.guard = none) (s x : Operand) (t : TypeId) {v xv v' : Value}
    (ho : o.op = .call { callee := .builtin .append, args := #[s, x], argTypes := #[t, t] }) (hs : a.eval s = v) (hx : a.eval x = xv) (hr : (Builtin.append_ #[t, t] o.type #[v, xv]).run P w = .ok v' w') (h : ∀ w1, Hid (w' = w1) → wpList P ops Q rest (a.put o.dst v') w1) : wpList P ops Q (o :: rest) a w :=
  wpList_plain hgd fun K hK => wp_append_run s x t ho hs hx hr (hK _ _ (h w' (Lib.hid rfl)))
theorem Blk.grown {w w' : World} {row : Option Nat} {b : Nat} {cs : List Value} (h : Blk w b cs) (hg : w.grownBy w' row) (hne : some b ≠ row) : Blk w' b cs :=
  ⟨fun i v hv => hg.cell (a := ⟨b, i, none⟩) (h.1 i v hv) hne, fun i v hv => (World.frozen?_of_block (a := ⟨b, i, none⟩) (hg.block b (cell_lt (o := i) (by rw [h.1 i v hv]; rfl)) hne)).trans (h.2 i v hv)⟩
theorem grown_refl (w : World) (row : Option Nat) : w.grownBy w row := ⟨rfl, rfl, rfl, Nat.le_refl _, fun _ _ _ => rfl⟩
theorem trow_on {w w' : World} {base : Nat} {t : TypeId} {sz n : Nat} {v : Value} {xs : List Value} (h : w.ownsRow base t sz v n xs) (hb : Below w.heap.size w w') : w'.ownsRow base t sz v n xs := by
  refine ⟨h.1, ?_⟩
  rcases h.2 with q | ⟨g, cap, cur, e, q1, q2, q3⟩
  · exact Or.inl q
  · have hg : g < w.heap.size := by
      rcases Nat.lt_or_ge g w.heap.size with r | r
      · exact r
      · rw [Array.getElem?_eq_none r] at q2; cases q2
    exact Or.inr ⟨g, cap, cur, e, q1, (hb.block g hg).trans q2, q3⟩
/-- Entries that lie anywhere put behind entries of an own row. -/
theorem app_rows {w : World} {base : Nat} {v : Value} {l : List Value} {n : Nat} (h : w.ownsRow base 43 13 v n l) (es : List Ac) (aa : Option Addr) (ac : Nat) (he : Rw w aa (es.flatMap Ac.cells)) (h0 : aa = none → ac = 0) (hlen : n + es.length ≤ 1000) (hb : base ≤ w.heap.size) :
    ∃ v' w', (Builtin.append_ #[24, 24] 24 #[v, .slice aa es.length ac]).run Try.prog w = .ok v' w' ∧ w'.ownsRow base 43 13 v' (n + es.length) (l ++ es.flatMap Ac.cells) ∧ Below base w w' ∧ w.grownBy w' v.ownBlock := by
  obtain ⟨i0, hi0, hz0, hz1, hz2⟩ := hinfo_parts infoAce
  cases aa with
  | none =>
    have e0 : es = [] := by
      cases es with
      | nil => rfl
      | cons c r => obtain ⟨b, off, e, -⟩ := he 0 _ rfl; cases e
    subst e0
    rw [h0 rfl]
    refine ⟨v, w, run_append_owned_none (P := Try.prog) (w := w) base 24 24 43 i0 13 Try.underlying24 hi0 v _ _ h, ?_, Below.refl _ _, grown_refl _ _⟩
    rw [List.flatMap_nil, List.append_nil]; exact h
  | some a =>
    obtain ⟨v', w', r1, r2, r3, r4⟩ := run_append_own (P := Try.prog) w base 24 24 43 i0 (.agg #[.int .i64 0, .int .i64 0, .bool false, .bool false, .int .u32 0, .int .i64 0, .int .u32 0, .int .i64 0, .int .i64 0, .int .u16 0, .int .u16 0, .int .u16 0, .int .u16 0]) 13 72 Try.underlying24 hi0 hz0 hz1 hz2 rfl (by decide) v _ _ h a es.length ac (es.flatMap Ac.cells) (cells_len es)
      (fun j x hj => by
        obtain ⟨b, off, e, hc⟩ := he j x hj
        cases e
        have e : (⟨b, off, none⟩ : Addr).add j = ⟨b, off + j, none⟩ := by unfold Addr.add; split <;> simp_all
        rw [e]; exact hc)
      (fun x hx => by
        obtain ⟨c, -, hc⟩ := List.mem_flatMap.1 hx
        unfold Ac.cells at hc
        simp at hc
        rcases hc with rfl | rfl | rfl | rfl | rfl | rfl | rfl | rfl | rfl | rfl | rfl | rfl | rfl <;> rfl)
      (by unfold maxLen; omega) (by omega) hb
    refine ⟨v', w', r1, r2, (Below.refl base w).grown r3 hb (fun g' e => ?_), r3⟩
    have := (World.ownsRow.lt h g' e).1; omega
theorem app_rows_n {w : World} {base : Nat} {v : Value} {l : List Value} {n na : Nat} {es : List Ac} (hn : es.length = na) (h : w.ownsRow base 43 13 v n l) (aa : Option Addr) (ac : Nat) (he : Rw w aa (es.flatMap Ac.cells)) (h0 : aa = none → ac = 0) (hlen : n + na ≤ 1000) (hb : base ≤ w.heap.size) :
    ∃ a cap w', (Builtin.append_ #[24, 24] 24 #[v, .slice aa na ac]).run Try.prog w = .ok (.slice a (n + na) cap) w' ∧ w'.ownsRow base 43 13 (.slice a (n + na) cap) (n + na) (l ++ es.flatMap Ac.cells) ∧ Rw w' a (l ++ es.flatMap Ac.cells) ∧ (∀ q, a = some q → base ≤ q.block) ∧ Below base w w' ∧ w.grownBy w' v.ownBlock := by
  subst hn
  obtain ⟨v', w', h1, h2, h3, h6⟩ := app_rows h es aa ac he h0 hlen hb
  obtain ⟨a, cap, rfl, h4, h5⟩ := row_rw h2
  exact ⟨a, cap, w', h1, h2, h4, h5, h3, h6⟩
theorem ace_build (d p : Int) (io z : Bool) (w : World) : (Instr.build 43 #[(0, .int .i64 d), (1, .int .i64 p), (2, .bool io), (3, .bool z), (4, .agg #[.int .u32 0, .int .i64 0, .int .u32 0, .int .i64 0, .int .i64 (-1), .int .u16 0, .int .u16 65535, .int .u16 0, .int .u16 65535])]).run Try.prog w = .ok (.agg #[.int .i64 d, .int .i64 p, .bool io, .bool z, .int .u32 0, .int .i64 0, .int .u32 0, .int .i64 0, .int .i64 (-1), .int .u16 0, .int .u16 65535, .int .u16 0, .int .u16 65535]) w := run_build w 43 _ _ (by kernel_rfl)
theorem run_op_build {P : Program} {o : Oper} {a : Act} {w : World} {v : Value} (t : TypeId) (fs : Array (Nat × Operand)) (vs : Array (Nat × Value)) (ho : o.op = .build t fs) (hv : fs.map (fun x => (x.1, a.eval x.2)) = vs) (hr : (Instr.build t vs).run P w = .ok v w) : (execOp a.eval o).run P w = .ok (.value v) w := by
  unfold execOp
  simp only [ho, hv, Sem.run_bind, hr, Result.andThen_ok, Sem.run_pure]
theorem wp_slice_run {P : Program} {o : Oper} {a : Act} {w w' : World} {K : Act → World → Prop} {Q : Exit → Act → World → Prop} (t : TypeId) (n : Nat) (fs : Array (Nat × Operand)) (vs : Array (Nat × Value)) {v' : Value}
    (ho : o.op = .buildSlice t n fs) (hv : fs.map (fun x => (x.1, a.eval x.2)) = vs) (hr : (Instr.buildSlice t n vs).run P w = .ok v' w') (h : K (a.put o.dst v') w') : o.wp P a w K Q := by
  have e : (execOp a.eval o).run P w = .ok (.value v') w' := by
    unfold execOp
    simp only [ho, hv, Sem.run_bind, hr, Result.andThen_ok, Sem.run_pure]
  unfold Oper.wp
  rw [e]
  exact h
set_option maxRecDepth 100000 in
theorem ace_slice (d p : Int) (io z : Bool) (w : World) : (Instr.buildSlice 24 1 #[(0, .agg #[.int .i64 d, .int .i64 p, .bool io, .bool z, .int .u32 0, .int .i64 0, .int .u32 0, .int .i64 0, .int .i64 (-1), .int .u16 0, .int .u16 65535, .int .u16 0, .int .u16 65535])]).run Try.prog w = .ok (.slice (some ⟨w.heap.size, 0, none⟩) 1 1) (w.alloc (.cells #[.int .i64 d, .int .i64 p, .bool io, .bool z, .int .u32 0, .int .i64 0, .int .u32 0, .int .i64 0, .int .i64 (-1), .int .u16 0, .int .u16 65535, .int .u16 0, .int .u16 65535] 43)) := by kernel_rfl
end Go.Proofs.Ytoiopjdbmaffeaa
