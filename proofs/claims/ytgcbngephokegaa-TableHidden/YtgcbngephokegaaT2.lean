/- A table in memory; New, Add. -/
import Derived.Test.YtgcbngephokegaaT1
import Derived.Test.YtgcbngephokegaaKB1
namespace Go.Proofs.Ytgcbngephokegaa
open Go.RowKit Go.Maps Go.MapKept Go.ChangeMaps Go.WideElems Go.Joins
set_option linter.unusedVariables false
set_option linter.unusedSimpArgs false

def ruL (R : List Ru) : List (Int × Ru) := R.map fun r => (r.id, r)
theorem mem_ruL {R : List Ru} {p : Int × Ru} : p ∈ ruL R ↔ p.2 ∈ R ∧ p.1 = p.2.id := by
  unfold ruL
  rw [List.mem_map]
  constructor
  · rintro ⟨r, h, rfl⟩; exact ⟨h, rfl⟩
  · rintro ⟨h, e⟩; exact ⟨p.2, h, Prod.ext e.symm rfl⟩
theorem ruL_keys (R : List Ru) : (ruL R).map (·.1) = R.map Ru.id := by unfold ruL; rw [List.map_map]; rfl
/-- A table's map of rules, nil or not. -/
def RMap (w : World) (m : Option Nat) (R : List Ru) : Prop := match m with
  | none => R = []
  | some b => MapV Try.prog 3 zK (fun x : Ru => rv x) w b (ruL R)
theorem RMap.keep {S : Nat → Prop} {w w' : World} {m : Option Nat} {R : List Ru} (h : RMap w m R) (k : Keep S w w') (hs : ∀ b, m = some b → ¬ S b) : RMap w' m R := by
  cases m with
  | none => exact h
  | some b => exact MapV.same h (k.block b (MapV.lt h) (hs b rfl))
theorem RMap.on {w w' : World} {m : Option Nat} {R : List Ru} (h : RMap w m R) (hb : Below w.heap.size w w') : RMap w' m R := h.keep (S := fun _ => False) (Keep.of hb) (fun _ _ q => q)
theorem RMap.lt {w : World} {b : Nat} {R : List Ru} (h : RMap w (some b) R) : b < w.heap.size := MapV.lt h
def ru0 : Ru := ⟨0, 0, 0, 0, 0, 0⟩
set_option maxRecDepth 100000 in
theorem zeroRule (w : World) : (zeroValue 57).run Try.prog w = .ok (rv ru0) w := by kernel_rfl
theorem rm_none {w : World} {m : Option Nat} {R : List Ru} (h : RMap w m R) (c : Bool) (v : Int) (hv : I64 v) (hn : v ∉ R.map Ru.id) : (Instr.lookup 106 (.map m) (.int .i64 v) c).run Try.prog w = .ok (if c then .tuple #[rv ru0, .bool false] else rv ru0) w := by
  cases m with
  | none =>
    have hf : (Instr.findKey 3 (.int .i64 v) []).run Try.prog w = .ok none w := by
      rcases keyedInt.find w (key_z v hv) [] (fun _ h => by cases h) with ⟨k1, -⟩ | ⟨j, e0, -, k2, -⟩
      · exact k1
      · simp at k2
    cases c <;> simp [Instr.lookup, run_underlying Try.underlying106, show (Instr.checkKey true 10000 3 (.int .i64 v)).run Try.prog w = .ok () w from keyedInt.check w true (key_z v hv), hf, zeroRule, ru0, Result.andThen]
  | some b => exact mapV_none keyedInt Try.underlying106 zeroRule zK_inj c h (key_z v hv) (by rw [ruL_keys]; exact hn)
theorem rm_some {w : World} {m : Option Nat} {R : List Ru} (h : RMap w m R) (hone : (R.map Ru.id).Nodup) (c : Bool) (r : Ru) (hr : r ∈ R) (hv : I64 r.id) : (Instr.lookup 106 (.map m) (.int .i64 r.id) c).run Try.prog w = .ok (if c then .tuple #[rv r, .bool true] else rv r) w := by
  cases m with
  | none => have h : R = [] := h; rw [h] at hr; cases hr
  | some b => exact mapV_some keyedInt Try.underlying106 zeroRule zK_inj c h (key_z r.id hv) (v := r) (mem_ruL.2 ⟨hr, rfl⟩) (by rw [ruL_keys]; exact hone)
theorem rm_put {w : World} {b : Nat} {R : List Ru} (h : RMap w (some b) R) (hl : R.length ≤ 1000000) (r : Ru) (hv : I64 r.id) (hn : r.id ∉ R.map Ru.id) :
    ∃ w', (Instr.mapUpdate 106 (.map (some b)) (.int .i64 r.id) (rv r)).run Try.prog w = .ok () w' ∧ RMap w' (some b) (r :: R) ∧ Only b w w' := by
  refine mapV_store (m' := ruL (r :: R)) (v := r) keyedInt Try.underlying106 zK_inj h (key_z r.id hv) (by unfold ruL; rw [List.length_map]; exact Nat.lt_of_le_of_lt hl (by decide)) (fun p => ?_)
  rw [mem_ruL, mem_ruL, List.mem_cons]
  constructor
  · rintro ⟨e | e, e2⟩
    · exact Or.inl (Prod.ext (by rw [e2, e]) e)
    · exact Or.inr ⟨⟨e, e2⟩, fun k => hn (List.mem_map.2 ⟨p.2, e, by rw [← e2, k]⟩)⟩
  · rintro (e | ⟨⟨e1, e2⟩, -⟩)
    · rw [e]; exact ⟨Or.inl rfl, rfl⟩
    · exact ⟨Or.inr e1, e2⟩
theorem rm_len {w : World} {m : Option Nat} {R : List Ru} (h : RMap w m R) (hn : (R.map Ru.id).Nodup) (ty : TypeId) : (Builtin.len_ #[106] ty #[.map m]).run Try.prog w = .ok (.int .i64 (R.length : Nat)) w := by
  cases m with
  | none =>
    have h : R = [] := h
    subst h
    simp [Builtin.len_, run_underlying Try.underlying106, goInt, Result.andThen]
  | some b =>
    have := mapV_len Try.underlying106 zK_inj h (by rw [ruL_keys]; exact hn) ty
    rwa [show (ruL R).length = R.length by unfold ruL; simp] at this
/-- A rule's entry in the tree. -/
def re (r : Ru) : Ent := (pth r.a r.n.toNat, r.id)
def Ru.Ok (r : Ru) : Prop := r.a < 4294967296 ∧ I64 r.id
/-- A table of these rules. -/
structure TabP (R : List Ru) (E : List Ent) : Prop where
  m : ∀ y, y ∈ E ↔ ∃ r ∈ R, y = re r
  n : (R.map Ru.id).Nodup
  r : ∀ r ∈ R, rightB r.a r.n = true ∧ r.Ok
/-- .. in memory, at p, beside the blocks Z. -/
def Tab (Z : Nat → Prop) (p : Nat) (w : World) (R : List Ru) : Prop := ∃ (m : Option Nat) (E : List Ent), Tri (fun k => Z k ∨ m = some k) p [.map m] w E ∧ RMap w m R ∧ TabP R E ∧ E.length = R.length ∧ ∀ k, m = some k → ¬ Z k
theorem Tab.on {Z : Nat → Prop} {p : Nat} {w w' : World} {R : List Ru} (h : Tab Z p w R) (hb : Below w.heap.size w w') : Tab Z p w' R := by
  obtain ⟨m, E, h1, h2, h3⟩ := h
  exact ⟨m, E, h1.on hb, h2.on hb, h3⟩
theorem Tri.low {Z : Nat → Prop} {p : Nat} {pre : List Value} {w : World} {E : List Ent} (h : Tri Z p pre w E) (k : Nat) (hk : Z k) : k < w.heap.size := by obtain ⟨a, N, -, -, -, -, h5⟩ := h; exact h5 k hk
/-- What stands ahead of a tree. -/
theorem Tri.pre0 {Z : Nat → Prop} {p : Nat} {x : Value} {w : World} {E : List Ent} (h : Tri Z p [x] w E) : w.cell? ⟨p, 0, none⟩ = some x ∧ w.frozen? ⟨p, 0, none⟩ = false := by
  obtain ⟨a, N, rfl, h1, -⟩ := h
  have := h1.c.ahd 0 x rfl
  exact this
theorem Tri.mine {Z : Nat → Prop} {p : Nat} {pre : List Value} {w : World} {E : List Ent} (h : Tri Z p pre w E) : ¬ Z p := by
  obtain ⟨a, N, rfl, h1, -, h4, -⟩ := h
  exact h4 _ (Or.inl ⟨[], h1.c.nil, rfl⟩)
theorem tab_new {Z : Nat → Prop} {p : Nat} {W : World} (h : Blk W p [.map none, .pointer none, .pointer none, .map none, .int .i64 0, .int .i64 0]) (hz : ¬ Z p) (hl : ∀ k, Z k → k < W.heap.size) : Tab Z p W [] := by
  refine ⟨none, [], ⟨⟨fun _ => p, fun _ => none⟩, [[]], rfl, ⟨⟨fun q hq => ?_, fun _ _ => rfl, fun i v hv => ?_, ?_, fun q hq s hs _ => ?_, by simp⟩, ⟨fun q hq => ?_, fun q _ s _ b e => by cases e⟩, by simp, List.nodup_nil, fun e he => by cases he⟩, plain_new, fun k hk => ?_, fun k hk => ?_⟩, rfl, ⟨fun y => by simp, List.nodup_nil, fun r hr => by cases hr⟩, rfl, fun k e => by cases e⟩
  · have e : q = [] := by simpa using hq
    subst e
    have hb := Blo.of h
    intro i v hv
    have : (ncells (⟨fun _ => p, fun _ => none⟩ : TL) [[]] [])[i]? = some v := hv
    have e2 : ncells (⟨fun _ => p, fun _ => none⟩ : TL) [[]] [] = [.pointer none, .pointer none, .map none] := by
      unfold ncells wyV; simp
    rw [e2] at this
    have := hb (1 + i) v (by
      match i, this with
      | 0, t => exact t
      | 1, t => exact t
      | 2, t => exact t)
    rw [Nat.zero_add] at this
    exact this
  · have hb := Blo.of h
    match i, hv with
    | 0, hv => exact hb 0 v hv
  · have hb := Blo.of h
    intro i v hv
    have := hb (4 + i) v (by
      match i, hv with
      | 0, t => exact t
      | 1, t => exact t)
    rw [Nat.zero_add] at this
    exact this
  · have e1 : q = [] := by simpa using hq
    have e2 : s = [] := by simpa using hs
    rw [e1, e2]
  · exact rfl
  · rcases hk with ⟨q, hq, rfl⟩ | ⟨q, hq, e⟩
    · exact fun q => q.elim hz (fun e => by cases e)
    · cases e
  · rcases hk with q | q
    · exact hl k q
    · cases q
set_option maxRecDepth 100000 in
theorem new_any (W : World) : Calls Try.prog 23 #[] W fun e w' => e = .returned (.pointer (some ⟨W.heap.size, 0, none⟩)) ∧ Blk w' W.heap.size [.map none, .pointer none, .pointer none, .map none, .int .i64 0, .int .i64 0] ∧ Below W.heap.size W w' := by
  go_enter Try.func23, Try.ntmps23
  go_wp2
  go_ret
  exact ⟨rfl, Blk.new _ _ _, bel_al (Below.refl _ _) _⟩
theorem sNewTab (W : World) : Calls Try.prog 23 #[] W fun e w' => e = .returned (.pointer (some ⟨W.heap.size, 0, none⟩)) ∧ Tab (fun k => k < W.heap.size) W.heap.size w' [] ∧ Below W.heap.size W w' := by
  refine (new_any W).mono ?_
  rintro e w' ⟨rfl, h1, h2⟩
  exact ⟨rfl, tab_new h1 (Nat.lt_irrefl _) (fun k hk => Nat.lt_of_lt_of_le hk h2.size), h2⟩
end Go.Proofs.Ytgcbngephokegaa
