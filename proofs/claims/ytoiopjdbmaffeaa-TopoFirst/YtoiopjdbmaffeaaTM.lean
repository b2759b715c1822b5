/- Topologies, plain; how their parts lie in memory. No program in sight. -/
import Derived.Test.YtoiopjdbmaffeaaAt
import Derived.Test.YtoiopjdbmaffeaaF2
namespace Go.Proofs.Ytoiopjdbmaffeaa
open Go.RowKit
set_option linter.unusedVariables false

/-- These cells lie behind a slice's address. -/
def Rw (w : World) (a : Option Addr) (cs : List Value) : Prop := ∀ j v, cs[j]? = some v → ∃ b off, a = some ⟨b, off, none⟩ ∧ w.cell? ⟨b, off + j, none⟩ = some v
theorem Rw.on {w w' : World} {a : Option Addr} {cs : List Value} (h : Rw w a cs) (hb : Below w.heap.size w w') : Rw w' a cs := fun j v hv => by
  obtain ⟨b, off, e, hc⟩ := h j v hv
  exact ⟨b, off, e, (hb.cell (p := ⟨b, off + j, none⟩) (cell_lt (o := off + j) (by rw [hc]; rfl))).trans hc⟩
theorem Rw.ad {w : World} {a : Option Addr} {c : Value} {cs : List Value} (h : Rw w a (c :: cs)) : ∃ b off, a = some ⟨b, off, none⟩ := by
  obtain ⟨b, off, e, -⟩ := h 0 c rfl; exact ⟨b, off, e⟩
theorem Rw.cell {w : World} {b off : Nat} {cs : List Value} (h : Rw w (some ⟨b, off, none⟩) cs) {j : Nat} {v : Value} (hv : cs[j]? = some v) : w.cell? ⟨b, off + j, none⟩ = some v := by
  obtain ⟨b', off', e, hc⟩ := h j v hv
  cases e; exact hc
/-- Where the j-th cell of the i-th of rows of k cells each stands. -/
theorem flat_get {α : Type} (f : α → List Value) (k : Nat) : ∀ (L : List α), (∀ x ∈ L, (f x).length = k) → ∀ (i j : Nat) (x : α), L[i]? = some x → j < k → (L.flatMap f)[k * i + j]? = (f x)[j]?
  | [], _, i, j, x, hx, _ => by simp at hx
  | y :: r, hk, 0, j, x, hx, hj => by
    simp at hx; subst hx
    rw [List.flatMap_cons, Nat.mul_zero, Nat.zero_add, List.getElem?_append_left (by rw [hk _ (by simp)]; exact hj)]
  | y :: r, hk, i + 1, j, x, hx, hj => by
    have hy : (f y).length = k := hk y (by simp)
    rw [List.flatMap_cons, List.getElem?_append_right (by rw [hy, Nat.mul_succ]; omega), hy, show k * (i + 1) + j - k = k * i + j by rw [Nat.mul_succ]; omega]
    exact flat_get f k r (fun x hx => hk x (by simp [hx])) i j x (by simpa using hx) hj
/-- The j-th cell of the i-th element. -/
theorem Rw.elem {α : Type} {w : World} {b off : Nat} {f : α → List Value} {L : List α} (k : Nat) (h : Rw w (some ⟨b, off, none⟩) (L.flatMap f)) (hk : ∀ x, (f x).length = k) {i : Nat} {x : α} (hx : L[i]? = some x) (j : Nat) {v : Value} (hv : (f x)[j]? = some v) :
    w.cell? ⟨b, off + i * k + j, none⟩ = some v := by
  have hj : j < k := by
    rw [← hk x]
    rcases Nat.lt_or_ge j (f x).length with q | q
    · exact q
    · rw [List.getElem?_eq_none q] at hv; cases hv
  have := h.cell (j := k * i + j) (by rw [flat_get f k L (fun x _ => hk x) i j x hx hj]; exact hv)
  rw [Nat.mul_comm i k, Nat.add_assoc]; exact this
theorem Rw.elemAd {α : Type} {w : World} {a : Option Addr} {f : α → List Value} {L : List α} (k : Nat) (h : Rw w a (L.flatMap f)) (hk : ∀ x, (f x).length = k + 1) {i : Nat} {x : α} (hx : L[i]? = some x) : ∃ b off, a = some ⟨b, off, none⟩ := by
  have e := flat_get f (k + 1) L (fun x _ => hk x) i 0 x hx (by omega)
  rw [List.getElem?_eq_getElem (show 0 < (f x).length by rw [hk]; omega)] at e
  obtain ⟨b, off, e, -⟩ := h _ _ e
  exact ⟨b, off, e⟩
theorem drop_at {α : Type} {l : List α} {i : Nat} (h : i < l.length) : ∃ x, l[i]? = some x ∧ l.drop i = x :: l.drop (i + 1) ∧ x ∈ l := ⟨l[i], List.getElem?_eq_getElem h, List.drop_eq_getElem_cons h, List.getElem_mem h⟩
/-- A link. -/
structure Lk where
  a : Int
  b : Int
  c : Int
  d : Int
def Lk.cells (l : Lk) : List Value := [.int .i64 l.a, .int .i64 l.b, .int .i64 l.c, .int .i64 l.d]
def Lk.val (l : Lk) : Value := .agg #[.int .i64 l.a, .int .i64 l.b, .int .i64 l.c, .int .i64 l.d]
/-- An entry: its device, port, way, what it says, its filter. -/
structure Ac where
  x : Int
  y : Int
  i : Bool
  z : Bool
  a : Nat
  n : Int
  b : Nat
  m : Int
  p : Int
  l : Nat
  h : Nat
  u : Nat
  v : Nat
def Ac.cells (c : Ac) : List Value := [.int .i64 c.x, .int .i64 c.y, .bool c.i, .bool c.z, .int .u32 c.a, .int .i64 c.n, .int .u32 c.b, .int .i64 c.m, .int .i64 c.p, .int .u16 c.l, .int .u16 c.h, .int .u16 c.u, .int .u16 c.v]
def Ac.chk (c : Ac) : Int := Go.Proofs.Ytoiopjdbmaffeaa.chk (rightB c.a c.n) (rightB c.b c.m) c.p (decide (c.h < c.l)) (decide (c.v < c.u))
structure Ac.Ok (c : Ac) : Prop where
  a : c.a < 4294967296
  b : c.b < 4294967296
/-- A topology's parts. -/
structure TP where
  ps : List Int
  ls : List Lk
  es : List Ac
structure TP.Ok (t : TP) : Prop where
  es : ∀ c ∈ t.es, c.Ok
def ints (l : List Int) : List Value := l.map fun x => .int .i64 x
/-- A topology's value: its three slices. -/
def tv (pa : Option Addr) (np pc : Nat) (la : Option Addr) (nl lc : Nat) (aa : Option Addr) (na ac : Nat) : Value := .agg #[.slice pa np pc, .slice la nl lc, .slice aa na ac]
def tc (pa : Option Addr) (np pc : Nat) (la : Option Addr) (nl lc : Nat) (aa : Option Addr) (na ac : Nat) : List Value := [.slice pa np pc, .slice la nl lc, .slice aa na ac]
/-- What is wrong with a port. -/
def portE (ps : List Int) (d p : Int) : Int := if d < 0 ∨ (ps.length : Int) ≤ d then 10 else if p < 0 ∨ ps.getD d.toNat 0 ≤ p then 11 else 0
/-- What is wrong with entries. -/
def entE (ps : List Int) : List Ac → Int
  | [] => 0
  | c :: r => if portE ps c.x c.y ≠ 0 then portE ps c.x c.y else if c.chk ≠ 0 then c.chk else entE ps r
/-- The ends of links, one behind the other. -/
def ends : List Lk → List (Int × Int)
  | [] => []
  | l :: r => (l.a, l.b) :: (l.c, l.d) :: ends r
/-- What is wrong with ends, those ahead known. -/
def lnkE (ps : List Int) (seen : List (Int × Int)) : List (Int × Int) → Int
  | [] => 0
  | e :: r => if portE ps e.1 e.2 ≠ 0 then portE ps e.1 e.2 else if e ∈ seen then 12 else lnkE ps (seen ++ [e]) r
/-- What is wrong with numbers of ports. -/
def cntE : List Int → Int
  | [] => 0
  | n :: r => if n < 0 ∨ 8 < n then 11 else cntE r
/-- What is wrong with a topology. -/
def TP.chk (t : TP) : Int := if t.ps.length < 1 ∨ 16 < t.ps.length ∨ 32 < t.es.length then 15 else if cntE t.ps ≠ 0 then cntE t.ps else if lnkE t.ps [] (ends t.ls) ≠ 0 then lnkE t.ps [] (ends t.ls) else entE t.ps t.es
end Go.Proofs.Ytoiopjdbmaffeaa
