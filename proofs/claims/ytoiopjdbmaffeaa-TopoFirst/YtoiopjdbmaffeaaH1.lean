/- The small functions of layer 2: a header's words, a bit's words, a bit. -/
import Derived.Test.YtoiopjdbmaffeaaRows
import Derived.WalkKit
import Derived.WalkSpells
import Derived.WalkLawsBesides
import Derived.Laws.Externs
import Derived.Laws.Bits64b
import Derived.Lib.EndianBits
namespace Go.Proofs.Ytoiopjdbmaffeaa
open Go.RowKit
set_option linter.unusedVariables false

/-- A header's fields: within their kinds. -/
structure HB (d s p x y : Nat) : Prop where
  d : d < 4294967296
  s : s < 4294967296
  p : p < 256
  x : x < 65536
  y : y < 65536
/-- A header, and its words, as values. -/
abbrev hv (d s p x y : Int) : Value := .agg #[.int .u32 d, .int .u32 s, .int .u8 p, .int .u16 x, .int .u16 y]
abbrev wv (a b : Int) : Value := .agg #[.int .u64 a, .int .u64 b]
/-- A header's words. -/
def pa (d s : Nat) : Nat := d * 4294967296 + s
def pb (p x y : Nat) : Nat := p * 4294967296 + x * 65536 + y
theorem pa_lt {d s : Nat} (hd : d < 4294967296) (hs : s < 4294967296) : pa d s < 18446744073709551616 := by unfold pa; omega
theorem pb_lt {p x y : Nat} (hp : p < 256) (hx : x < 65536) (hy : y < 65536) : pb p x y < 1099511627776 := by unfold pb; omega
theorem pa_eq {d s : Nat} (hd : d < 4294967296) (hs : s < 4294967296) :
    bits .or .u64 (IntKind.u64.wrap (IntKind.u64.wrap (d : Int) * 4294967296)) (IntKind.u64.wrap (s : Int)) = (pa d s : Int) := by
  rw [u64_wrap_id d (by omega) (by omega), u64_wrap_id s (by omega) (by omega), u64_wrap_id _ (by omega) (by omega)]
  rw [bits_join .u64 64 (by decide) wraps_u64 32 _ _ (by omega) (by omega) (by omega) (by omega) (by omega) (by omega)]
  unfold pa; omega
theorem pb_eq {p x y : Nat} (hp : p < 256) (hx : x < 65536) (hy : y < 65536) :
    bits .or .u64 (bits .or .u64 (IntKind.u64.wrap (IntKind.u64.wrap (p : Int) * 4294967296)) (IntKind.u64.wrap (IntKind.u64.wrap (x : Int) * 65536))) (IntKind.u64.wrap (y : Int)) = (pb p x y : Int) := by
  rw [u64_wrap_id p (by omega) (by omega), u64_wrap_id x (by omega) (by omega), u64_wrap_id y (by omega) (by omega), u64_wrap_id _ (by omega) (by omega), u64_wrap_id _ (by omega) (by omega)]
  rw [bits_join .u64 64 (by decide) wraps_u64 32 ((p : Int) * 4294967296) ((x : Int) * 65536) (by omega) (by omega) (by omega) (by omega) (by omega) (by omega)]
  rw [bits_join .u64 64 (by decide) wraps_u64 16 ((p : Int) * 4294967296 + (x : Int) * 65536) y (by omega) (by omega) (by omega) (by omega) (by omega) (by omega)]
  unfold pb; omega
/-- A bit's words. -/
def ma (i : Int) : Nat := if 0 ≤ i ∧ i < 64 then 2 ^ (63 - i.toNat) else 0
def mb (i : Int) : Nat := if 64 ≤ i ∧ i < 104 then 2 ^ (103 - i.toNat) else 0
theorem pow_lt (j : Nat) (h : j < 64) : 2 ^ j < 18446744073709551616 := by
  have := Nat.pow_lt_pow_right (a := 2) (by omega) h
  rwa [show (2 : Nat) ^ 64 = 18446744073709551616 from by decide] at this
theorem ma_lt (i : Int) : ma i < 18446744073709551616 := by unfold ma; split; exact pow_lt _ (by omega); omega
theorem mb_lt (i : Int) : mb i < 18446744073709551616 := by unfold mb; split; exact pow_lt _ (by omega); omega
theorem wrap_pow (j : Nat) (h : j < 64) : IntKind.u64.wrap (2 ^ j : Int) = ((2 ^ j : Nat) : Int) := by
  have := pow_lt j h
  have e : (2 ^ j : Int) = ((2 ^ j : Nat) : Int) := (Int.natCast_pow 2 j).symm
  rw [e]
  generalize (2 : Nat) ^ j = n at *
  exact u64_wrap_id _ (by omega) (by omega)
theorem ret_wv {a b : Int} {c d : Nat} (e1 : a = c) (e2 : b = d) : Ending.returned (wv a b) = .returned (wv c d) := by rw [e1, e2]
theorem ne_dec (n : Nat) : ((n : Int) != 0) = !decide (n = 0) := by
  by_cases h : n = 0
  · subst h; rfl
  · have : ((n : Int) != 0) = true := by simp; omega
    rw [this, decide_eq_false h]; rfl
/-- A bit of a header; none outside. -/
def bt (d s p x y : Nat) (i : Int) : Bool := decide ((pa d s &&& ma i) ≠ 0) || decide ((pb p x y &&& mb i) ≠ 0)
theorem below_al {W w : World} (h : Below W.heap.size W w) (o : Obj) : Below W.heap.size W (w.alloc o) := h.alloc h.size o
theorem below_on {W w w' : World} (h : Below W.heap.size W w) (k : Below w.heap.size w w') : Below W.heap.size W w' := h.trans (k.mono h.size)
theorem ret_bool {a b : Bool} (h : a = b) : Ending.returned (.bool a) = .returned (.bool b) := by rw [h]
end Go.Proofs.Ytoiopjdbmaffeaa
