/- The small functions of layer 2: a header's words, a bit's words, a bit. -/
import Derived.Test.YtioanjpeddipmacRows
import Derived.WalkKit
import Derived.WalkSpells
import Derived.WalkLawsBesides
import Derived.Laws.Externs
import Derived.Laws.Bits64b
import Derived.Lib.EndianBits
namespace Go.Proofs.Ytioanjpeddipmac
open Go.RowKit
set_option linter.unusedVariables false

/-- A header's fields: within their kinds. -/
structure HB (d s p x y : Nat) : Prop where
  d : d < 4294967296
  s : s < 4294967296
  p : p < 256
  x : x < 65536
  y : y < 65536
/-- A header, and its words, as values. -/
abbrev hv (d s p x y : Int) : Value := .agg #[.int .u32 d, .int .u32 s, .int .u8 p, .int .u16 x, .int .u16 y]
abbrev wv (a b : Int) : Value := .agg #[.int .u64 a, .int .u64 b]
/-- A header's words. -/
def pa (d s : Nat) : Nat := d * 4294967296 + s
def pb (p x y : Nat) : Nat := p * 4294967296 + x * 65536 + y
theorem pa_lt {d s : Nat} (hd : d < 4294967296) (hs : s < 4294967296) : pa d s < 18446744073709551616 := by unfold pa; omega
theorem pb_lt {p x y : Nat} (hp : p < 256) (hx : x < 65536) (hy : y < 65536) : pb p x y < 1099511627776 := by unfold pb; omega
theorem pa_eq {d s : Nat} (hd : d < 4294967296) (hs : s < 4294967296) :
    bits .or .u64 (IntKind.u64.wrap (IntKind.u64.wrap (d : Int) * 4294967296)) (IntKind.u64.wrap (s : Int)) = (pa d s : Int) := by
  rw [u64_wrap_id d (by omega) (by omega), u64_wrap_id s (by omega) (by omega), u64_wrap_id _ (by omega) (by omega)]
  rw [bits_join .u64 64 (by decide) wraps_u64 32 _ _ (by omega) (by omega) (by omega) (by omega) (by omega) (by omega)]
  unfold pa; omega
theorem pb_eq {p x y : Nat} (hp : p < 256) (hx : x < 65536) (hy : y < 65536) :
    bits .or .u64 (bits .or .u64 (IntKind.u64.wrap (IntKind.u64.wrap (p : Int) * 4294967296)) (IntKind.u64.wrap (IntKind.u64.wrap (x : Int) * 65536))) (IntKind.u64.wrap (y : Int)) = (pb p x y : Int) := by
  rw [u64_wrap_id p (by omega) (by omega), u64_wrap_id x (by omega) (by omega), u64_wrap_id y (by omega) (by omega), u64_wrap_id _ (by omega) (by omega), u64_wrap_id _ (by omega) (by omega)]
  rw [bits_join .u64 64 (by decide) wraps_u64 32 ((p : Int) * 4294967296) ((x : Int) * 65536) (by omega) (by omega) (by omega) (by omega) (by omega) (by omega)]
  rw [bits_join .u64 64 (by decide) wraps_u64 16 ((p : Int) * 4294967296 + (x : Int) * 65536) y (by omega) (by omega) (by omega) (by omega) (by omega) (by omega)]
  unfold pb; omega
set_option maxHeartbeats 400000 in
theorem pack_exact (d s p x y : Nat) (h : HB d s p x y) (w : World) :
    Calls Try.prog 55 #[hv d s p x y] w fun e w' => e = .returned (wv (pa d s) (pb p x y)) ∧ (w.alloc (.cells #[.int .u32 d, .int .u32 s, .int .u8 p, .int .u16 x, .int .u16 y] 29)).alloc (.cells #[.int .u64 (pa d s), .int .u64 (pb p x y)] 108) = w' := by
  have e1 := pa_eq h.d h.s
  have e2 := pb_eq h.p h.x h.y
  go_enter Try.func55, Try.ntmps55
  go_wp2
  exact bodyPost_ret (v := wv (pa d s) (pb p x y)) (by simp [results, Try.results55, go_sem]) rfl ⟨rfl, rfl⟩
/-- A bit's words. -/
def ma (i : Int) : Nat := if 0 ≤ i ∧ i < 64 then 2 ^ (63 - i.toNat) else 0
def mb (i : Int) : Nat := if 64 ≤ i ∧ i < 104 then 2 ^ (103 - i.toNat) else 0
theorem pow_lt (j : Nat) (h : j < 64) : 2 ^ j < 18446744073709551616 := by
  have := Nat.pow_lt_pow_right (a := 2) (by omega) h
  rwa [show (2 : Nat) ^ 64 = 18446744073709551616 from by decide] at this
theorem ma_lt (i : Int) : ma i < 18446744073709551616 := by unfold ma; split; exact pow_lt _ (by omega); omega
theorem mb_lt (i : Int) : mb i < 18446744073709551616 := by unfold mb; split; exact pow_lt _ (by omega); omega
theorem wrap_pow (j : Nat) (h : j < 64) : IntKind.u64.wrap (2 ^ j : Int) = ((2 ^ j : Nat) : Int) := by
  have := pow_lt j h
  have e : (2 ^ j : Int) = ((2 ^ j : Nat) : Int) := (Int.natCast_pow 2 j).symm
  rw [e]
  generalize (2 : Nat) ^ j = n at *
  exact u64_wrap_id _ (by omega) (by omega)
theorem ret_wv {a b : Int} {c d : Nat} (e1 : a = c) (e2 : b = d) : Ending.returned (wv a b) = .returned (wv c d) := by rw [e1, e2]
set_option maxHeartbeats 400000 in
theorem mask_exact (i : Int) (w : World) :
    Calls Try.prog 56 #[.int .i64 i] w fun e w' => e = .returned (wv (ma i) (mb i)) ∧ w.alloc (.cells #[.int .u64 (ma i), .int .u64 (mb i)] 108) = w' := by
  by_cases c : i < 0 ∨ 104 ≤ i
  · have e1 : ma i = 0 := by unfold ma; rw [if_neg (by omega)]
    have e2 : mb i = 0 := by unfold mb; rw [if_neg (by omega)]
    rw [e1, e2]
    clear e1 e2
    by_cases c1 : i < 0
    · clear c
      go_enter Try.func56, Try.ntmps56
      go_wp2
      exact bodyPost_ret (v := wv 0 0) (by simp [results, Try.results56, go_sem]) rfl ⟨rfl, rfl⟩
    · have c2 : 104 ≤ i := by omega
      clear c
      go_enter Try.func56, Try.ntmps56
      go_wp2
      exact bodyPost_ret (v := wv 0 0) (by simp [results, Try.results56, go_sem]) rfl ⟨rfl, rfl⟩
  · obtain ⟨k, rfl⟩ := Int.eq_ofNat_of_zero_le (show 0 ≤ i by omega)
    by_cases c1 : k < 64
    · have e1 : ma k = 2 ^ (63 - k) := by unfold ma; rw [if_pos (by omega)]; rfl
      have e2 : mb k = 0 := by unfold mb; rw [if_neg (by omega)]
      have e3 : IntKind.u64.wrap (2 ^ (63 - k) : Int) = (ma k : Int) := by rw [e1]; exact wrap_pow _ (by omega)
      rw [e2]
      clear e1 e2 c
      go_enter Try.func56, Try.ntmps56
      go_wp2
      exact bodyPost_ret (v := wv (ma k) 0) (by simp [results, Try.results56, go_sem]) rfl ⟨rfl, rfl⟩
    · have e1 : ma k = 0 := by unfold ma; rw [if_neg (by omega)]
      have e2 : mb k = 2 ^ (103 - k) := by unfold mb; rw [if_pos (by omega)]; rfl
      have e3 : IntKind.u64.wrap (2 ^ (103 - k) : Int) = (mb k : Int) := by rw [e2]; exact wrap_pow _ (by omega)
      have c2 : k < 104 := by omega
      rw [e1]
      clear e1 e2 c
      go_enter Try.func56, Try.ntmps56
      go_wp2
      exact bodyPost_ret (v := wv 0 (mb k)) (by simp [results, Try.results56, go_sem]) rfl ⟨rfl, rfl⟩
theorem ne_dec (n : Nat) : ((n : Int) != 0) = !decide (n = 0) := by
  by_cases h : n = 0
  · subst h; rfl
  · have : ((n : Int) != 0) = true := by simp; omega
    rw [this, decide_eq_false h]; rfl
/-- A bit of a header; none outside. -/
def bt (d s p x y : Nat) (i : Int) : Bool := decide ((pa d s &&& ma i) ≠ 0) || decide ((pb p x y &&& mb i) ≠ 0)
theorem below_al {W w : World} (h : Below W.heap.size W w) (o : Obj) : Below W.heap.size W (w.alloc o) := h.alloc h.size o
theorem below_on {W w w' : World} (h : Below W.heap.size W w) (k : Below w.heap.size w w') : Below W.heap.size W w' := h.trans (k.mono h.size)
theorem ret_bool {a b : Bool} (h : a = b) : Ending.returned (.bool a) = .returned (.bool b) := by rw [h]
set_option maxHeartbeats 400000 in
theorem bit_core (d s p x y i a b m n u v : Int)
    (hp : ∀ w, Calls Try.prog 55 #[hv d s p x y] w fun e w' => e = .returned (wv a b) ∧ (w.alloc (.cells #[.int .u32 d, .int .u32 s, .int .u8 p, .int .u16 x, .int .u16 y] 29)).alloc (.cells #[.int .u64 a, .int .u64 b] 108) = w')
    (hm : ∀ w, Calls Try.prog 56 #[.int .i64 i] w fun e w' => e = .returned (wv m n) ∧ w.alloc (.cells #[.int .u64 m, .int .u64 n] 108) = w')
    (q1 : bits .and .u64 a m = u) (q2 : bits .and .u64 b n = v) (w : World) :
    Calls Try.prog 35 #[hv d s p x y, .int .i64 i] w fun e w' => e = .returned (.bool (u != 0 || v != 0)) ∧ Below w.heap.size w w' := by
  go_enter Try.func35, Try.ntmps35
  go_wp2_with fail
  refine (hp _).mono ?_
  rintro e w' ⟨rfl, rfl⟩
  go_wp2_with fail
  refine (hm _).mono ?_
  rintro e w' ⟨rfl, rfl⟩
  clear hp hm
  by_cases c : u = 0
  · go_wp2
    go_ret
    exact ⟨ret_bool (by simp [c]), below_al (below_al (below_al (below_al (below_al (below_al (Below.refl _ _) _) _) _) _) _) _⟩
  · go_wp2
    go_ret
    exact ⟨ret_bool (by simp [c]), below_al (below_al (below_al (below_al (below_al (below_al (Below.refl _ _) _) _) _) _) _) _⟩
theorem bit_any (d s p x y : Nat) (i : Int) (h : HB d s p x y) (w : World) :
    Calls Try.prog 35 #[hv d s p x y, .int .i64 i] w fun e w' => e = .returned (.bool (bt d s p x y i)) ∧ Below w.heap.size w w' := by
  have q := bit_core d s p x y i _ _ _ _ _ _ (pack_exact d s p x y h) (mask_exact i) (bits_and_u64_nat _ _ (pa_lt h.d h.s) (ma_lt i)) (bits_and_u64_nat _ _ (Nat.lt_trans (pb_lt h.p h.x h.y) (by omega)) (mb_lt i)) w
  refine q.mono ?_
  rintro e w' ⟨rfl, hb⟩
  exact ⟨ret_bool (by unfold bt; simp only [ne_dec, ne_eq, decide_not]), hb⟩
end Go.Proofs.Ytioanjpeddipmac
