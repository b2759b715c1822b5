/- Texts joined, in their order: EM, EC, EK. -/
import Derived.Laws.Bits64b
import Derived.Lib.EndianBits
import Derived.Lib.Hide
import Derived.Test.YtggcbklififcgabRows
import Derived.WalkKit
import Derived.WalkSpells
import Derived.WalkLawsBesides
import Derived.Laws.Externs
import Derived.Deep.RegionHeld3
import Derived.Deep.DeepCutAuto
import Derived.Deep.CutBlock
import Derived.BigQuiet
import Derived.Deep.QuietTactic
/- Plain: prefixes of 32 bits. No program in sight. -/
namespace Go.Proofs.Ytggcbklififcgab
set_option linter.unusedVariables false

/-- How many bits of 0 to 32 are nearest; how many addresses a prefix of so many has. -/
def inB (n : Int) : Nat := if n < 0 then 0 else if 32 < n then 32 else n.toNat
theorem inB_le (n : Int) : inB n ≤ 32 := by unfold inB; (repeat' split) <;> omega
def sz (k : Nat) : Nat := 2 ^ (32 - k)
theorem sz_pos (k : Nat) : 0 < sz k := Nat.pow_pos (by decide)
theorem sz_le (k : Nat) : sz k ≤ 4294967296 := by
  unfold sz
  have := Nat.pow_le_pow_right (n := 2) (by decide) (show 32 - k ≤ 32 by omega)
  rwa [show (2 : Nat) ^ 32 = 4294967296 from by decide] at this
/-- The address whose first k bits are set. -/
def mk (k : Nat) : Nat := 4294967296 - sz k
theorem mk_lt (k : Nat) : mk k < 4294967296 := by have := sz_pos k; unfold mk; omega
theorem sz_mul (k : Nat) (h : k ≤ 32) : sz k * 2 ^ k = 4294967296 := by
  unfold sz; rw [← Nat.pow_add, show 32 - k + k = 32 by omega]
theorem mk_eq (k : Nat) (h : k ≤ 32) : mk k = (2 ^ k - 1) * 2 ^ (32 - k) := by
  have := sz_mul k h
  unfold mk sz at *
  rw [Nat.sub_mul, Nat.one_mul, Nat.mul_comm, this]
/-- The first k bits of an address. -/
def cutA (a k : Nat) : Nat := a / sz k * sz k
theorem cut_le (a k : Nat) : cutA a k ≤ a := Nat.div_mul_le_self a _
theorem and_mk (a k : Nat) (ha : a < 4294967296) (h : k ≤ 32) : a &&& mk k = cutA a k := by
  rw [mk_eq k h]
  unfold cutA sz
  apply Nat.eq_of_testBit_eq
  intro i
  rw [Nat.testBit_and, Nat.testBit_mul_two_pow, Nat.testBit_mul_two_pow, Nat.testBit_two_pow_sub_one, Nat.testBit_div_two_pow]
  by_cases h1 : 32 - k ≤ i
  · simp only [h1, decide_true, Bool.true_and, Nat.sub_add_cancel h1]
    by_cases h2 : i - (32 - k) < k
    · simp [h2]
    · have : a.testBit i = false := Nat.testBit_lt_two_pow (Nat.lt_of_lt_of_le ha (by rw [show (4294967296 : Nat) = 2 ^ 32 from by decide]; exact Nat.pow_le_pow_right (by omega) (by omega)))
      simp [this]
  · simp [h1]
theorem bits_u32 (op : BinOp) (a b : Nat) (ha : a < 4294967296) (hb : b < 4294967296) (f : Nat → Nat → Nat) (hf : f a b < 4294967296)
    (e : bits op .u32 (a : Int) (b : Int) = IntKind.u32.wrap ((f a b : Nat) : Int)) : bits op .u32 (a : Int) (b : Int) = (f a b : Int) := by
  rw [e, IntKind.wrap_u32]; omega
theorem bits_and_u32 (a b : Nat) (ha : a < 4294967296) (hb : b < 4294967296) : bits .and .u32 (a : Int) (b : Int) = ((a &&& b : Nat) : Int) := by
  have hf : a &&& b < 4294967296 := Nat.lt_of_le_of_lt Nat.and_le_left ha
  unfold bits
  have e : (BitVec.ofInt 32 (a : Int) &&& BitVec.ofInt 32 (b : Int)).toNat = a &&& b := by
    rw [BitVec.ofInt_natCast, BitVec.ofInt_natCast, BitVec.toNat_and, BitVec.toNat_ofNat, BitVec.toNat_ofNat, Nat.mod_eq_of_lt ha, Nat.mod_eq_of_lt hb]
  show IntKind.u32.wrap (((BitVec.ofInt 32 (a : Int) &&& BitVec.ofInt 32 (b : Int)).toNat : Nat) : Int) = _
  rw [e, IntKind.wrap_u32]; omega
theorem bits_or_u32 (a b : Nat) (ha : a < 4294967296) (hb : b < 4294967296) : bits .or .u32 (a : Int) (b : Int) = ((a ||| b : Nat) : Int) := by
  have hf : a ||| b < 4294967296 := Nat.or_lt_two_pow (n := 32) (by simpa using ha) (by simpa using hb)
  unfold bits
  have e : (BitVec.ofInt 32 (a : Int) ||| BitVec.ofInt 32 (b : Int)).toNat = a ||| b := by
    rw [BitVec.ofInt_natCast, BitVec.ofInt_natCast, BitVec.toNat_or, BitVec.toNat_ofNat, BitVec.toNat_ofNat, Nat.mod_eq_of_lt ha, Nat.mod_eq_of_lt hb]
  show IntKind.u32.wrap (((BitVec.ofInt 32 (a : Int) ||| BitVec.ofInt 32 (b : Int)).toNat : Nat) : Int) = _
  rw [e, IntKind.wrap_u32]; omega
theorem shl_mk (k : Nat) (h : k ≤ 32) : IntKind.u32.wrap (4294967295 * 2 ^ (32 - k) : Int) = (mk k : Int) := by
  have h1 := sz_pos k
  have h2 := sz_le k
  have e : (2 ^ (32 - k) : Int) = ((sz k : Nat) : Int) := (Int.natCast_pow 2 _).symm
  rw [e, IntKind.wrap_u32]
  unfold mk
  generalize sz k = s at *
  omega
theorem xor_mk (k : Nat) : bits .xor .u32 IntKind.u32.max (mk k : Int) = ((sz k - 1 : Nat) : Int) := by
  have hm := mk_lt k
  have e0 : IntKind.u32.max = ((4294967295 : Nat) : Int) := by decide
  have e1 : 4294967295 ^^^ mk k = 4294967295 - mk k := by
    apply Nat.eq_of_testBit_eq
    intro i
    rw [Nat.testBit_xor, show (4294967295 : Nat) = 2 ^ 32 - 1 from by decide, Nat.testBit_two_pow_sub_one, show 2 ^ 32 - 1 - mk k = 2 ^ 32 - (mk k + 1) by omega, Nat.testBit_two_pow_sub_succ (by simpa using hm)]
    by_cases h : i < 32
    · simp [h]
    · have : (mk k).testBit i = false := Nat.testBit_lt_two_pow (Nat.lt_of_lt_of_le hm (by rw [show (4294967296 : Nat) = 2 ^ 32 from by decide]; exact Nat.pow_le_pow_right (by omega) (by omega)))
      simp [h, this]
  rw [e0]
  unfold bits
  have e : (BitVec.ofInt 32 ((4294967295 : Nat) : Int) ^^^ BitVec.ofInt 32 (mk k : Int)).toNat = 4294967295 ^^^ mk k := by
    rw [BitVec.ofInt_natCast, BitVec.ofInt_natCast, BitVec.toNat_xor, BitVec.toNat_ofNat, BitVec.toNat_ofNat, Nat.mod_eq_of_lt (by omega), Nat.mod_eq_of_lt hm]
  show IntKind.u32.wrap (((BitVec.ofInt 32 ((4294967295 : Nat) : Int) ^^^ BitVec.ofInt 32 (mk k : Int)).toNat : Nat) : Int) = _
  rw [e, e1, IntKind.wrap_u32]
  have h1 := sz_pos k
  have h2 := sz_le k
  unfold mk at *
  omega
/-- Whether a prefix may be; whether it has an address. -/
def rightB (a : Nat) (n : Int) : Bool := decide (0 ≤ n ∧ n ≤ 32 ∧ a % sz n.toNat = 0)
def chasB (a : Nat) (n : Int) (x : Nat) : Bool := decide (cutA x (inB n) = a ∧ (inB n : Int) = n)
theorem inB_of (n : Int) (h0 : 0 ≤ n) (h1 : n ≤ 32) : inB n = n.toNat := by unfold inB; rw [if_neg (by omega), if_neg (by omega)]
theorem inB_iff (n : Int) : (inB n : Int) = n ↔ 0 ≤ n ∧ n ≤ 32 := by unfold inB; (repeat' split) <;> omega
theorem cut_self (a k : Nat) : cutA a k = a ↔ a % sz k = 0 := by
  unfold cutA
  have := Nat.div_add_mod a (sz k)
  rw [Nat.mul_comm]
  omega
theorem has_self (a : Nat) (n : Int) : chasB a n a = rightB a n := by
  unfold chasB rightB
  rw [decide_eq_decide, inB_iff]
  constructor
  · rintro ⟨h1, h2, h3⟩
    rw [inB_of n h2 h3, cut_self] at h1
    exact ⟨h2, h3, h1⟩
  · rintro ⟨h1, h2, h3⟩
    rw [inB_of n h1 h2, cut_self]
    exact ⟨h3, h1, h2⟩
theorem cut_iff (a x k : Nat) (h : a % sz k = 0) : cutA x k = a ↔ x / sz k = a / sz k := by
  have h1 := (cut_self a k).2 h
  unfold cutA at *
  constructor
  · intro h2
    have h3 := sz_pos k
    rw [← h2, Nat.mul_div_cancel _ h3]
  · intro h2; rw [h2]; exact h1
theorem hasB_iff (a : Nat) (n : Int) (x : Nat) (h : rightB a n = true) : chasB a n x = decide (x / sz n.toNat = a / sz n.toNat) := by
  obtain ⟨h0, h1, h2⟩ := of_decide_eq_true h
  unfold chasB
  rw [decide_eq_decide, inB_of n h0 h1, cut_iff a x _ h2]
  constructor
  · exact fun h => h.1
  · exact fun h => ⟨h, by omega⟩
/-- A prefix's last address. -/
theorem or_last (a k : Nat) (h : a % sz k = 0) : a ||| (sz k - 1) = a + (sz k - 1) := by
  have h1 := sz_pos k
  have e : a = 2 ^ (32 - k) * (a / sz k) := by
    have := (cut_self a k).2 h
    unfold cutA at this
    rw [Nat.mul_comm] at this
    exact this.symm
  have := Nat.two_pow_add_eq_or_of_lt (show sz k - 1 < 2 ^ (32 - k) by unfold sz at *; omega) (a / sz k)
  rw [← e] at this
  exact this.symm
theorem right_lt (a k : Nat) (ha : a < 4294967296) (hk : k ≤ 32) (h : a % sz k = 0) : a + (sz k - 1) < 4294967296 := by
  have h1 := sz_pos k
  have h2 := sz_mul k hk
  have h3 := (cut_self a k).2 h
  unfold cutA at h3
  have h4 : a / sz k < 2 ^ k := by
    rw [Nat.div_lt_iff_lt_mul h1, Nat.mul_comm, h2]; exact ha
  have h5 : (a / sz k + 1) * sz k ≤ 2 ^ k * sz k := Nat.mul_le_mul_right _ h4
  rw [Nat.mul_comm (2 ^ k), h2, Nat.add_mul, h3] at h5
  omega
end Go.Proofs.Ytggcbklififcgab
/- Prefixes: what inside, mask, Of, Has, Right answer. -/
namespace Go.Proofs.Ytggcbklififcgab
open Go.RowKit
set_option linter.unusedVariables false

/-- A prefix as a value. -/
abbrev pv (a n : Int) : Value := .agg #[.int .u32 a, .int .i64 n]
theorem cbelow_al {W w : World} (h : Below W.heap.size W w) (o : Obj) : Below W.heap.size W (w.alloc o) := h.alloc h.size o
theorem cbelow_on {W w w' : World} (h : Below W.heap.size W w) (k : Below w.heap.size w w') : Below W.heap.size W w' := h.trans (k.mono h.size)
theorem cret_bool {a b : Bool} (h : a = b) : Ending.returned (.bool a) = .returned (.bool b) := by rw [h]
theorem cret_int {k : IntKind} {a b : Int} (h : a = b) : Ending.returned (.int k a) = .returned (.int k b) := by rw [h]
theorem below_drewN {B : Nat} {W w : World} (h : Below B W w) (n : Nat) : Below B W (w.drewN n) := ⟨h.os, h.tape, h.output, h.size, h.block⟩
/-- What was there is there. -/
theorem ckeep {W w : World} (h : Below W.heap.size W w) : Below W.heap.size W w ∧ ∀ b o, (W.cell? ⟨b, o, none⟩).isSome = true → w.cell? ⟨b, o, none⟩ = W.cell? ⟨b, o, none⟩ :=
  ⟨h, fun b o hc => h.cell (p := ⟨b, o, none⟩) (by
    rcases Nat.lt_or_ge b W.heap.size with h1 | h1
    · exact h1
    · simp [World.cell?, Array.getElem?_eq_none h1] at hc)⟩
set_option maxHeartbeats 400000 in
theorem inside_any (n : Int) (w : World) : Calls Try.prog 74 #[.int .i64 n] w fun e w' => e = .returned (.int .i64 (inB n)) ∧ w = w' := by
  by_cases h0 : n < 0
  · have e : inB n = 0 := by unfold inB; rw [if_pos h0]
    rw [e]
    go_enter Try.func74, Try.ntmps74
    go_wp2
    go_ret
    exact ⟨rfl, rfl⟩
  · by_cases h1 : 32 < n
    · have e : inB n = 32 := by unfold inB; rw [if_neg h0, if_pos h1]
      rw [e]
      go_enter Try.func74, Try.ntmps74
      go_wp2
      go_ret
      exact ⟨rfl, rfl⟩
    · obtain ⟨k, rfl⟩ := Int.eq_ofNat_of_zero_le (show 0 ≤ n by omega)
      have e : inB k = k := by unfold inB; rw [if_neg h0, if_neg h1]; rfl
      rw [e]
      clear e
      go_enter Try.func74, Try.ntmps74
      go_wp2
      go_ret
      exact ⟨rfl, rfl⟩
set_option maxHeartbeats 400000 in
theorem cmask_any (n : Int) (w : World) : Calls Try.prog 73 #[.int .i64 n] w fun e w' => e = .returned (.int .u32 (mk (inB n))) ∧ w = w' := by
  have h := shl_mk (inB n) (inB_le n)
  have hl := inB_le n
  obtain ⟨k, hk⟩ : ∃ k, inB n = k := ⟨_, rfl⟩
  have hI := inside_any n
  rw [hk] at h hl ⊢
  simp only [hk] at hI
  go_enter Try.func73, Try.ntmps73
  go_wp2_with fail
  refine (hI _).mono ?_
  rintro e w' ⟨rfl, rfl⟩
  clear hI hk
  go_wp2
  go_ret
  exact ⟨rfl, rfl⟩
set_option maxHeartbeats 400000 in
theorem of_any (a : Nat) (ha : a < 4294967296) (n : Int) (w : World) :
    Calls Try.prog 67 #[.int .u32 a, .int .i64 n] w fun e w' => e = .returned (pv (cutA a (inB n)) (inB n)) ∧ w.alloc (.cells #[.int .u32 (cutA a (inB n)), .int .i64 (inB n)] 24) = w' := by
  have h := bits_and_u32 a (mk (inB n)) ha (mk_lt _)
  rw [and_mk a _ ha (inB_le n)] at h
  have hI := inside_any n
  have hM := cmask_any n
  generalize cutA a (inB n) = c at h ⊢
  generalize inB n = k at h hI hM ⊢
  go_enter Try.func67, Try.ntmps67
  go_wp2_with fail
  refine (hM _).mono ?_
  rintro e w' ⟨rfl, rfl⟩
  go_wp2_with fail
  refine (hI _).mono ?_
  rintro e w' ⟨rfl, rfl⟩
  clear hI hM
  go_wp2
  exact bodyPost_ret (v := pv c k) (by simp [results, Try.results67, go_sem]) rfl ⟨rfl, rfl⟩
set_option maxHeartbeats 1000000 in
theorem chas_core (a n x c k : Int) (T : Bool) (hT : Hid ((c == a && k == n) = T)) (hO : ∀ w, Calls Try.prog 67 #[.int .u32 x, .int .i64 n] w fun e w' => e = .returned (pv c k) ∧ w.alloc (.cells #[.int .u32 c, .int .i64 k] 24) = w') (w : World) :
    Calls Try.prog 50 #[pv a n, .int .u32 x] w fun e w' => e = .returned (.bool T) ∧ Below w.heap.size w w' := by
  obtain ⟨W0, hW0⟩ : ∃ W0, (w.alloc (Obj.cells #[.int .u32 a, .int .i64 n] 24)) = W0 := ⟨_, rfl⟩
  have z1 : W0.cell? ⟨w.heap.size, 0, none⟩ = some (.int .u32 a) := by rw [← hW0]; simp [go_sem]
  have z2 : W0.cell? ⟨w.heap.size, 1, none⟩ = some (.int .i64 n) := by rw [← hW0]; simp [go_sem]
  have hB0 : Below w.heap.size w W0 := by rw [← hW0]; exact cbelow_al (Below.refl _ _) _
  have HO := Lib.hid hO
  clear hO
  go_enter Try.func50, Try.ntmps50
  go_upto_region 1 with fail
  clear hW0
  have hc : (c == a) = true ∨ (c == a) = false := by cases (c == a) <;> simp
  have hk : (k == n) = true ∨ (k == n) = false := by cases (k == n) <;> simp
  rcases hc with hc | hc <;> rcases hk with hk | hk
  all_goals
    have HC := Lib.hid hc
    have HK := Lib.hid hk
    go_region_held3 (fun w' => Below W0.heap.size W0 w' ∧ ∀ b o, (W0.cell? ⟨b, o, none⟩).isSome = true → w'.cell? ⟨b, o, none⟩ = W0.cell? ⟨b, o, none⟩)
      ((refine ckeep ?_; repeat (first | exact Below.refl _ _ | assumption | refine Below.drew ?_ | refine cbelow_al ?_ _ | (refine Below.setCell ?_ (by simp; omega) _))))
      (first | (go_at_call 67; (with_reducible refine (HO.out _).mono ?_); rintro e w' ⟨rfl, rfl⟩))
    all_goals (rename_i hH; have HB := Lib.hid hH.1; clear hH; go_wp2_with fail; go_ret; exact ⟨cret_bool (by rw [← hT.out, HC.out, HK.out]; rfl), cbelow_on hB0 HB.out⟩)
theorem chas_any (a : Nat) (n : Int) (x : Nat) (hx : x < 4294967296) (w : World) :
    Calls Try.prog 50 #[pv a n, .int .u32 x] w fun e w' => e = .returned (.bool (chasB a n x)) ∧ Below w.heap.size w w' := by
  refine chas_core a n x (cutA x (inB n)) (inB n) _ ?_ (fun w => of_any x hx n w) w
  show _ = _
  unfold chasB
  rw [Bool.eq_iff_iff]
  simp
  omega
set_option maxHeartbeats 400000 in
theorem cright_any (a : Nat) (n : Int) (ha : a < 4294967296) (w : World) :
    Calls Try.prog 29 #[pv a n] w fun e w' => e = .returned (.bool (rightB a n)) ∧ Below w.heap.size w w' := by
  have hH := chas_any a n a ha
  rw [has_self] at hH
  have HH := Lib.hid hH
  clear hH
  go_enter Try.func29, Try.ntmps29
  go_wp2_with fail
  refine (HH.out _).mono ?_
  rintro e w' ⟨rfl, hb⟩
  go_wp2
  go_ret
  exact ⟨rfl, cbelow_on (cbelow_al (Below.refl _ _) _) hb⟩
end Go.Proofs.Ytggcbklififcgab
/- The document's size, Right, Has of prefixes (cidr/C2 without what EC has not). -/
namespace Go.Proofs.Ytggcbklififcgab
open Go.RowKit
set_option linter.unusedVariables false

set_option maxHeartbeats 1000000 in
theorem rsize_any (k : Nat) (hk : k ≤ 32) (w : World) :
    Calls Try.prog 32 #[.int .i64 k] w fun e w' => e = .returned (.int .u64 (sz k)) ∧ w' = w := by
  go_enter Try.func32, Try.ntmps32
  go_wp2
  go_loopw [3, 4] (fun sv iv wr => ∃ i s : Nat, iv = .int .i64 i ∧ sv = .int .u64 s ∧ k ≤ i ∧ i ≤ 32 ∧ s * sz i = sz k ∧ wr = w) (fun _ iv _ => 32 - (intOf iv).toNat)
  case atStart => exact ⟨k, 1, rfl, rfl, Nat.le_refl _, hk, Nat.one_mul _, rfl⟩
  case round =>
    obtain ⟨i, s, rfl, rfl, h1, h2, h3, rfl⟩ := hrel
    have HS := Lib.hid h3
    have hs : s ≤ 4294967296 := by
      have h4 := sz_pos i
      have h5 := sz_le k
      rw [← h3] at h5
      exact Nat.le_trans (Nat.le_mul_of_pos_right s h4) h5
    clear h3
    by_cases hlt : i < 32
    · have HS' : Hid (s * 2 * sz (i + 1) = sz k) := by
        show _ = _
        rw [← HS.out, Nat.mul_assoc]
        congr 1
        unfold sz
        rw [← Nat.pow_succ', show (32 - (i + 1)).succ = 32 - i by omega]
      go_wp2
      refine ⟨⟨i + 1, s * 2, by first | rfl | (congr 1), by go_num, by omega, by omega, HS'.out, by trivial⟩, ?_⟩
      simp [intOf]; omega
    · obtain rfl : i = 32 := by omega
      have HE : Hid (s = sz k) := by show _ = _; rw [← HS.out]; unfold sz; simp
      go_wp2
      go_ret
      exact ⟨by rw [HE.out]; rfl, rfl⟩
set_option maxHeartbeats 1000000 in
theorem rright_any (a : Nat) (n : Int) (ha : a < 4294967296) (w : World) :
    Calls Try.prog 11 #[pv a n] w fun e w' => e = .returned (.bool (rightB a n)) ∧ Below w.heap.size w w' := by
  unfold rightB
  by_cases h0 : 0 ≤ n
  · obtain ⟨k, rfl⟩ := Int.eq_ofNat_of_zero_le h0
    by_cases h1 : (k : Int) ≤ 32
    · have hS := rsize_any k (by omega)
      have hp := sz_pos k
      have hl := sz_le k
      rw [Int.toNat_natCast]
      generalize sz k = s at *
      have d0 : decide (0 ≤ (k : Int)) = true := decide_eq_true h0
      have d1 : decide ((k : Int) ≤ 32) = true := decide_eq_true h1
      have hs0 : ¬ (s : Int) = 0 := by omega
      have HE : Hid (((a : Int) % (s : Int) == 0) = decide (0 ≤ (k : Int) ∧ (k : Int) ≤ 32 ∧ a % s = 0)) := by
        show _ = _
        rw [Bool.eq_iff_iff]; simp; omega
      go_enter Try.func11, Try.ntmps11
      go_wp2_with fail
      go_quiet ((go_at_call 32; exact Calls.quiet_of_same (hS _)))
      go_wp2_with fail
      go_ret
      exact ⟨cret_bool HE.out, below_drewN (cbelow_al (Below.refl _ _) _) _⟩
    · have d0 : decide (0 ≤ (k : Int)) = true := decide_eq_true h0
      have d1 : decide ((k : Int) ≤ 32) = false := decide_eq_false h1
      rw [decide_eq_false (by omega)]
      go_enter Try.func11, Try.ntmps11
      go_wp2_with fail
      go_quiet (fail)
      go_wp2_with fail
      go_ret
      exact ⟨rfl, below_drewN (cbelow_al (Below.refl _ _) _) _⟩
  · have d0 : decide (0 ≤ n) = false := decide_eq_false h0
    rw [decide_eq_false (by omega)]
    go_enter Try.func11, Try.ntmps11
    go_wp2_with fail
    go_quiet (fail)
    go_wp2_with fail
    go_ret
    exact ⟨rfl, below_drewN (cbelow_al (Below.refl _ _) _) _⟩
set_option maxHeartbeats 1000000 in
theorem rhas_any (a k x : Nat) (hk : k ≤ 32) (ha : a < 4294967296) (hx : x < 4294967296) (w : World) :
    Calls Try.prog 13 #[pv a k, .int .u32 x] w fun e w' => e = .returned (.bool (decide (x / sz k = a / sz k))) ∧ Below w.heap.size w w' := by
  have hS := rsize_any k hk
  have hp := sz_pos k
  have hl := sz_le k
  generalize sz k = s at *
  have hs0 : ¬ (s : Int) = 0 := by omega
  have HE : Hid ((IntKind.u64.wrap ((x : Int) / (s : Int)) == IntKind.u64.wrap ((a : Int) / (s : Int))) = decide (x / s = a / s)) := by
    show _ = _
    have h1 := Nat.div_le_self x s
    have h2 := Nat.div_le_self a s
    rw [← Int.natCast_ediv, ← Int.natCast_ediv]
    generalize x / s = p at *
    generalize a / s = q at *
    rw [u64_wrap_id _ (by omega) (by omega), u64_wrap_id _ (by omega) (by omega), Bool.eq_iff_iff]; simp; omega
  go_enter Try.func13, Try.ntmps13
  go_wp2_with fail
  go_quiet ((go_at_call 32; exact Calls.quiet_of_same (hS _)))
  go_wp2_with fail
  go_ret
  exact ⟨cret_bool HE.out, below_drewN (cbelow_al (Below.refl _ _) _) _⟩
end Go.Proofs.Ytggcbklififcgab
