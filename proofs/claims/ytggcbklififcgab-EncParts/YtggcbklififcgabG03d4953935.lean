/- Texts joined, in their order: P4, P5, V7, V8, V1, V2, V3, V4. -/
import Derived.Test.YtggcbklififcgabG43ccba0e29
import Derived.Test.YtggcbklififcgabG780cc3c718
import Derived.Test.YtggcbklififcgabG64d036c05c
import Derived.Test.YtggcbklififcgabGa3cf92b948
/- Prefixes and ranges, by headers' fields. No program in sight. -/
namespace Go.Proofs.Ytggcbklififcgab
set_option linter.unusedVariables false

theorem allB_fl {d s p x y a n : Nat} {e : Env} : allB (fl d s p x y a n) e = true ↔ ∀ i, i < n → e (a + i) = bt d s p x y ((a + i : Nat) : Int) := by
  unfold allB fl
  rw [List.all_eq_true]
  constructor
  · intro h i hi
    have := h (a + i, bt d s p x y ((a + i : Nat) : Int)) (List.mem_map.2 ⟨i, List.mem_range.2 hi, rfl⟩)
    rw [beq_iff_eq] at this
    exact this
  · intro h q hq
    obtain ⟨i, hi, rfl⟩ := List.mem_map.1 hq
    rw [beq_iff_eq]
    exact h i (List.mem_range.1 hi)
theorem fl_dst {A k d s p x y : Nat} (hA : A < 4294967296) (hk : k ≤ 32) (h : HB d s p x y) : allB (fl A A 0 0 0 0 k) (hE d s p x y) = decide (d / sz k = A / sz k) := by
  have hh : HB A A 0 0 0 := ⟨hA, hA, by omega, by omega, by omega⟩
  rw [Bool.eq_iff_iff, allB_fl, decide_eq_true_eq]
  unfold sz
  rw [← bits_div (k := k) (n := 32 - k) (by rw [show k + (32 - k) = 32 by omega]; exact h.d) (by rw [show k + (32 - k) = 32 by omega]; exact hA)]
  refine forall_congr' fun i => forall_congr' fun hik => ?_
  rw [Nat.zero_add, show k + (32 - k) - 1 - i = 31 - i by omega]
  show bt d s p x y (i : Nat) = bt A A 0 0 0 (i : Nat) ↔ _
  rw [bt_dst h (by omega), bt_dst hh (by omega)]
theorem fl_src {A k d s p x y : Nat} (hA : A < 4294967296) (hk : k ≤ 32) (h : HB d s p x y) : allB (fl A A 0 0 0 32 k) (hE d s p x y) = decide (s / sz k = A / sz k) := by
  have hh : HB A A 0 0 0 := ⟨hA, hA, by omega, by omega, by omega⟩
  rw [Bool.eq_iff_iff, allB_fl, decide_eq_true_eq]
  unfold sz
  rw [← bits_div (k := k) (n := 32 - k) (by rw [show k + (32 - k) = 32 by omega]; exact h.s) (by rw [show k + (32 - k) = 32 by omega]; exact hA)]
  refine forall_congr' fun i => forall_congr' fun hik => ?_
  rw [show k + (32 - k) - 1 - i = 31 - i by omega]
  show bt d s p x y ((32 + i : Nat) : Int) = bt A A 0 0 0 ((32 + i : Nat) : Int) ↔ _
  rw [bt_src h (by omega), bt_src hh (by omega)]
theorem rg_sp {lo hi d s p x y : Nat} (hlo : lo < 65536) (hhi : hi < 65536) (h : HB d s p x y) : rgP 72 lo hi (hE d s p x y) = decide (lo ≤ x ∧ x ≤ hi) := by
  have hn := rn_le hlo hhi
  have hh : HB 0 0 0 lo lo := ⟨by omega, by omega, by omega, hlo, hlo⟩
  have hv := pval_val (hE d s p x y) 72 x (fun i hi => bt_sp h hi) (rn lo hi) hn
  rw [Bool.eq_iff_iff, decide_eq_true_eq, ← rs_port hlo hhi h.x hn (rn_div hlo hhi)]
  unfold rgP rsP bdP
  rw [hv, Bool.and_eq_true, Bool.and_eq_true, allB_fl, if_pos rfl, if_neg (by decide), decide_eq_true_eq, decide_eq_true_eq, and_assoc]
  refine and_congr_right fun _ => and_congr_right fun _ => ?_
  rw [← bits_div (k := 16 - rn lo hi) (n := rn lo hi) (by rw [show 16 - rn lo hi + rn lo hi = 16 by omega]; exact h.x) (by rw [show 16 - rn lo hi + rn lo hi = 16 by omega]; exact hlo)]
  refine forall_congr' fun i => forall_congr' fun hik => ?_
  rw [show 16 - rn lo hi + rn lo hi - 1 - i = 15 - i by omega]
  show bt d s p x y ((72 + i : Nat) : Int) = bt 0 0 0 lo lo ((72 + i : Nat) : Int) ↔ _
  rw [bt_sp h (by omega), bt_sp hh (by omega)]
theorem rg_dp {lo hi d s p x y : Nat} (hlo : lo < 65536) (hhi : hi < 65536) (h : HB d s p x y) : rgP 88 lo hi (hE d s p x y) = decide (lo ≤ y ∧ y ≤ hi) := by
  have hn := rn_le hlo hhi
  have hh : HB 0 0 0 lo lo := ⟨by omega, by omega, by omega, hlo, hlo⟩
  have hv := pval_val (hE d s p x y) 88 y (fun i hi => bt_dp h hi) (rn lo hi) hn
  rw [Bool.eq_iff_iff, decide_eq_true_eq, ← rs_port hlo hhi h.y hn (rn_div hlo hhi)]
  unfold rgP rsP bdP
  rw [hv, Bool.and_eq_true, Bool.and_eq_true, allB_fl, if_pos rfl, if_neg (by decide), decide_eq_true_eq, decide_eq_true_eq, and_assoc]
  refine and_congr_right fun _ => and_congr_right fun _ => ?_
  rw [← bits_div (k := 16 - rn lo hi) (n := rn lo hi) (by rw [show 16 - rn lo hi + rn lo hi = 16 by omega]; exact h.y) (by rw [show 16 - rn lo hi + rn lo hi = 16 by omega]; exact hlo)]
  refine forall_congr' fun i => forall_congr' fun hik => ?_
  rw [show 16 - rn lo hi + rn lo hi - 1 - i = 15 - i by omega]
  show bt d s p x y ((88 + i : Nat) : Int) = bt 0 0 0 lo lo ((88 + i : Nat) : Int) ↔ _
  rw [bt_dp h (by omega), bt_dp hh (by omega)]
end Go.Proofs.Ytggcbklififcgab
/- Parts of ranges and prefixes, bit by bit. No program in sight. -/
namespace Go.Proofs.Ytggcbklififcgab
set_option linter.unusedVariables false

theorem pval_bit (e : Env) (a : Nat) : ∀ n j, n ≤ 16 → j < n → (pval e a n).testBit j = e (a + 15 - j)
  | 0, j, _, h => by omega
  | n + 1, j, hn, h => by
    have hlt := pval_lt e a n
    have hs : pval e a (n + 1) = (if e (a + 15 - n) then 1 else 0) * 2 ^ n + pval e a n := by
      rw [pval_succ]; split <;> omega
    rw [hs, tb_two (i := j) hlt]
    split
    · rename_i q; exact pval_bit e a n j (by omega) q
    · have : j = n := by omega
      subst this
      rw [Nat.sub_self]
      cases e (a + 15 - j) <;> rfl
theorem rg_env {lo hi : Nat} (hlo : lo < 65536) (hhi : hi < 65536) (e : Env) : rgP 88 lo hi e = decide (lo ≤ pval e 88 16 ∧ pval e 88 16 ≤ hi) := by
  have hn := rn_le hlo hhi
  have hx : pval e 88 16 < 65536 := pval_lt e 88 16
  have hh : HB 0 0 0 lo lo := ⟨by omega, by omega, by omega, hlo, hlo⟩
  have hb : ∀ i, i < 16 → e (88 + i) = (pval e 88 16).testBit (15 - i) := fun i hi => by
    rw [pval_bit e 88 16 (15 - i) (by omega) (by omega), show 88 + 15 - (15 - i) = 88 + i by omega]
  have hv := pval_val e 88 _ hb (rn lo hi) hn
  generalize pval e 88 16 = v at hx hb hv
  rw [Bool.eq_iff_iff, decide_eq_true_eq, ← rs_port hlo hhi hx hn (rn_div hlo hhi)]
  unfold rgP rsP bdP
  rw [hv, Bool.and_eq_true, Bool.and_eq_true, allB_fl, if_pos rfl, if_neg (by decide), decide_eq_true_eq, decide_eq_true_eq, and_assoc]
  refine and_congr_right fun _ => and_congr_right fun _ => ?_
  rw [← bits_div (k := 16 - rn lo hi) (n := rn lo hi) (by rw [show 16 - rn lo hi + rn lo hi = 16 by omega]; exact hx) (by rw [show 16 - rn lo hi + rn lo hi = 16 by omega]; exact hlo)]
  refine forall_congr' fun i => forall_congr' fun hik => ?_
  rw [show 16 - rn lo hi + rn lo hi - 1 - i = 15 - i by omega, bt_dp hh (by omega), hb i (by omega)]
theorem rg_or {lo at_ hi : Nat} (hlo : lo < 65536) (hat : at_ < 65535) (hhi : hi < 65536) (h1 : lo ≤ at_) (h2 : at_ < hi) (e : Env) : opB 1 (rgP 88 lo at_ e) (rgP 88 (at_ + 1) hi e) = rgP 88 lo hi e := by
  rw [rg_env hlo (by omega), rg_env (by omega) hhi, rg_env hlo hhi]
  show (_ || _) = _
  rw [Bool.eq_iff_iff, Bool.or_eq_true, decide_eq_true_eq, decide_eq_true_eq, decide_eq_true_eq]
  omega
theorem rg_and {lo at_ hi : Nat} (hlo : lo < 65536) (hat : at_ < 65535) (hhi : hi < 65536) (e : Env) : opB 0 (rgP 88 lo at_ e) (rgP 88 (at_ + 1) hi e) = false := by
  rw [rg_env hlo (by omega), rg_env (by omega) hhi]
  show (_ && _) = _
  rw [Bool.and_eq_false_iff, decide_eq_false_iff_not, decide_eq_false_iff_not]
  omega
/-- A prefix's halves. -/
theorem half_bit {A k : Nat} (hk : k < 32) (hr : A % 2 ^ (32 - k) = 0) : A.testBit (31 - k) = false := by
  have := congrArg (fun z => z.testBit (31 - k)) hr
  simp only [Nat.testBit_mod_two_pow, Nat.zero_testBit] at this
  rw [decide_eq_true (by omega), Bool.true_and] at this
  exact this
theorem half_up {A k : Nat} (hk : k < 32) (hr : A % 2 ^ (32 - k) = 0) (j : Nat) : (A + 2 ^ (31 - k)).testBit j = if j = 31 - k then true else A.testBit j := by
  have h1 : A = (A / 2 ^ (32 - k)) * 2 ^ (32 - k) := by
    have := Nat.div_add_mod A (2 ^ (32 - k)); rw [hr] at this; rw [Nat.mul_comm]; omega
  generalize A / 2 ^ (32 - k) = q at h1
  have h2 : A + 2 ^ (31 - k) = q * 2 ^ (32 - k) + 2 ^ (31 - k) := by omega
  have hlt : 2 ^ (31 - k) < 2 ^ (32 - k) := Nat.pow_lt_pow_right (by omega) (by omega)
  have h3 : A = q * 2 ^ (32 - k) + 0 := by omega
  rw [h2, tb_two (i := j) hlt, Nat.testBit_two_pow, h3, tb_two (i := j) (Nat.two_pow_pos _), Nat.zero_testBit]
  by_cases c : j = 31 - k
  · subst c; rw [if_pos (by omega), if_pos rfl]; simp
  · rw [if_neg c]
    by_cases c2 : j < 32 - k
    · rw [if_pos c2, if_pos c2]; simp; omega
    · rw [if_neg c2, if_neg c2]
theorem fl_half {A k : Nat} (hA : A < 4294967296) (hk : k < 32) (hr : A % 2 ^ (32 - k) = 0) : fl (A + 2 ^ (31 - k)) (A + 2 ^ (31 - k)) 0 0 0 0 k = fl A A 0 0 0 0 k ∧ A + 2 ^ (31 - k) < 4294967296 := by
  have hlt : A + 2 ^ (31 - k) < 2 ^ 32 := by
    have h1 : A = (A / 2 ^ (32 - k)) * 2 ^ (32 - k) := by
      have := Nat.div_add_mod A (2 ^ (32 - k)); rw [hr] at this; rw [Nat.mul_comm]; omega
    have h2 : (2 : Nat) ^ 32 = 2 ^ k * 2 ^ (32 - k) := by rw [← Nat.pow_add]; congr 1; omega
    have h3 : A / 2 ^ (32 - k) < 2 ^ k := by
      rw [Nat.div_lt_iff_lt_mul (Nat.two_pow_pos _), ← h2]; exact hA
    have h4 : (A / 2 ^ (32 - k) + 1) * 2 ^ (32 - k) ≤ 2 ^ k * 2 ^ (32 - k) := Nat.mul_le_mul_right _ h3
    have h5 : 2 ^ (31 - k) < 2 ^ (32 - k) := Nat.pow_lt_pow_right (by omega) (by omega)
    rw [Nat.add_mul, Nat.one_mul, ← h1, ← h2] at h4
    omega
  refine ⟨?_, hlt⟩
  unfold fl
  refine List.map_congr_left fun i hi => ?_
  rw [List.mem_range] at hi
  have g1 : HB (A + 2 ^ (31 - k)) (A + 2 ^ (31 - k)) 0 0 0 := ⟨hlt, hlt, by omega, by omega, by omega⟩
  have g2 : HB A A 0 0 0 := ⟨hA, hA, by omega, by omega, by omega⟩
  rw [Nat.zero_add, bt_dst g1 (by omega), bt_dst g2 (by omega), half_up hk hr, if_neg (by omega)]
theorem allB_snoc (l : List (Nat × Bool)) (p : Nat × Bool) (e : Env) : allB (l ++ [p]) e = (allB l e && (e p.1 == p.2)) := by
  unfold allB; rw [List.all_append]; simp
theorem half_xor {A k : Nat} (hA : A < 4294967296) (hk : k < 32) (hr : A % 2 ^ (32 - k) = 0) (e : Env) :
    opB 2 (allB (fl A A 0 0 0 0 (k + 1)) e) (allB (fl (A + 2 ^ (31 - k)) (A + 2 ^ (31 - k)) 0 0 0 0 (k + 1)) e) = allB (fl A A 0 0 0 0 k) e := by
  obtain ⟨h1, h2⟩ := fl_half hA hk hr
  have g1 : HB (A + 2 ^ (31 - k)) (A + 2 ^ (31 - k)) 0 0 0 := ⟨h2, h2, by omega, by omega, by omega⟩
  have g2 : HB A A 0 0 0 := ⟨hA, hA, by omega, by omega, by omega⟩
  rw [fl_succ, fl_succ, h1, allB_snoc, allB_snoc]
  simp only [Nat.zero_add]
  rw [bt_dst g1 hk, bt_dst g2 hk, half_up hk hr, if_pos rfl, half_bit hk hr]
  show (_ != _) = _
  cases allB (fl A A 0 0 0 0 k) e <;> cases e k <;> rfl
end Go.Proofs.Ytggcbklififcgab
/- EncParts's walk. -/
namespace Go.Proofs.Ytggcbklififcgab
open Go.RowKit
set_option linter.unusedVariables false

/-- Two blocks that a law's arguments lie in. -/
def Fx2 (W : World) (cr cp : List Value) (V : World) : Prop := Blk V W.heap.size cr ∧ Blk V (W.heap.size + 1) cp ∧ Below W.heap.size W V ∧ W.heap.size + 2 ≤ V.heap.size
theorem Fx2.on {W V V' : World} {cp cr : List Value} (h : Fx2 W cr cp V) (hb : Below V.heap.size V V') : Fx2 W cr cp V' := by
  obtain ⟨h1, h2, h4, h5⟩ := h
  exact ⟨h1.on hb, h2.on hb, bel_on' h4 hb, by have := hb.size; omega⟩
theorem Fx2.hold {Z : Nat → Prop} {W V V' : World} {cp cr : List Value} (h : Fx2 W cr cp V) (hH : Hold Z V V') (hz : ∀ k, k < W.heap.size + 2 → Z k) : Fx2 W cr cp V' := by
  obtain ⟨h1, h2, h4, h5⟩ := h
  exact ⟨h1.hold hH (hz _ (by omega)), h2.hold hH (hz _ (by omega)), h4.trans (hH.below (by omega) (fun k hk => hz k (by omega))), by have := hH.size; omega⟩
theorem or_u32 (a b : Nat) (ha : a < 4294967296) (hb : b < 4294967296) : bits .or .u32 (a : Int) (b : Int) = ((a ||| b : Nat) : Int) := by
  have h : a ||| b < 2 ^ 32 := Nat.or_lt_two_pow (n := 32) ha hb
  unfold bits
  have e : (BitVec.ofInt 32 (a : Int) ||| BitVec.ofInt 32 (b : Int)).toNat = a ||| b := by
    rw [BitVec.ofInt_natCast, BitVec.ofInt_natCast, BitVec.toNat_or, BitVec.toNat_ofNat, BitVec.toNat_ofNat, Nat.mod_eq_of_lt (by omega), Nat.mod_eq_of_lt (by omega)]
  show IntKind.u32.wrap (((BitVec.ofInt 32 (a : Int) ||| BitVec.ofInt 32 (b : Int)).toNat : Nat) : Int) = _
  rw [e, IntKind.wrap_u32]
  omega
theorem or_half {A k : Nat} (hk : k < 32) (hr : A % 2 ^ (32 - k) = 0) : A ||| 2 ^ (31 - k) = A + 2 ^ (31 - k) := by
  apply Nat.eq_of_testBit_eq
  intro j
  rw [half_up hk hr, Nat.testBit_or, Nat.testBit_two_pow]
  by_cases c : j = 31 - k
  · subst c; simp
  · rw [if_neg c]; simp; omega
set_option maxRecDepth 100000 in
set_option maxHeartbeats 4000000 in
theorem ep_gt (lo hi at_ A : Nat) (n : Int) (h : (hi : Int) < (lo : Int)) (W : World) :
    Calls Try.prog 6 #[.agg #[.int .u16 (lo : Nat), .int .u16 (hi : Nat)], .int .u16 (at_ : Nat), pv A n] W fun e w' => e = .returned (.bool true) ∧ Below W.heap.size W w' := by
  have CW := Lib.hid (fun w => awake_any w)
  go_enter Try.func6, Try.ntmps6
  go_upto_region 1 with fail
  refine at_code (S := Fx2 W [.int .u16 (lo : Nat), .int .u16 (hi : Nat)] [.int .u32 (A : Nat), .int .i64 n]) ⟨?_, ?_, bel_al (bel_al (Below.refl _ _) _) _, by simp⟩ (fun W1 hW => ?_)
  · exact (Blk.new W _ [.int .u16 (lo : Nat), .int .u16 (hi : Nat)]).on (bel_al (Below.refl _ _) _)
  · have k := Blk.new (W.alloc (.cells #[.int .u16 (lo : Nat), .int .u16 (hi : Nat)] 27)) 24 [.int .u32 (A : Nat), .int .i64 n]
    rw [World.size_alloc] at k
    exact k
  have X1 := Lib.hid hW
  obtain ⟨r_0, r_1⟩ : _ ∧ _ := ⟨X1.out.1.1 0 _ rfl, X1.out.1.1 1 _ rfl⟩
  obtain ⟨p_0, p_1⟩ : _ ∧ _ := ⟨X1.out.2.1.1 0 _ rfl, X1.out.2.1.1 1 _ rfl⟩
  clear hW
  go_wp2_with fail
  refine (CW.out _).mono ?_
  rintro e wa ⟨rfl, hbx⟩
  have FIN := Lib.hid (bel_on' X1.out.2.2.1 hbx)
  clear hbx
  go_wp2
  go_ret
  exact ⟨rfl, FIN.out⟩
set_option maxRecDepth 100000 in
set_option maxHeartbeats 4000000 in
theorem ep_low (lo hi at_ A : Nat) (n : Int) (h1 : ¬ (hi : Int) < (lo : Int)) (h : (at_ : Int) < (lo : Int)) (W : World) :
    Calls Try.prog 6 #[.agg #[.int .u16 (lo : Nat), .int .u16 (hi : Nat)], .int .u16 (at_ : Nat), pv A n] W fun e w' => e = .returned (.bool true) ∧ Below W.heap.size W w' := by
  have CW := Lib.hid (fun w => awake_any w)
  go_enter Try.func6, Try.ntmps6
  go_upto_region 1 with fail
  refine at_code (S := Fx2 W [.int .u16 (lo : Nat), .int .u16 (hi : Nat)] [.int .u32 (A : Nat), .int .i64 n]) ⟨?_, ?_, bel_al (bel_al (Below.refl _ _) _) _, by simp⟩ (fun W1 hW => ?_)
  · exact (Blk.new W _ [.int .u16 (lo : Nat), .int .u16 (hi : Nat)]).on (bel_al (Below.refl _ _) _)
  · have k := Blk.new (W.alloc (.cells #[.int .u16 (lo : Nat), .int .u16 (hi : Nat)] 27)) 24 [.int .u32 (A : Nat), .int .i64 n]
    rw [World.size_alloc] at k
    exact k
  have X1 := Lib.hid hW
  obtain ⟨r_0, r_1⟩ : _ ∧ _ := ⟨X1.out.1.1 0 _ rfl, X1.out.1.1 1 _ rfl⟩
  obtain ⟨p_0, p_1⟩ : _ ∧ _ := ⟨X1.out.2.1.1 0 _ rfl, X1.out.2.1.1 1 _ rfl⟩
  clear hW
  go_wp2_with fail
  refine (CW.out _).mono ?_
  rintro e wa ⟨rfl, hbx⟩
  have FIN := Lib.hid (bel_on' X1.out.2.2.1 hbx)
  clear hbx
  go_wp2
  go_ret
  exact ⟨rfl, FIN.out⟩
set_option maxRecDepth 100000 in
set_option maxHeartbeats 4000000 in
theorem ep_high (lo hi at_ A : Nat) (n : Int) (h1 : ¬ (hi : Int) < (lo : Int)) (h2 : ¬ (at_ : Int) < (lo : Int)) (h : (hi : Int) ≤ (at_ : Int)) (W : World) :
    Calls Try.prog 6 #[.agg #[.int .u16 (lo : Nat), .int .u16 (hi : Nat)], .int .u16 (at_ : Nat), pv A n] W fun e w' => e = .returned (.bool true) ∧ Below W.heap.size W w' := by
  have CW := Lib.hid (fun w => awake_any w)
  go_enter Try.func6, Try.ntmps6
  go_upto_region 1 with fail
  refine at_code (S := Fx2 W [.int .u16 (lo : Nat), .int .u16 (hi : Nat)] [.int .u32 (A : Nat), .int .i64 n]) ⟨?_, ?_, bel_al (bel_al (Below.refl _ _) _) _, by simp⟩ (fun W1 hW => ?_)
  · exact (Blk.new W _ [.int .u16 (lo : Nat), .int .u16 (hi : Nat)]).on (bel_al (Below.refl _ _) _)
  · have k := Blk.new (W.alloc (.cells #[.int .u16 (lo : Nat), .int .u16 (hi : Nat)] 27)) 24 [.int .u32 (A : Nat), .int .i64 n]
    rw [World.size_alloc] at k
    exact k
  have X1 := Lib.hid hW
  obtain ⟨r_0, r_1⟩ : _ ∧ _ := ⟨X1.out.1.1 0 _ rfl, X1.out.1.1 1 _ rfl⟩
  obtain ⟨p_0, p_1⟩ : _ ∧ _ := ⟨X1.out.2.1.1 0 _ rfl, X1.out.2.1.1 1 _ rfl⟩
  clear hW
  go_wp2_with fail
  refine (CW.out _).mono ?_
  rintro e wa ⟨rfl, hbx⟩
  have FIN := Lib.hid (bel_on' X1.out.2.2.1 hbx)
  clear hbx
  go_wp2
  go_ret
  exact ⟨rfl, FIN.out⟩
set_option maxRecDepth 100000 in
set_option maxHeartbeats 4000000 in
theorem ep_wrong (lo hi at_ A : Nat) (n : Int) (h1 : ¬ (hi : Int) < (lo : Int)) (h2 : ¬ (at_ : Int) < (lo : Int)) (h3 : ¬ (hi : Int) ≤ (at_ : Int)) (W : World)
    (CRi : Hid (∀ w, Calls Try.prog 11 #[pv A n] w fun e w' => e = .returned (.bool false) ∧ Below w.heap.size w w')) :
    Calls Try.prog 6 #[.agg #[.int .u16 (lo : Nat), .int .u16 (hi : Nat)], .int .u16 (at_ : Nat), pv A n] W fun e w' => e = .returned (.bool true) ∧ Below W.heap.size W w' := by
  have CW := Lib.hid (fun w => awake_any w)
  go_enter Try.func6, Try.ntmps6
  go_upto_region 1 with fail
  refine at_code (S := Fx2 W [.int .u16 (lo : Nat), .int .u16 (hi : Nat)] [.int .u32 (A : Nat), .int .i64 n]) ⟨?_, ?_, bel_al (bel_al (Below.refl _ _) _) _, by simp⟩ (fun W1 hW => ?_)
  · exact (Blk.new W _ [.int .u16 (lo : Nat), .int .u16 (hi : Nat)]).on (bel_al (Below.refl _ _) _)
  · have k := Blk.new (W.alloc (.cells #[.int .u16 (lo : Nat), .int .u16 (hi : Nat)] 27)) 24 [.int .u32 (A : Nat), .int .i64 n]
    rw [World.size_alloc] at k
    exact k
  have X1 := Lib.hid hW
  obtain ⟨r_0, r_1⟩ : _ ∧ _ := ⟨X1.out.1.1 0 _ rfl, X1.out.1.1 1 _ rfl⟩
  obtain ⟨p_0, p_1⟩ : _ ∧ _ := ⟨X1.out.2.1.1 0 _ rfl, X1.out.2.1.1 1 _ rfl⟩
  clear hW
  go_wp2_with fail
  refine (CRi.out _).mono ?_
  rintro e w2 ⟨rfl, hb⟩
  have X2 := Lib.hid (X1.out.on hb)
  clear p_0 p_1 r_0 r_1
  obtain ⟨p_0, p_1⟩ : _ ∧ _ := ⟨X2.out.2.1.1 0 _ rfl, X2.out.2.1.1 1 _ rfl⟩
  clear hb CRi X1
  go_wp2_with fail
  refine (CW.out _).mono ?_
  rintro e wa ⟨rfl, hbx⟩
  have FIN := Lib.hid (bel_on' X2.out.2.2.1 hbx)
  clear hbx
  go_wp2
  go_ret
  exact ⟨rfl, FIN.out⟩
set_option maxRecDepth 100000 in
set_option maxHeartbeats 4000000 in
theorem ep_full (lo hi at_ A : Nat) (h1 : ¬ (hi : Int) < (lo : Int)) (h2 : ¬ (at_ : Int) < (lo : Int)) (h3 : ¬ (hi : Int) ≤ (at_ : Int)) (W : World)
    (CRi : Hid (∀ w, Calls Try.prog 11 #[pv A 32] w fun e w' => e = .returned (.bool true) ∧ Below w.heap.size w w')) :
    Calls Try.prog 6 #[.agg #[.int .u16 (lo : Nat), .int .u16 (hi : Nat)], .int .u16 (at_ : Nat), pv A 32] W fun e w' => e = .returned (.bool true) ∧ Below W.heap.size W w' := by
  have CW := Lib.hid (fun w => awake_any w)
  go_enter Try.func6, Try.ntmps6
  go_upto_region 1 with fail
  refine at_code (S := Fx2 W [.int .u16 (lo : Nat), .int .u16 (hi : Nat)] [.int .u32 (A : Nat), .int .i64 32]) ⟨?_, ?_, bel_al (bel_al (Below.refl _ _) _) _, by simp⟩ (fun W1 hW => ?_)
  · exact (Blk.new W _ [.int .u16 (lo : Nat), .int .u16 (hi : Nat)]).on (bel_al (Below.refl _ _) _)
  · have k := Blk.new (W.alloc (.cells #[.int .u16 (lo : Nat), .int .u16 (hi : Nat)] 27)) 24 [.int .u32 (A : Nat), .int .i64 32]
    rw [World.size_alloc] at k
    exact k
  have X1 := Lib.hid hW
  obtain ⟨r_0, r_1⟩ : _ ∧ _ := ⟨X1.out.1.1 0 _ rfl, X1.out.1.1 1 _ rfl⟩
  obtain ⟨p_0, p_1⟩ : _ ∧ _ := ⟨X1.out.2.1.1 0 _ rfl, X1.out.2.1.1 1 _ rfl⟩
  clear hW
  go_wp2_with fail
  refine (CRi.out _).mono ?_
  rintro e w2 ⟨rfl, hb⟩
  have X2 := Lib.hid (X1.out.on hb)
  clear p_0 p_1 r_0 r_1
  obtain ⟨p_0, p_1⟩ : _ ∧ _ := ⟨X2.out.2.1.1 0 _ rfl, X2.out.2.1.1 1 _ rfl⟩
  clear hb CRi X1
  go_wp2_with fail
  refine (CW.out _).mono ?_
  rintro e wa ⟨rfl, hbx⟩
  have FIN := Lib.hid (bel_on' X2.out.2.2.1 hbx)
  clear hbx
  go_wp2
  go_ret
  exact ⟨rfl, FIN.out⟩
end Go.Proofs.Ytggcbklififcgab
/- EncParts's walk. -/
namespace Go.Proofs.Ytggcbklififcgab
open Go.RowKit
set_option linter.unusedVariables false

set_option maxRecDepth 100000 in
set_option maxHeartbeats 16000000 in
theorem ep_main {P1 : Nat → List Nd → Prop} {P2 : Nat → Nat → List Nd → Prop} {P3 P4 : Nat → Nat → Nat → List Nd → Prop} {P5 : List Nd → Prop} {P6 : Nat → List Nd → Prop} {P7 : Nat → Nat → List Nd → Prop} {P8 : Nat → Nat → Nat → List Nd → Prop}
    (lo hi at_ A k A' : Nat) (h1 : ¬ (hi : Int) < (lo : Int)) (h2 : ¬ (at_ : Int) < (lo : Int)) (h3 : ¬ (hi : Int) ≤ (at_ : Int)) (hlo : lo < 65536) (hhi : hi < 65536) (hA : A < 4294967296) (hk : k < 32) (hor : bits .or .u32 (A : Int) (IntKind.u32.wrap ((2 : Int) ^ (31 - k))) = (A' : Nat)) (W : World)
    (CRi : Hid (∀ w, Calls Try.prog 11 #[pv A (k : Nat)] w fun e w' => e = .returned (.bool true) ∧ Below w.heap.size w w'))
    (C1 : Hid (∀ (Z : Nat → Prop) (p : Nat) (w : World), Sta Z p w 262144 [bot, top] → Calls Try.prog 15 #[.pointer (some ⟨p, 0, none⟩), .int .i64 88, .agg #[.int .u16 (lo : Nat), .int .u16 (hi : Nat)]] w fun e w' => ∃ (g : Nat) (ns' : List Nd), e = .returned (.tuple #[.int .i64 (g : Nat), .int .i64 0]) ∧ Sta Z p w' 262144 ns' ∧ Hold Z w w' ∧ P1 g ns'))
    (C2 : Hid (∀ (Z : Nat → Prop) (p : Nat) (w : World) (g1 : Nat) (ns : List Nd), P1 g1 ns → Sta Z p w 262144 ns → Calls Try.prog 15 #[.pointer (some ⟨p, 0, none⟩), .int .i64 88, .agg #[.int .u16 (lo : Nat), .int .u16 (at_ : Nat)]] w fun e w' => ∃ (g : Nat) (ns' : List Nd), e = .returned (.tuple #[.int .i64 (g : Nat), .int .i64 0]) ∧ Sta Z p w' 262144 ns' ∧ Hold Z w w' ∧ P2 g1 g ns'))
    (C3 : Hid (∀ (Z : Nat → Prop) (p : Nat) (w : World) (g1 g2 : Nat) (ns : List Nd), P2 g1 g2 ns → Sta Z p w 262144 ns → Calls Try.prog 15 #[.pointer (some ⟨p, 0, none⟩), .int .i64 88, .agg #[.int .u16 ((at_ + 1 : Nat) : Int), .int .u16 (hi : Nat)]] w fun e w' => ∃ (g : Nat) (ns' : List Nd), e = .returned (.tuple #[.int .i64 (g : Nat), .int .i64 0]) ∧ Sta Z p w' 262144 ns' ∧ Hold Z w w' ∧ P3 g1 g2 g ns'))
    (C4 : Hid (∀ (Z : Nat → Prop) (p : Nat) (w : World) (g1 g2 g3 : Nat) (ns : List Nd), P3 g1 g2 g3 ns → Sta Z p w 262144 ns → Calls Try.prog 22 #[.pointer (some ⟨p, 0, none⟩), .int .i64 1, .int .i64 (g2 : Nat), .int .i64 (g3 : Nat)] w fun e w' => ∃ (ns' : List Nd), e = .returned (.tuple #[.int .i64 (g1 : Nat), .int .i64 0]) ∧ Sta Z p w' 262144 ns' ∧ Hold Z w w' ∧ P4 g1 g2 g3 ns'))
    (C5 : Hid (∀ (Z : Nat → Prop) (p : Nat) (w : World) (g1 g2 g3 : Nat) (ns : List Nd), P4 g1 g2 g3 ns → Sta Z p w 262144 ns → Calls Try.prog 22 #[.pointer (some ⟨p, 0, none⟩), .int .i64 0, .int .i64 (g2 : Nat), .int .i64 (g3 : Nat)] w fun e w' => ∃ (ns' : List Nd), e = .returned (.tuple #[.int .i64 0, .int .i64 0]) ∧ Sta Z p w' 262144 ns' ∧ Hold Z w w' ∧ P5 ns'))
    (C6 : Hid (∀ (Z : Nat → Prop) (p : Nat) (w : World) (ns : List Nd), P5 ns → Sta Z p w 262144 ns → Calls Try.prog 10 #[.pointer (some ⟨p, 0, none⟩), .int .i64 0, pv A (k : Nat)] w fun e w' => ∃ (g : Nat) (ns' : List Nd), e = .returned (.tuple #[.int .i64 (g : Nat), .int .i64 0]) ∧ Sta Z p w' 262144 ns' ∧ Hold Z w w' ∧ P6 g ns'))
    (C7 : Hid (∀ (Z : Nat → Prop) (p : Nat) (w : World) (g6 : Nat) (ns : List Nd), P6 g6 ns → Sta Z p w 262144 ns → Calls Try.prog 10 #[.pointer (some ⟨p, 0, none⟩), .int .i64 0, pv A ((k + 1 : Nat) : Int)] w fun e w' => ∃ (g : Nat) (ns' : List Nd), e = .returned (.tuple #[.int .i64 (g : Nat), .int .i64 0]) ∧ Sta Z p w' 262144 ns' ∧ Hold Z w w' ∧ P7 g6 g ns'))
    (C8 : Hid (∀ (Z : Nat → Prop) (p : Nat) (w : World) (g6 g7 : Nat) (ns : List Nd), P7 g6 g7 ns → Sta Z p w 262144 ns → Calls Try.prog 10 #[.pointer (some ⟨p, 0, none⟩), .int .i64 0, pv A' ((k + 1 : Nat) : Int)] w fun e w' => ∃ (g : Nat) (ns' : List Nd), e = .returned (.tuple #[.int .i64 (g : Nat), .int .i64 0]) ∧ Sta Z p w' 262144 ns' ∧ Hold Z w w' ∧ P8 g6 g7 g ns'))
    (C9 : Hid (∀ (Z : Nat → Prop) (p : Nat) (w : World) (g6 g7 g8 : Nat) (ns : List Nd), P8 g6 g7 g8 ns → Sta Z p w 262144 ns → Calls Try.prog 22 #[.pointer (some ⟨p, 0, none⟩), .int .i64 2, .int .i64 (g7 : Nat), .int .i64 (g8 : Nat)] w fun e w' => ∃ (ns' : List Nd), e = .returned (.tuple #[.int .i64 (g6 : Nat), .int .i64 0]) ∧ Sta Z p w' 262144 ns' ∧ Hold Z w w' ∧ True)) :
    Calls Try.prog 6 #[.agg #[.int .u16 (lo : Nat), .int .u16 (hi : Nat)], .int .u16 (at_ : Nat), pv A (k : Nat)] W fun e w' => e = .returned (.bool true) ∧ Below W.heap.size W w' := by
  have CN := Lib.hid (fun w => sNew 262144 (by omega) (by omega) w)
  have CW := Lib.hid (fun w => awake_any w)
  have HOR := Lib.hid hor
  clear hor
  have hk32 : ¬ (k : Int) = 32 := by omega
  go_enter Try.func6, Try.ntmps6
  go_upto_region 1 with fail
  refine at_code (S := Fx2 W [.int .u16 (lo : Nat), .int .u16 (hi : Nat)] [.int .u32 (A : Nat), .int .i64 (k : Nat)]) ⟨?_, ?_, bel_al (bel_al (Below.refl _ _) _) _, by simp⟩ (fun W1 hW => ?_)
  · exact (Blk.new W _ [.int .u16 (lo : Nat), .int .u16 (hi : Nat)]).on (bel_al (Below.refl _ _) _)
  · have k := Blk.new (W.alloc (.cells #[.int .u16 (lo : Nat), .int .u16 (hi : Nat)] 27)) 24 [.int .u32 (A : Nat), .int .i64 (k : Nat)]
    rw [World.size_alloc] at k
    exact k
  have X1 := Lib.hid hW
  obtain ⟨r_0, r_1⟩ : _ ∧ _ := ⟨X1.out.1.1 0 _ rfl, X1.out.1.1 1 _ rfl⟩
  obtain ⟨p_0, p_1⟩ : _ ∧ _ := ⟨X1.out.2.1.1 0 _ rfl, X1.out.2.1.1 1 _ rfl⟩
  clear hW
  go_wp2_with fail
  refine (CRi.out _).mono ?_
  rintro e w2 ⟨rfl, hb⟩
  have X2 := Lib.hid (X1.out.on hb)
  clear p_0 p_1 r_0 r_1 hb CRi X1
  obtain ⟨p_0, p_1⟩ : _ ∧ _ := ⟨X2.out.2.1.1 0 _ rfl, X2.out.2.1.1 1 _ rfl⟩
  go_wp2_with fail
  refine (CN.out _).mono ?_
  rintro e w3 ⟨p, rfl, hS, hb⟩
  obtain ⟨Z, hZ⟩ : ∃ Z : Nat → Prop, (fun k => k < w2.heap.size) = Z := ⟨_, rfl⟩
  rw [hZ] at hS
  have HZ : Hid (∀ k, k < W.heap.size + 2 → Z k) := Lib.hid (by rw [← hZ]; intro k hk; have := X2.out.2.2.2; show k < w2.heap.size; omega)
  have S3 := Lib.hid hS
  have X3 := Lib.hid (X2.out.on hb)
  clear hS hb CN hZ X2 p_0 p_1
  obtain ⟨r_0, r_1⟩ : _ ∧ _ := ⟨X3.out.1.1 0 _ rfl, X3.out.1.1 1 _ rfl⟩
  go_wp2_with fail
  refine (C1.out Z p w3 S3.out).mono ?_
  rintro e w4 ⟨g1, ns3, rfl, hS, hH, hQ⟩
  have S4 := Lib.hid hS
  have X4 := Lib.hid (X3.out.hold hH HZ.out)
  have Q3 := Lib.hid hQ
  clear hS hH hQ C1 S3 X3
  clear r_0 r_1
  obtain ⟨r_0, r_1⟩ : _ ∧ _ := ⟨X4.out.1.1 0 _ rfl, X4.out.1.1 1 _ rfl⟩
  go_wp2_with fail
  refine (C2.out Z p w4 g1 ns3 Q3.out S4.out).mono ?_
  rintro e w5 ⟨g2, ns4, rfl, hS, hH, hQ⟩
  have S5 := Lib.hid hS
  have X5 := Lib.hid (X4.out.hold hH HZ.out)
  have Q4 := Lib.hid hQ
  clear hS hH hQ C2 S4 X4
  clear r_0 r_1
  obtain ⟨r_0, r_1⟩ : _ ∧ _ := ⟨X5.out.1.1 0 _ rfl, X5.out.1.1 1 _ rfl⟩
  go_wp2_with fail
  refine (C3.out Z p w5 g1 g2 ns4 Q4.out S5.out).mono ?_
  rintro e w6 ⟨g3, ns5, rfl, hS, hH, hQ⟩
  have S6 := Lib.hid hS
  have X6 := Lib.hid (X5.out.hold hH HZ.out)
  have Q5 := Lib.hid hQ
  clear hS hH hQ C3 S5 X5
  clear r_0 r_1
  go_wp2_with fail
  refine (C4.out Z p w6 g1 g2 g3 ns5 Q5.out S6.out).mono ?_
  rintro e w7 ⟨ns6, rfl, hS, hH, hQ⟩
  have S7 := Lib.hid hS
  have X7 := Lib.hid (X6.out.hold hH HZ.out)
  have Q6 := Lib.hid hQ
  clear hS hH hQ C4 S6 X6
  go_wp2_with fail
  refine (C5.out Z p w7 g1 g2 g3 ns6 Q6.out S7.out).mono ?_
  rintro e w8 ⟨ns7, rfl, hS, hH, hQ⟩
  have S8 := Lib.hid hS
  have X8 := Lib.hid (X7.out.hold hH HZ.out)
  have Q7 := Lib.hid hQ
  clear hS hH hQ C5 S7 X7
  obtain ⟨p_0, p_1⟩ : _ ∧ _ := ⟨X8.out.2.1.1 0 _ rfl, X8.out.2.1.1 1 _ rfl⟩
  go_wp2_with fail
  refine (C6.out Z p w8 ns7 Q7.out S8.out).mono ?_
  rintro e w9 ⟨g6, ns8, rfl, hS, hH, hQ⟩
  have S9 := Lib.hid hS
  have X9 := Lib.hid (X8.out.hold hH HZ.out)
  have Q8 := Lib.hid hQ
  clear hS hH hQ C6 S8 X8
  clear p_0 p_1
  obtain ⟨p_0, p_1⟩ : _ ∧ _ := ⟨X9.out.2.1.1 0 _ rfl, X9.out.2.1.1 1 _ rfl⟩
  go_wp2_with fail
  refine (C7.out Z p w9 g6 ns8 Q8.out S9.out).mono ?_
  rintro e w10 ⟨g7, ns9, rfl, hS, hH, hQ⟩
  have S10 := Lib.hid hS
  have X10 := Lib.hid (X9.out.hold hH HZ.out)
  have Q9 := Lib.hid hQ
  clear hS hH hQ C7 S9 X9
  clear p_0 p_1
  obtain ⟨p_0, p_1⟩ : _ ∧ _ := ⟨X10.out.2.1.1 0 _ rfl, X10.out.2.1.1 1 _ rfl⟩
  have h31 : (31 : Int) - (k : Int) = ((31 - k : Nat) : Int) := by omega
  have hw31 : IntKind.i64.wrap ((31 - k : Nat) : Int) = ((31 - k : Nat) : Int) := by rw [IntKind.wrap_i64]; omega
  have hwk1 : IntKind.i64.wrap ((k : Int) + 1) = ((k + 1 : Nat) : Int) := by rw [IntKind.wrap_i64]; omega
  have hor := HOR.out
  go_upto_region 15 with fail
  refine wp_region_noPanic ?_
  refine wp_region_along (S := fun V => V.cell? ⟨W.heap.size + 1, 0, none⟩ = some (.int .u32 (A : Nat)) ∧ V.cell? ⟨W.heap.size + 1, 1, none⟩ = some (.int .i64 (k : Nat))) ([(0, true), (1, true), (2, true), (3, true), (4, true), (5, true), (6, true), (7, true), (8, true), (9, true), (10, true), (11, true), (12, false), (13, true), (14, true), (15, true)] ++ ([(16, true), (17, true)])) (by kernel_rfl) (by as_aux_lemma => kernel_rfl) (by kernel_rfl) (by kernel_rfl) (alongPre_append _ _ _ (by as_aux_lemma => kernel_rfl) (by as_aux_lemma => kernel_rfl)) (by as_aux_lemma => kernel_rfl) (fun _ _ _ _ _ h => h) ⟨p_0, p_1⟩ (fun hH => ?_)
  simp only [List.cons_append, List.nil_append, stepsOf, pickOp]
  iterate 12 (first | (refine along_skip (by rfl) ?_; try simp only [Act.put, List.setIfInBounds_toArray, List.set_cons_zero, List.set_cons_succ]) | (refine along_pure ?_ (by rfl) (fun w hSw => ?_) ?_; rotate_left; ((try dsimp only at hSw); go_simp; try with_reducible rfl); try simp only [Act.put, List.setIfInBounds_toArray, List.set_cons_zero, List.set_cons_succ]))
  refine along_bar (fun K hK => ?_)
  go_simp
  refine (C8.out Z p w10.drew g6 g7 ns9 Q9.out (S10.out.on (Below.refl _ _).drew)).mono ?_
  rintro e w11 ⟨g8, ns10, rfl, hS, hH8, hQ⟩
  try go_wp2_with fail
  refine hK.out _ _ ⟨hH8.cell (HZ.out _ (by omega)) hH.1, hH8.cell (HZ.out _ (by omega)) hH.2⟩ (fun hH' => ?_)
  clear hK K hH
  have hH := hH'
  clear hH'
  have S11 := Lib.hid hS
  have X11 := Lib.hid ((X10.out.on (Below.refl _ _).drew).hold hH8 HZ.out)
  have Q10 := Lib.hid hQ
  clear hS hH8 hQ C8 S10 X10
  try simp only [Act.put, List.setIfInBounds_toArray, List.set_cons_zero, List.set_cons_succ]
  iterate 5 (first | (refine along_skip (by rfl) ?_; try simp only [Act.put, List.setIfInBounds_toArray, List.set_cons_zero, List.set_cons_succ]) | (refine along_pure ?_ (by rfl) (fun w hSw => ?_) ?_; rotate_left; ((try dsimp only at hSw); go_simp; try with_reducible rfl); try simp only [Act.put, List.setIfInBounds_toArray, List.set_cons_zero, List.set_cons_succ]))
  refine along_end (NoPanic.normal ?_)
  clear hH p_0 p_1 hor h31 hw31 hwk1
  go_wp2_with fail
  refine (C9.out Z p w11 g6 g7 g8 ns10 Q10.out S11.out).mono ?_
  rintro e w12 ⟨ns11, rfl, hS, hH, hQ⟩
  have X12 := Lib.hid (X11.out.hold hH HZ.out)
  clear hS hH hQ C9 S11 X11
  go_wp2_with fail
  refine (CW.out _).mono ?_
  rintro e wa ⟨rfl, hbx⟩
  have FIN := Lib.hid (bel_on' X12.out.2.2.1 hbx)
  clear hbx
  go_wp2
  go_ret
  exact ⟨rfl, FIN.out⟩
end Go.Proofs.Ytggcbklififcgab
/- EncFields's walk, way by way. -/
namespace Go.Proofs.Ytggcbklififcgab
open Go.RowKit
set_option linter.unusedVariables false

set_option maxRecDepth 100000 in
set_option maxHeartbeats 8000000 in
theorem ef_bad {PP PR : Nat → List Nd → Prop} (f : Int) (A : Nat) (n : Int) (lo hi d s q x y xa yb : Nat)  (W : World)
    (CA : Hid (∀ w, Calls Try.prog 9 #[hv d s q x y, .int .i64 f] w fun e w' => e = .returned (.tuple #[.int .u32 (xa : Nat), .bool true]) ∧ Below w.heap.size w w'))
    (CB : Hid (∀ w, Calls Try.prog 14 #[hv d s q x y, .int .i64 f] w fun e w' => e = .returned (.tuple #[.int .u16 (yb : Nat), .bool false]) ∧ Below w.heap.size w w'))
    (CPx : Hid (∀ Z p w, Sta Z p w 262144 [bot, top] → Calls Try.prog 10 #[.pointer (some ⟨p, 0, none⟩), .int .i64 f, pv A n] w fun e w' => ∃ (g : Nat) (ns1 : List Nd), e = .returned (.tuple #[.int .i64 (g : Nat), .int .i64 13]) ∧ Sta Z p w' 262144 ns1 ∧ Hold Z w w' ∧ PP g ns1))
    (CRg : Hid (∀ Z p w g ns1, PP g ns1 → Sta Z p w 262144 ns1 → Calls Try.prog 15 #[.pointer (some ⟨p, 0, none⟩), .int .i64 f, .agg #[.int .u16 (lo : Nat), .int .u16 (hi : Nat)]] w fun e w' => ∃ (g : Nat) (ns2 : List Nd), e = .returned (.tuple #[.int .i64 (g : Nat), .int .i64 1]) ∧ Sta Z p w' 262144 ns2 ∧ Hold Z w w' ∧ PR g ns2))
    (CRi : Hid (∀ w, Calls Try.prog 11 #[pv A n] w fun e w' => e = .returned (.bool false) ∧ Below w.heap.size w w')) :
    Calls Try.prog 3 #[.int .i64 f, pv A n, .agg #[.int .u16 (lo : Nat), .int .u16 (hi : Nat)], hv d s q x y] W fun e w' => e = .returned (.bool true) ∧ Below W.heap.size W w' := by
  have CN := Lib.hid (fun w => sNew 262144 (by omega) (by omega) w)
  have CW := Lib.hid (fun w => awake_any w)
  go_enter Try.func3, Try.ntmps3
  go_upto_region 1 with fail
  refine at_code (S := Fx W [.int .u32 (A : Nat), .int .i64 n] [.int .u16 (lo : Nat), .int .u16 (hi : Nat)] [.int .u32 (d : Nat), .int .u32 (s : Nat), .int .u8 (q : Nat), .int .u16 (x : Nat), .int .u16 (y : Nat)]) ⟨?_, ?_, ?_, bel_al (bel_al (bel_al (Below.refl _ _) _) _) _, by simp⟩ (fun W1 hW => ?_)
  · exact (Blk.new W _ [.int .u32 (A : Nat), .int .i64 n]).on (bel_al (bel_al (Below.refl _ _) _) _)
  · have k := Blk.new (W.alloc (.cells #[.int .u32 (A : Nat), .int .i64 n] 24)) 27 [.int .u16 (lo : Nat), .int .u16 (hi : Nat)]
    rw [World.size_alloc] at k
    exact k.on (bel_al (Below.refl _ _) _)
  · have k := Blk.new ((W.alloc (.cells #[.int .u32 (A : Nat), .int .i64 n] 24)).alloc (.cells #[.int .u16 (lo : Nat), .int .u16 (hi : Nat)] 27)) 29 [.int .u32 (d : Nat), .int .u32 (s : Nat), .int .u8 (q : Nat), .int .u16 (x : Nat), .int .u16 (y : Nat)]
    rw [World.size_alloc, World.size_alloc] at k
    exact k
  have X1 := Lib.hid hW
  clear hW
  go_wp2_with fail
  refine (CN.out _).mono ?_
  rintro e w2 ⟨p, rfl, hS, hb⟩
  obtain ⟨Z, hZ⟩ : ∃ Z : Nat → Prop, (fun k => k < W1.heap.size) = Z := ⟨_, rfl⟩
  rw [hZ] at hS
  have HZ : Hid (∀ k, k < W.heap.size + 3 → Z k) := Lib.hid (by rw [← hZ]; intro k hk; have := X1.out.2.2.2.2; show k < W1.heap.size; omega)
  have S2 := Lib.hid hS
  have X2 := Lib.hid (X1.out.on hb)
  clear hS hb CN hZ X1
  obtain ⟨h_0, h_1, h_2, h_3, h_4⟩ : _ ∧ _ ∧ _ ∧ _ ∧ _ := ⟨X2.out.2.2.1.1 0 _ rfl, X2.out.2.2.1.1 1 _ rfl, X2.out.2.2.1.1 2 _ rfl, X2.out.2.2.1.1 3 _ rfl, X2.out.2.2.1.1 4 _ rfl⟩
  go_wp2_with fail
  refine (CA.out _).mono ?_
  rintro e w3 ⟨rfl, hb⟩
  have S3 := Lib.hid (S2.out.on hb)
  have X3 := Lib.hid (X2.out.on hb)
  clear hb CA S2 X2
  clear h_0 h_1 h_2 h_3 h_4
  obtain ⟨p_0, p_1⟩ : _ ∧ _ := ⟨X3.out.1.1 0 _ rfl, X3.out.1.1 1 _ rfl⟩
  go_wp2_with fail
  refine (CPx.out Z p w3 S3.out).mono ?_
  rintro e w4 ⟨g, ns1, rfl, hS, hH, hP⟩
  have S4 := Lib.hid hS
  have X4 := Lib.hid (X3.out.hold hH HZ.out)
  have P4 := Lib.hid hP
  clear hS hH hP CPx S3 X3
  clear p_0 p_1
  obtain ⟨p_0, p_1⟩ : _ ∧ _ := ⟨X4.out.1.1 0 _ rfl, X4.out.1.1 1 _ rfl⟩
  go_wp2_with fail
  refine (CRi.out _).mono ?_
  rintro e w5 ⟨rfl, hb⟩
  have S5 := Lib.hid (S4.out.on hb)
  have X5 := Lib.hid (X4.out.on hb)
  clear hb CRi S4 X4
  clear p_0 p_1
  obtain ⟨h_0, h_1, h_2, h_3, h_4⟩ : _ ∧ _ ∧ _ ∧ _ ∧ _ := ⟨X5.out.2.2.1.1 0 _ rfl, X5.out.2.2.1.1 1 _ rfl, X5.out.2.2.1.1 2 _ rfl, X5.out.2.2.1.1 3 _ rfl, X5.out.2.2.1.1 4 _ rfl⟩
  go_wp2_with fail
  refine (CB.out _).mono ?_
  rintro e w8 ⟨rfl, hb⟩
  have S8 := Lib.hid (S5.out.on hb)
  have X8 := Lib.hid (X5.out.on hb)
  clear hb CB S5 X5
  clear h_0 h_1 h_2 h_3 h_4
  obtain ⟨r_0, r_1⟩ : _ ∧ _ := ⟨X8.out.2.1.1 0 _ rfl, X8.out.2.1.1 1 _ rfl⟩
  go_wp2_with fail
  refine (CRg.out Z p w8 g ns1 P4.out S8.out).mono ?_
  rintro e w9 ⟨g2, ns2, rfl, hS, hH, hR⟩
  have S9 := Lib.hid hS
  have X9 := Lib.hid (X8.out.hold hH HZ.out)
  have R9 := Lib.hid hR
  clear hS hH hR CRg S8 X8 P4
  clear r_0 r_1
  obtain ⟨r_0, r_1⟩ : _ ∧ _ := ⟨X9.out.2.1.1 0 _ rfl, X9.out.2.1.1 1 _ rfl⟩
  obtain ⟨h_0, h_1, h_2, h_3, h_4⟩ : _ ∧ _ ∧ _ ∧ _ ∧ _ := ⟨X9.out.2.2.1.1 0 _ rfl, X9.out.2.2.1.1 1 _ rfl, X9.out.2.2.1.1 2 _ rfl, X9.out.2.2.1.1 3 _ rfl, X9.out.2.2.1.1 4 _ rfl⟩
  go_wp2_with fail
  refine (CW.out _).mono ?_
  rintro e wa ⟨rfl, hbx⟩
  have FIN := Lib.hid (bel_on' X9.out.2.2.2.1 hbx)
  clear hbx
  go_wp2
  go_ret
  exact ⟨rfl, FIN.out⟩
end Go.Proofs.Ytggcbklififcgab
/- EncFields's walk, way by way. -/
namespace Go.Proofs.Ytggcbklififcgab
open Go.RowKit
set_option linter.unusedVariables false

set_option maxRecDepth 100000 in
set_option maxHeartbeats 8000000 in
theorem ef_pre {PP PR : Nat → List Nd → Prop} (f : Int) (A : Nat) (n : Int) (lo hi d s q x y xa yb : Nat) (T : Bool) (W : World)
    (CA : Hid (∀ w, Calls Try.prog 9 #[hv d s q x y, .int .i64 f] w fun e w' => e = .returned (.tuple #[.int .u32 (xa : Nat), .bool true]) ∧ Below w.heap.size w w'))
    (CB : Hid (∀ w, Calls Try.prog 14 #[hv d s q x y, .int .i64 f] w fun e w' => e = .returned (.tuple #[.int .u16 (yb : Nat), .bool false]) ∧ Below w.heap.size w w'))
    (CPx : Hid (∀ Z p w, Sta Z p w 262144 [bot, top] → Calls Try.prog 10 #[.pointer (some ⟨p, 0, none⟩), .int .i64 f, pv A n] w fun e w' => ∃ (g : Nat) (ns1 : List Nd), e = .returned (.tuple #[.int .i64 (g : Nat), .int .i64 0]) ∧ Sta Z p w' 262144 ns1 ∧ Hold Z w w' ∧ PP g ns1))
    (CRg : Hid (∀ Z p w g ns1, PP g ns1 → Sta Z p w 262144 ns1 → Calls Try.prog 15 #[.pointer (some ⟨p, 0, none⟩), .int .i64 f, .agg #[.int .u16 (lo : Nat), .int .u16 (hi : Nat)]] w fun e w' => ∃ (g : Nat) (ns2 : List Nd), e = .returned (.tuple #[.int .i64 (g : Nat), .int .i64 1]) ∧ Sta Z p w' 262144 ns2 ∧ Hold Z w w' ∧ PR g ns2))
    (CRi : Hid (∀ w, Calls Try.prog 11 #[pv A n] w fun e w' => e = .returned (.bool true) ∧ Below w.heap.size w w'))
    (CIn : Hid (∀ Z p w g ns1, PP g ns1 → Sta Z p w 262144 ns1 → Calls Try.prog 12 #[.pointer (some ⟨p, 0, none⟩), .int .i64 (g : Nat), hv d s q x y] w fun e w' => e = .returned (.bool T) ∧ Below w.heap.size w w'))
    (CHa : Hid (∀ w, Calls Try.prog 13 #[pv A n, .int .u32 (xa : Nat)] w fun e w' => e = .returned (.bool T) ∧ Below w.heap.size w w')) :
    Calls Try.prog 3 #[.int .i64 f, pv A n, .agg #[.int .u16 (lo : Nat), .int .u16 (hi : Nat)], hv d s q x y] W fun e w' => e = .returned (.bool true) ∧ Below W.heap.size W w' := by
  have CN := Lib.hid (fun w => sNew 262144 (by omega) (by omega) w)
  have CW := Lib.hid (fun w => awake_any w)
  go_enter Try.func3, Try.ntmps3
  go_upto_region 1 with fail
  refine at_code (S := Fx W [.int .u32 (A : Nat), .int .i64 n] [.int .u16 (lo : Nat), .int .u16 (hi : Nat)] [.int .u32 (d : Nat), .int .u32 (s : Nat), .int .u8 (q : Nat), .int .u16 (x : Nat), .int .u16 (y : Nat)]) ⟨?_, ?_, ?_, bel_al (bel_al (bel_al (Below.refl _ _) _) _) _, by simp⟩ (fun W1 hW => ?_)
  · exact (Blk.new W _ [.int .u32 (A : Nat), .int .i64 n]).on (bel_al (bel_al (Below.refl _ _) _) _)
  · have k := Blk.new (W.alloc (.cells #[.int .u32 (A : Nat), .int .i64 n] 24)) 27 [.int .u16 (lo : Nat), .int .u16 (hi : Nat)]
    rw [World.size_alloc] at k
    exact k.on (bel_al (Below.refl _ _) _)
  · have k := Blk.new ((W.alloc (.cells #[.int .u32 (A : Nat), .int .i64 n] 24)).alloc (.cells #[.int .u16 (lo : Nat), .int .u16 (hi : Nat)] 27)) 29 [.int .u32 (d : Nat), .int .u32 (s : Nat), .int .u8 (q : Nat), .int .u16 (x : Nat), .int .u16 (y : Nat)]
    rw [World.size_alloc, World.size_alloc] at k
    exact k
  have X1 := Lib.hid hW
  clear hW
  go_wp2_with fail
  refine (CN.out _).mono ?_
  rintro e w2 ⟨p, rfl, hS, hb⟩
  obtain ⟨Z, hZ⟩ : ∃ Z : Nat → Prop, (fun k => k < W1.heap.size) = Z := ⟨_, rfl⟩
  rw [hZ] at hS
  have HZ : Hid (∀ k, k < W.heap.size + 3 → Z k) := Lib.hid (by rw [← hZ]; intro k hk; have := X1.out.2.2.2.2; show k < W1.heap.size; omega)
  have S2 := Lib.hid hS
  have X2 := Lib.hid (X1.out.on hb)
  clear hS hb CN hZ X1
  obtain ⟨h_0, h_1, h_2, h_3, h_4⟩ : _ ∧ _ ∧ _ ∧ _ ∧ _ := ⟨X2.out.2.2.1.1 0 _ rfl, X2.out.2.2.1.1 1 _ rfl, X2.out.2.2.1.1 2 _ rfl, X2.out.2.2.1.1 3 _ rfl, X2.out.2.2.1.1 4 _ rfl⟩
  go_wp2_with fail
  refine (CA.out _).mono ?_
  rintro e w3 ⟨rfl, hb⟩
  have S3 := Lib.hid (S2.out.on hb)
  have X3 := Lib.hid (X2.out.on hb)
  clear hb CA S2 X2
  clear h_0 h_1 h_2 h_3 h_4
  obtain ⟨p_0, p_1⟩ : _ ∧ _ := ⟨X3.out.1.1 0 _ rfl, X3.out.1.1 1 _ rfl⟩
  go_wp2_with fail
  refine (CPx.out Z p w3 S3.out).mono ?_
  rintro e w4 ⟨g, ns1, rfl, hS, hH, hP⟩
  have S4 := Lib.hid hS
  have X4 := Lib.hid (X3.out.hold hH HZ.out)
  have P4 := Lib.hid hP
  clear hS hH hP CPx S3 X3
  clear p_0 p_1
  obtain ⟨p_0, p_1⟩ : _ ∧ _ := ⟨X4.out.1.1 0 _ rfl, X4.out.1.1 1 _ rfl⟩
  go_wp2_with fail
  refine (CRi.out _).mono ?_
  rintro e w5 ⟨rfl, hb⟩
  have S5 := Lib.hid (S4.out.on hb)
  have X5 := Lib.hid (X4.out.on hb)
  clear hb CRi S4 X4
  clear p_0 p_1
  obtain ⟨p_0, p_1⟩ : _ ∧ _ := ⟨X5.out.1.1 0 _ rfl, X5.out.1.1 1 _ rfl⟩
  obtain ⟨h_0, h_1, h_2, h_3, h_4⟩ : _ ∧ _ ∧ _ ∧ _ ∧ _ := ⟨X5.out.2.2.1.1 0 _ rfl, X5.out.2.2.1.1 1 _ rfl, X5.out.2.2.1.1 2 _ rfl, X5.out.2.2.1.1 3 _ rfl, X5.out.2.2.1.1 4 _ rfl⟩
  go_wp2_with fail
  refine wp_region_noPanic ?_
  refine wp_region_along (S := fun w' => Below w5.heap.size w5 w' ∧ ∀ b o, (w5.cell? ⟨b, o, none⟩).isSome = true → w'.cell? ⟨b, o, none⟩ = w5.cell? ⟨b, o, none⟩) ([(0, true), (1, true), (2, true), (3, true), (4, true), (5, true), (7, true), (8, true), (6, false), (9, false), (10, true), (11, true), (12, true)]) (by kernel_rfl) (by as_aux_lemma => kernel_rfl) (by kernel_rfl) (by kernel_rfl) (by as_aux_lemma => kernel_rfl) (by as_aux_lemma => kernel_rfl) (fun _ _ _ _ _ h => h) (below_kb (Below.refl _ _).drew) (fun hH => ?_)
  simp only [stepsOf, pickOp]
  iterate 8 (first | (refine along_skip (by rfl) ?_; try simp only [Act.put, List.setIfInBounds_toArray, List.set_cons_zero, List.set_cons_succ]) | (refine along_pure ?_ (by rfl) (fun w hSw => ?_) ?_; rotate_left; ((try dsimp only at hSw); go_simp; try with_reducible rfl); try simp only [Act.put, List.setIfInBounds_toArray, List.set_cons_zero, List.set_cons_succ]))
  refine along_bar (fun K hK => ?_)
  go_simp
  refine (CIn.out Z p w5.drew g ns1 P4.out (S5.out.on (Below.refl _ _).drew)).mono ?_
  rintro e w6 ⟨rfl, hbx⟩
  try go_wp2_with fail
  refine hK.out _ _ (below_kb (below_on hH.1 hbx)) (fun hH' => ?_)
  clear hK K hH
  have hH := hH'
  clear hH'
  clear hbx
  try simp only [Act.put, List.setIfInBounds_toArray, List.set_cons_zero, List.set_cons_succ]
  refine along_bar (fun K hK => ?_)
  go_simp
  refine (CHa.out _).mono ?_
  rintro e w7 ⟨rfl, hbx⟩
  try go_wp2_with fail
  refine hK.out _ _ (below_kb (below_on hH.1 hbx)) (fun hH' => ?_)
  clear hK K hH
  have hH := hH'
  clear hH'
  clear hbx
  try simp only [Act.put, List.setIfInBounds_toArray, List.set_cons_zero, List.set_cons_succ]
  iterate 3 (first | (refine along_skip (by rfl) ?_; try simp only [Act.put, List.setIfInBounds_toArray, List.set_cons_zero, List.set_cons_succ]) | (refine along_pure ?_ (by rfl) (fun w hSw => ?_) ?_; rotate_left; ((try dsimp only at hSw); go_simp; try with_reducible rfl); try simp only [Act.put, List.setIfInBounds_toArray, List.set_cons_zero, List.set_cons_succ]))
  refine along_end (NoPanic.normal ?_)
  have S7 := Lib.hid (S5.out.on hH.1)
  have X7 := Lib.hid (X5.out.on hH.1)
  clear hH S5 X5 CIn CHa p_0 p_1 h_0 h_1 h_2 h_3 h_4
  have hTT : (T != T) = false := by cases T <;> rfl
  obtain ⟨h_0, h_1, h_2, h_3, h_4⟩ : _ ∧ _ ∧ _ ∧ _ ∧ _ := ⟨X7.out.2.2.1.1 0 _ rfl, X7.out.2.2.1.1 1 _ rfl, X7.out.2.2.1.1 2 _ rfl, X7.out.2.2.1.1 3 _ rfl, X7.out.2.2.1.1 4 _ rfl⟩
  go_wp2_with fail
  refine (CB.out _).mono ?_
  rintro e w8 ⟨rfl, hb⟩
  have S8 := Lib.hid (S7.out.on hb)
  have X8 := Lib.hid (X7.out.on hb)
  clear hb CB S7 X7
  clear h_0 h_1 h_2 h_3 h_4
  obtain ⟨r_0, r_1⟩ : _ ∧ _ := ⟨X8.out.2.1.1 0 _ rfl, X8.out.2.1.1 1 _ rfl⟩
  go_wp2_with fail
  refine (CRg.out Z p w8 g ns1 P4.out S8.out).mono ?_
  rintro e w9 ⟨g2, ns2, rfl, hS, hH, hR⟩
  have S9 := Lib.hid hS
  have X9 := Lib.hid (X8.out.hold hH HZ.out)
  have R9 := Lib.hid hR
  clear hS hH hR CRg S8 X8 P4
  clear r_0 r_1
  obtain ⟨r_0, r_1⟩ : _ ∧ _ := ⟨X9.out.2.1.1 0 _ rfl, X9.out.2.1.1 1 _ rfl⟩
  obtain ⟨h_0, h_1, h_2, h_3, h_4⟩ : _ ∧ _ ∧ _ ∧ _ ∧ _ := ⟨X9.out.2.2.1.1 0 _ rfl, X9.out.2.2.1.1 1 _ rfl, X9.out.2.2.1.1 2 _ rfl, X9.out.2.2.1.1 3 _ rfl, X9.out.2.2.1.1 4 _ rfl⟩
  go_wp2_with fail
  refine (CW.out _).mono ?_
  rintro e wa ⟨rfl, hbx⟩
  have FIN := Lib.hid (bel_on' X9.out.2.2.2.1 hbx)
  clear hbx
  go_wp2
  go_ret
  exact ⟨rfl, FIN.out⟩
end Go.Proofs.Ytggcbklififcgab
/- EncFields's walk, way by way. -/
namespace Go.Proofs.Ytggcbklififcgab
open Go.RowKit
set_option linter.unusedVariables false

set_option maxRecDepth 100000 in
set_option maxHeartbeats 8000000 in
theorem ef_none {PP PR : Nat → List Nd → Prop} (f : Int) (A : Nat) (n : Int) (lo hi d s q x y xa yb : Nat)  (W : World)
    (CA : Hid (∀ w, Calls Try.prog 9 #[hv d s q x y, .int .i64 f] w fun e w' => e = .returned (.tuple #[.int .u32 (xa : Nat), .bool false]) ∧ Below w.heap.size w w'))
    (CB : Hid (∀ w, Calls Try.prog 14 #[hv d s q x y, .int .i64 f] w fun e w' => e = .returned (.tuple #[.int .u16 (yb : Nat), .bool false]) ∧ Below w.heap.size w w'))
    (CPx : Hid (∀ Z p w, Sta Z p w 262144 [bot, top] → Calls Try.prog 10 #[.pointer (some ⟨p, 0, none⟩), .int .i64 f, pv A n] w fun e w' => ∃ (g : Nat) (ns1 : List Nd), e = .returned (.tuple #[.int .i64 (g : Nat), .int .i64 1]) ∧ Sta Z p w' 262144 ns1 ∧ Hold Z w w' ∧ PP g ns1))
    (CRg : Hid (∀ Z p w g ns1, PP g ns1 → Sta Z p w 262144 ns1 → Calls Try.prog 15 #[.pointer (some ⟨p, 0, none⟩), .int .i64 f, .agg #[.int .u16 (lo : Nat), .int .u16 (hi : Nat)]] w fun e w' => ∃ (g : Nat) (ns2 : List Nd), e = .returned (.tuple #[.int .i64 (g : Nat), .int .i64 1]) ∧ Sta Z p w' 262144 ns2 ∧ Hold Z w w' ∧ PR g ns2)) :
    Calls Try.prog 3 #[.int .i64 f, pv A n, .agg #[.int .u16 (lo : Nat), .int .u16 (hi : Nat)], hv d s q x y] W fun e w' => e = .returned (.bool true) ∧ Below W.heap.size W w' := by
  have CN := Lib.hid (fun w => sNew 262144 (by omega) (by omega) w)
  have CW := Lib.hid (fun w => awake_any w)
  go_enter Try.func3, Try.ntmps3
  go_upto_region 1 with fail
  refine at_code (S := Fx W [.int .u32 (A : Nat), .int .i64 n] [.int .u16 (lo : Nat), .int .u16 (hi : Nat)] [.int .u32 (d : Nat), .int .u32 (s : Nat), .int .u8 (q : Nat), .int .u16 (x : Nat), .int .u16 (y : Nat)]) ⟨?_, ?_, ?_, bel_al (bel_al (bel_al (Below.refl _ _) _) _) _, by simp⟩ (fun W1 hW => ?_)
  · exact (Blk.new W _ [.int .u32 (A : Nat), .int .i64 n]).on (bel_al (bel_al (Below.refl _ _) _) _)
  · have k := Blk.new (W.alloc (.cells #[.int .u32 (A : Nat), .int .i64 n] 24)) 27 [.int .u16 (lo : Nat), .int .u16 (hi : Nat)]
    rw [World.size_alloc] at k
    exact k.on (bel_al (Below.refl _ _) _)
  · have k := Blk.new ((W.alloc (.cells #[.int .u32 (A : Nat), .int .i64 n] 24)).alloc (.cells #[.int .u16 (lo : Nat), .int .u16 (hi : Nat)] 27)) 29 [.int .u32 (d : Nat), .int .u32 (s : Nat), .int .u8 (q : Nat), .int .u16 (x : Nat), .int .u16 (y : Nat)]
    rw [World.size_alloc, World.size_alloc] at k
    exact k
  have X1 := Lib.hid hW
  clear hW
  go_wp2_with fail
  refine (CN.out _).mono ?_
  rintro e w2 ⟨p, rfl, hS, hb⟩
  obtain ⟨Z, hZ⟩ : ∃ Z : Nat → Prop, (fun k => k < W1.heap.size) = Z := ⟨_, rfl⟩
  rw [hZ] at hS
  have HZ : Hid (∀ k, k < W.heap.size + 3 → Z k) := Lib.hid (by rw [← hZ]; intro k hk; have := X1.out.2.2.2.2; show k < W1.heap.size; omega)
  have S2 := Lib.hid hS
  have X2 := Lib.hid (X1.out.on hb)
  clear hS hb CN hZ X1
  obtain ⟨h_0, h_1, h_2, h_3, h_4⟩ : _ ∧ _ ∧ _ ∧ _ ∧ _ := ⟨X2.out.2.2.1.1 0 _ rfl, X2.out.2.2.1.1 1 _ rfl, X2.out.2.2.1.1 2 _ rfl, X2.out.2.2.1.1 3 _ rfl, X2.out.2.2.1.1 4 _ rfl⟩
  go_wp2_with fail
  refine (CA.out _).mono ?_
  rintro e w3 ⟨rfl, hb⟩
  have S3 := Lib.hid (S2.out.on hb)
  have X3 := Lib.hid (X2.out.on hb)
  clear hb CA S2 X2
  clear h_0 h_1 h_2 h_3 h_4
  obtain ⟨p_0, p_1⟩ : _ ∧ _ := ⟨X3.out.1.1 0 _ rfl, X3.out.1.1 1 _ rfl⟩
  go_wp2_with fail
  refine (CPx.out Z p w3 S3.out).mono ?_
  rintro e w4 ⟨g, ns1, rfl, hS, hH, hP⟩
  have S4 := Lib.hid hS
  have X4 := Lib.hid (X3.out.hold hH HZ.out)
  have P4 := Lib.hid hP
  clear hS hH hP CPx S3 X3
  clear p_0 p_1
  obtain ⟨h_0, h_1, h_2, h_3, h_4⟩ : _ ∧ _ ∧ _ ∧ _ ∧ _ := ⟨X4.out.2.2.1.1 0 _ rfl, X4.out.2.2.1.1 1 _ rfl, X4.out.2.2.1.1 2 _ rfl, X4.out.2.2.1.1 3 _ rfl, X4.out.2.2.1.1 4 _ rfl⟩
  go_wp2_with fail
  refine (CB.out _).mono ?_
  rintro e w8 ⟨rfl, hb⟩
  have S8 := Lib.hid (S4.out.on hb)
  have X8 := Lib.hid (X4.out.on hb)
  clear hb CB S4 X4
  clear h_0 h_1 h_2 h_3 h_4
  obtain ⟨r_0, r_1⟩ : _ ∧ _ := ⟨X8.out.2.1.1 0 _ rfl, X8.out.2.1.1 1 _ rfl⟩
  go_wp2_with fail
  refine (CRg.out Z p w8 g ns1 P4.out S8.out).mono ?_
  rintro e w9 ⟨g2, ns2, rfl, hS, hH, hR⟩
  have S9 := Lib.hid hS
  have X9 := Lib.hid (X8.out.hold hH HZ.out)
  have R9 := Lib.hid hR
  clear hS hH hR CRg S8 X8 P4
  clear r_0 r_1
  obtain ⟨r_0, r_1⟩ : _ ∧ _ := ⟨X9.out.2.1.1 0 _ rfl, X9.out.2.1.1 1 _ rfl⟩
  obtain ⟨h_0, h_1, h_2, h_3, h_4⟩ : _ ∧ _ ∧ _ ∧ _ ∧ _ := ⟨X9.out.2.2.1.1 0 _ rfl, X9.out.2.2.1.1 1 _ rfl, X9.out.2.2.1.1 2 _ rfl, X9.out.2.2.1.1 3 _ rfl, X9.out.2.2.1.1 4 _ rfl⟩
  go_wp2_with fail
  refine (CW.out _).mono ?_
  rintro e wa ⟨rfl, hbx⟩
  have FIN := Lib.hid (bel_on' X9.out.2.2.2.1 hbx)
  clear hbx
  go_wp2
  go_ret
  exact ⟨rfl, FIN.out⟩
set_option maxRecDepth 100000 in
set_option maxHeartbeats 8000000 in
theorem ef_bounds {PP PR : Nat → List Nd → Prop} (f : Int) (A : Nat) (n : Int) (lo hi d s q x y xa yb : Nat) (hgt : (hi : Int) < (lo : Int)) (W : World)
    (CA : Hid (∀ w, Calls Try.prog 9 #[hv d s q x y, .int .i64 f] w fun e w' => e = .returned (.tuple #[.int .u32 (xa : Nat), .bool false]) ∧ Below w.heap.size w w'))
    (CB : Hid (∀ w, Calls Try.prog 14 #[hv d s q x y, .int .i64 f] w fun e w' => e = .returned (.tuple #[.int .u16 (yb : Nat), .bool true]) ∧ Below w.heap.size w w'))
    (CPx : Hid (∀ Z p w, Sta Z p w 262144 [bot, top] → Calls Try.prog 10 #[.pointer (some ⟨p, 0, none⟩), .int .i64 f, pv A n] w fun e w' => ∃ (g : Nat) (ns1 : List Nd), e = .returned (.tuple #[.int .i64 (g : Nat), .int .i64 1]) ∧ Sta Z p w' 262144 ns1 ∧ Hold Z w w' ∧ PP g ns1))
    (CRg : Hid (∀ Z p w g ns1, PP g ns1 → Sta Z p w 262144 ns1 → Calls Try.prog 15 #[.pointer (some ⟨p, 0, none⟩), .int .i64 f, .agg #[.int .u16 (lo : Nat), .int .u16 (hi : Nat)]] w fun e w' => ∃ (g : Nat) (ns2 : List Nd), e = .returned (.tuple #[.int .i64 (g : Nat), .int .i64 14]) ∧ Sta Z p w' 262144 ns2 ∧ Hold Z w w' ∧ PR g ns2)) :
    Calls Try.prog 3 #[.int .i64 f, pv A n, .agg #[.int .u16 (lo : Nat), .int .u16 (hi : Nat)], hv d s q x y] W fun e w' => e = .returned (.bool true) ∧ Below W.heap.size W w' := by
  have CN := Lib.hid (fun w => sNew 262144 (by omega) (by omega) w)
  have CW := Lib.hid (fun w => awake_any w)
  go_enter Try.func3, Try.ntmps3
  go_upto_region 1 with fail
  refine at_code (S := Fx W [.int .u32 (A : Nat), .int .i64 n] [.int .u16 (lo : Nat), .int .u16 (hi : Nat)] [.int .u32 (d : Nat), .int .u32 (s : Nat), .int .u8 (q : Nat), .int .u16 (x : Nat), .int .u16 (y : Nat)]) ⟨?_, ?_, ?_, bel_al (bel_al (bel_al (Below.refl _ _) _) _) _, by simp⟩ (fun W1 hW => ?_)
  · exact (Blk.new W _ [.int .u32 (A : Nat), .int .i64 n]).on (bel_al (bel_al (Below.refl _ _) _) _)
  · have k := Blk.new (W.alloc (.cells #[.int .u32 (A : Nat), .int .i64 n] 24)) 27 [.int .u16 (lo : Nat), .int .u16 (hi : Nat)]
    rw [World.size_alloc] at k
    exact k.on (bel_al (Below.refl _ _) _)
  · have k := Blk.new ((W.alloc (.cells #[.int .u32 (A : Nat), .int .i64 n] 24)).alloc (.cells #[.int .u16 (lo : Nat), .int .u16 (hi : Nat)] 27)) 29 [.int .u32 (d : Nat), .int .u32 (s : Nat), .int .u8 (q : Nat), .int .u16 (x : Nat), .int .u16 (y : Nat)]
    rw [World.size_alloc, World.size_alloc] at k
    exact k
  have X1 := Lib.hid hW
  clear hW
  go_wp2_with fail
  refine (CN.out _).mono ?_
  rintro e w2 ⟨p, rfl, hS, hb⟩
  obtain ⟨Z, hZ⟩ : ∃ Z : Nat → Prop, (fun k => k < W1.heap.size) = Z := ⟨_, rfl⟩
  rw [hZ] at hS
  have HZ : Hid (∀ k, k < W.heap.size + 3 → Z k) := Lib.hid (by rw [← hZ]; intro k hk; have := X1.out.2.2.2.2; show k < W1.heap.size; omega)
  have S2 := Lib.hid hS
  have X2 := Lib.hid (X1.out.on hb)
  clear hS hb CN hZ X1
  obtain ⟨h_0, h_1, h_2, h_3, h_4⟩ : _ ∧ _ ∧ _ ∧ _ ∧ _ := ⟨X2.out.2.2.1.1 0 _ rfl, X2.out.2.2.1.1 1 _ rfl, X2.out.2.2.1.1 2 _ rfl, X2.out.2.2.1.1 3 _ rfl, X2.out.2.2.1.1 4 _ rfl⟩
  go_wp2_with fail
  refine (CA.out _).mono ?_
  rintro e w3 ⟨rfl, hb⟩
  have S3 := Lib.hid (S2.out.on hb)
  have X3 := Lib.hid (X2.out.on hb)
  clear hb CA S2 X2
  clear h_0 h_1 h_2 h_3 h_4
  obtain ⟨p_0, p_1⟩ : _ ∧ _ := ⟨X3.out.1.1 0 _ rfl, X3.out.1.1 1 _ rfl⟩
  go_wp2_with fail
  refine (CPx.out Z p w3 S3.out).mono ?_
  rintro e w4 ⟨g, ns1, rfl, hS, hH, hP⟩
  have S4 := Lib.hid hS
  have X4 := Lib.hid (X3.out.hold hH HZ.out)
  have P4 := Lib.hid hP
  clear hS hH hP CPx S3 X3
  clear p_0 p_1
  obtain ⟨h_0, h_1, h_2, h_3, h_4⟩ : _ ∧ _ ∧ _ ∧ _ ∧ _ := ⟨X4.out.2.2.1.1 0 _ rfl, X4.out.2.2.1.1 1 _ rfl, X4.out.2.2.1.1 2 _ rfl, X4.out.2.2.1.1 3 _ rfl, X4.out.2.2.1.1 4 _ rfl⟩
  go_wp2_with fail
  refine (CB.out _).mono ?_
  rintro e w8 ⟨rfl, hb⟩
  have S8 := Lib.hid (S4.out.on hb)
  have X8 := Lib.hid (X4.out.on hb)
  clear hb CB S4 X4
  clear h_0 h_1 h_2 h_3 h_4
  obtain ⟨r_0, r_1⟩ : _ ∧ _ := ⟨X8.out.2.1.1 0 _ rfl, X8.out.2.1.1 1 _ rfl⟩
  go_wp2_with fail
  refine (CRg.out Z p w8 g ns1 P4.out S8.out).mono ?_
  rintro e w9 ⟨g2, ns2, rfl, hS, hH, hR⟩
  have S9 := Lib.hid hS
  have X9 := Lib.hid (X8.out.hold hH HZ.out)
  have R9 := Lib.hid hR
  clear hS hH hR CRg S8 X8 P4
  clear r_0 r_1
  obtain ⟨r_0, r_1⟩ : _ ∧ _ := ⟨X9.out.2.1.1 0 _ rfl, X9.out.2.1.1 1 _ rfl⟩
  obtain ⟨h_0, h_1, h_2, h_3, h_4⟩ : _ ∧ _ ∧ _ ∧ _ ∧ _ := ⟨X9.out.2.2.1.1 0 _ rfl, X9.out.2.2.1.1 1 _ rfl, X9.out.2.2.1.1 2 _ rfl, X9.out.2.2.1.1 3 _ rfl, X9.out.2.2.1.1 4 _ rfl⟩
  go_wp2_with fail
  refine (CW.out _).mono ?_
  rintro e wa ⟨rfl, hbx⟩
  have FIN := Lib.hid (bel_on' X9.out.2.2.2.1 hbx)
  clear hbx
  go_wp2
  go_ret
  exact ⟨rfl, FIN.out⟩
end Go.Proofs.Ytggcbklififcgab
/- EncFields's walk, way by way. -/
namespace Go.Proofs.Ytggcbklififcgab
open Go.RowKit
set_option linter.unusedVariables false

set_option maxRecDepth 100000 in
set_option maxHeartbeats 8000000 in
theorem ef_in {PP PR : Nat → List Nd → Prop} (f : Int) (A : Nat) (n : Int) (lo hi d s q x y xa yb : Nat) (hle : ¬ (hi : Int) < (lo : Int)) (h1 : (lo : Int) ≤ (yb : Int)) (h2 : (yb : Int) ≤ (hi : Int)) (W : World)
    (CA : Hid (∀ w, Calls Try.prog 9 #[hv d s q x y, .int .i64 f] w fun e w' => e = .returned (.tuple #[.int .u32 (xa : Nat), .bool false]) ∧ Below w.heap.size w w'))
    (CB : Hid (∀ w, Calls Try.prog 14 #[hv d s q x y, .int .i64 f] w fun e w' => e = .returned (.tuple #[.int .u16 (yb : Nat), .bool true]) ∧ Below w.heap.size w w'))
    (CPx : Hid (∀ Z p w, Sta Z p w 262144 [bot, top] → Calls Try.prog 10 #[.pointer (some ⟨p, 0, none⟩), .int .i64 f, pv A n] w fun e w' => ∃ (g : Nat) (ns1 : List Nd), e = .returned (.tuple #[.int .i64 (g : Nat), .int .i64 1]) ∧ Sta Z p w' 262144 ns1 ∧ Hold Z w w' ∧ PP g ns1))
    (CRg : Hid (∀ Z p w g ns1, PP g ns1 → Sta Z p w 262144 ns1 → Calls Try.prog 15 #[.pointer (some ⟨p, 0, none⟩), .int .i64 f, .agg #[.int .u16 (lo : Nat), .int .u16 (hi : Nat)]] w fun e w' => ∃ (g : Nat) (ns2 : List Nd), e = .returned (.tuple #[.int .i64 (g : Nat), .int .i64 0]) ∧ Sta Z p w' 262144 ns2 ∧ Hold Z w w' ∧ PR g ns2))
    (CIn : Hid (∀ Z p w g ns2, PR g ns2 → Sta Z p w 262144 ns2 → Calls Try.prog 12 #[.pointer (some ⟨p, 0, none⟩), .int .i64 (g : Nat), hv d s q x y] w fun e w' => e = .returned (.bool true) ∧ Below w.heap.size w w')) :
    Calls Try.prog 3 #[.int .i64 f, pv A n, .agg #[.int .u16 (lo : Nat), .int .u16 (hi : Nat)], hv d s q x y] W fun e w' => e = .returned (.bool true) ∧ Below W.heap.size W w' := by
  have CN := Lib.hid (fun w => sNew 262144 (by omega) (by omega) w)
  have CW := Lib.hid (fun w => awake_any w)
  go_enter Try.func3, Try.ntmps3
  go_upto_region 1 with fail
  refine at_code (S := Fx W [.int .u32 (A : Nat), .int .i64 n] [.int .u16 (lo : Nat), .int .u16 (hi : Nat)] [.int .u32 (d : Nat), .int .u32 (s : Nat), .int .u8 (q : Nat), .int .u16 (x : Nat), .int .u16 (y : Nat)]) ⟨?_, ?_, ?_, bel_al (bel_al (bel_al (Below.refl _ _) _) _) _, by simp⟩ (fun W1 hW => ?_)
  · exact (Blk.new W _ [.int .u32 (A : Nat), .int .i64 n]).on (bel_al (bel_al (Below.refl _ _) _) _)
  · have k := Blk.new (W.alloc (.cells #[.int .u32 (A : Nat), .int .i64 n] 24)) 27 [.int .u16 (lo : Nat), .int .u16 (hi : Nat)]
    rw [World.size_alloc] at k
    exact k.on (bel_al (Below.refl _ _) _)
  · have k := Blk.new ((W.alloc (.cells #[.int .u32 (A : Nat), .int .i64 n] 24)).alloc (.cells #[.int .u16 (lo : Nat), .int .u16 (hi : Nat)] 27)) 29 [.int .u32 (d : Nat), .int .u32 (s : Nat), .int .u8 (q : Nat), .int .u16 (x : Nat), .int .u16 (y : Nat)]
    rw [World.size_alloc, World.size_alloc] at k
    exact k
  have X1 := Lib.hid hW
  clear hW
  go_wp2_with fail
  refine (CN.out _).mono ?_
  rintro e w2 ⟨p, rfl, hS, hb⟩
  obtain ⟨Z, hZ⟩ : ∃ Z : Nat → Prop, (fun k => k < W1.heap.size) = Z := ⟨_, rfl⟩
  rw [hZ] at hS
  have HZ : Hid (∀ k, k < W.heap.size + 3 → Z k) := Lib.hid (by rw [← hZ]; intro k hk; have := X1.out.2.2.2.2; show k < W1.heap.size; omega)
  have S2 := Lib.hid hS
  have X2 := Lib.hid (X1.out.on hb)
  clear hS hb CN hZ X1
  obtain ⟨h_0, h_1, h_2, h_3, h_4⟩ : _ ∧ _ ∧ _ ∧ _ ∧ _ := ⟨X2.out.2.2.1.1 0 _ rfl, X2.out.2.2.1.1 1 _ rfl, X2.out.2.2.1.1 2 _ rfl, X2.out.2.2.1.1 3 _ rfl, X2.out.2.2.1.1 4 _ rfl⟩
  go_wp2_with fail
  refine (CA.out _).mono ?_
  rintro e w3 ⟨rfl, hb⟩
  have S3 := Lib.hid (S2.out.on hb)
  have X3 := Lib.hid (X2.out.on hb)
  clear hb CA S2 X2
  clear h_0 h_1 h_2 h_3 h_4
  obtain ⟨p_0, p_1⟩ : _ ∧ _ := ⟨X3.out.1.1 0 _ rfl, X3.out.1.1 1 _ rfl⟩
  go_wp2_with fail
  refine (CPx.out Z p w3 S3.out).mono ?_
  rintro e w4 ⟨g, ns1, rfl, hS, hH, hP⟩
  have S4 := Lib.hid hS
  have X4 := Lib.hid (X3.out.hold hH HZ.out)
  have P4 := Lib.hid hP
  clear hS hH hP CPx S3 X3
  clear p_0 p_1
  obtain ⟨h_0, h_1, h_2, h_3, h_4⟩ : _ ∧ _ ∧ _ ∧ _ ∧ _ := ⟨X4.out.2.2.1.1 0 _ rfl, X4.out.2.2.1.1 1 _ rfl, X4.out.2.2.1.1 2 _ rfl, X4.out.2.2.1.1 3 _ rfl, X4.out.2.2.1.1 4 _ rfl⟩
  go_wp2_with fail
  refine (CB.out _).mono ?_
  rintro e w8 ⟨rfl, hb⟩
  have S8 := Lib.hid (S4.out.on hb)
  have X8 := Lib.hid (X4.out.on hb)
  clear hb CB S4 X4
  clear h_0 h_1 h_2 h_3 h_4
  obtain ⟨r_0, r_1⟩ : _ ∧ _ := ⟨X8.out.2.1.1 0 _ rfl, X8.out.2.1.1 1 _ rfl⟩
  go_wp2_with fail
  refine (CRg.out Z p w8 g ns1 P4.out S8.out).mono ?_
  rintro e w9 ⟨g2, ns2, rfl, hS, hH, hR⟩
  have S9 := Lib.hid hS
  have X9 := Lib.hid (X8.out.hold hH HZ.out)
  have R9 := Lib.hid hR
  clear hS hH hR CRg S8 X8 P4
  clear r_0 r_1
  obtain ⟨r_0, r_1⟩ : _ ∧ _ := ⟨X9.out.2.1.1 0 _ rfl, X9.out.2.1.1 1 _ rfl⟩
  obtain ⟨h_0, h_1, h_2, h_3, h_4⟩ : _ ∧ _ ∧ _ ∧ _ ∧ _ := ⟨X9.out.2.2.1.1 0 _ rfl, X9.out.2.2.1.1 1 _ rfl, X9.out.2.2.1.1 2 _ rfl, X9.out.2.2.1.1 3 _ rfl, X9.out.2.2.1.1 4 _ rfl⟩
  go_wp2_with fail
  refine wp_region_noPanic ?_
  refine wp_region_along (S := fun w' => Below w9.heap.size w9 w' ∧ ∀ b o, (w9.cell? ⟨b, o, none⟩).isSome = true → w'.cell? ⟨b, o, none⟩ = w9.cell? ⟨b, o, none⟩) ([(0, false), (1, true), (2, true), (3, true), (4, true), (5, true), (6, true), (7, true), (8, true), (10, true), (11, true), (12, true), (13, true), (9, false), (14, true), (15, true)] ++ ([(16, true), (17, true), (18, true), (19, true), (20, true), (21, true), (22, true)])) (by kernel_rfl) (by as_aux_lemma => kernel_rfl) (by kernel_rfl) (by kernel_rfl) (alongPre_append _ _ _ (by as_aux_lemma => kernel_rfl) (by as_aux_lemma => kernel_rfl)) (by as_aux_lemma => kernel_rfl) (fun _ _ _ _ _ h => h) (below_kb (Below.refl _ _).drew) (fun hH => ?_)
  simp only [List.cons_append, List.nil_append, stepsOf, pickOp]
  refine along_bar (fun K hK => ?_)
  go_simp
  refine (CW.out _).mono ?_
  rintro e wa ⟨rfl, hbx⟩
  try go_wp2_with fail
  refine hK.out _ _ (below_kb (below_on hH.1 hbx)) (fun hH' => ?_)
  clear hK K hH
  have hH := hH'
  clear hH'
  have Ba := Lib.hid hH.1
  clear hbx
  try simp only [Act.put, List.setIfInBounds_toArray, List.set_cons_zero, List.set_cons_succ]
  iterate 12 (first | (refine along_skip (by rfl) ?_; try simp only [Act.put, List.setIfInBounds_toArray, List.set_cons_zero, List.set_cons_succ]) | (refine along_pure ?_ (by rfl) (fun w hSw => ?_) ?_; rotate_left; ((try dsimp only at hSw); go_simp; try with_reducible rfl); try simp only [Act.put, List.setIfInBounds_toArray, List.set_cons_zero, List.set_cons_succ]))
  refine along_bar (fun K hK => ?_)
  go_simp
  refine (CIn.out Z p wa g2 ns2 R9.out (S9.out.on Ba.out)).mono ?_
  rintro e wb ⟨rfl, hbx⟩
  try go_wp2_with fail
  refine hK.out _ _ (below_kb (below_on hH.1 hbx)) (fun hH' => ?_)
  clear hK K hH
  have hH := hH'
  clear hH'
  clear hbx
  try simp only [Act.put, List.setIfInBounds_toArray, List.set_cons_zero, List.set_cons_succ]
  iterate 9 (first | (refine along_skip (by rfl) ?_; try simp only [Act.put, List.setIfInBounds_toArray, List.set_cons_zero, List.set_cons_succ]) | (refine along_pure ?_ (by rfl) (fun w hSw => ?_) ?_; rotate_left; ((try dsimp only at hSw); go_simp; try with_reducible rfl); try simp only [Act.put, List.setIfInBounds_toArray, List.set_cons_zero, List.set_cons_succ]))
  refine along_end (NoPanic.normal ?_)
  have FIN := Lib.hid (bel_on' X9.out.2.2.2.1 hH.1)
  clear hH
  go_wp2
  go_ret
  exact ⟨rfl, FIN.out⟩
end Go.Proofs.Ytggcbklififcgab
