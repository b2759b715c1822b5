/- CidrHalves' call answers true for any two prefixes and any address. -/
import Derived.Test.YtgbphocmnpjjpabDoorC11
namespace Go.Proofs.YtgbphocmnpjjpabDoor
open Go.RowKit
set_option linter.unusedVariables false

theorem sz_half (k : Nat) (h : k < 32) : sz k = sz (k + 1) * 2 := by
  unfold sz
  rw [show 32 - k = (32 - (k + 1)) + 1 by omega, Nat.pow_succ]
theorem sz_up (j k : Nat) (h : j ≤ k) (hk : k ≤ 32) : sz j = sz k * 2 ^ (k - j) := by
  unfold sz
  rw [← Nat.pow_add]; congr 1; omega
theorem has_r (a k x : Nat) (hk : k ≤ 32) (h : a % sz k = 0) : hasB a k x = decide (x / sz k = a / sz k) := by
  rw [hasB_iff a k x (decide_eq_true ⟨by omega, by omega, h⟩)]; rfl
theorem two_eq {p q : Bool} (h : p = true ↔ q = true) : p = q := by cases p <;> cases q <;> simp_all
/-- What a half's facts are, by the block's number c of size h. -/
theorem half_div (h c : Nat) (hh : 0 < h) : h * 2 * c / h = 2 * c ∧ (h * 2 * c + h) / h = 2 * c + 1 ∧ h * 2 * c / (h * 2) = c ∧ (h * 2 * c + h) / (h * 2) = c ∧ (h * 2 * c + (h * 2 - 1)) / h = 2 * c + 1 := by
  have e1 : h * 2 * c = h * (2 * c) := by rw [Nat.mul_assoc]
  have e2 : h * 2 * c + h = h * (2 * c + 1) := by rw [e1, Nat.mul_add, Nat.mul_one]
  refine ⟨by rw [e1, Nat.mul_div_cancel_left _ hh], by rw [e2, Nat.mul_div_cancel_left _ hh], Nat.mul_div_cancel_left _ (by omega), ?_, ?_⟩
  · rw [Nat.mul_add_div (by omega), Nat.div_eq_of_lt (by omega), Nat.add_zero]
  · have e3 : h * 2 * c + (h * 2 - 1) = h * (2 * c + 1) + (h - 1) := by rw [← e2]; omega
    rw [e3, Nat.mul_add_div hh, Nat.div_eq_of_lt (by omega), Nat.add_zero]
theorem halves_any (pa : Nat) (pn : Int) (qa : Nat) (qn : Int) (x : Nat) (hp : pa < 4294967296) (hq : qa < 4294967296) (hx : x < 4294967296) (w : World) (ht : DbTab w) :
    Calls Tryd.prog 3 #[pv pa pn, pv qa qn, .int .u32 x] w fun e w' => e = .returned (.bool true) ∧ Below w.heap.size w w' := by
  obtain ⟨k, hk⟩ : ∃ k, pn.toNat = k := ⟨_, rfl⟩
  obtain ⟨h, hh⟩ : ∃ h, sz (k + 1) = h := ⟨_, rfl⟩
  refine halves_core pa pn qa qn x ((k + 1 : Nat) : Int) (pa : Int) ((pa + h : Nat) : Int) ((pa + (h * 2 - 1) : Nat) : Int) ((pa + (h - 1) : Nat) : Int) (rightB pa pn) (rightB qa qn)
    (hasB pa pn x) (hasB pa ((k + 1 : Nat) : Int) x) (hasB (pa + h) ((k + 1 : Nat) : Int) x) (withinB pa pn qa qn) (withinB pa ((k + 1 : Nat) : Int) qa qn) (withinB (pa + h) ((k + 1 : Nat) : Int) qa qn)
    (meetB pa pn qa qn) (meetB pa ((k + 1 : Nat) : Int) qa qn) (meetB (pa + h) ((k + 1 : Nat) : Int) qa qn) (fun w => rright_any pa pn hp w) (fun w => rright_any qa qn hq w) (fun hr hs h32 => ?_) w ht
  obtain ⟨p0, p1, p2⟩ := of_decide_eq_true hr
  obtain ⟨q0, q1, q2⟩ := of_decide_eq_true hs
  obtain ⟨k', rfl⟩ := Int.eq_ofNat_of_zero_le p0
  obtain ⟨j, rfl⟩ := Int.eq_ofNat_of_zero_le q0
  obtain rfl : k' = k := hk
  rw [Int.toNat_natCast] at p2 q2
  clear p0 q0
  have hk32 : k' < 32 := by omega
  have hj32 : j ≤ 32 := by omega
  have hz : sz k' = h * 2 := by rw [sz_half k' hk32, hh]
  have hpos : 0 < h := by rw [← hh]; exact sz_pos _
  have hle : sz k' ≤ 4294967296 := sz_le _
  obtain ⟨c, hc⟩ : ∃ c, pa = h * 2 * c := by
    have := Nat.div_add_mod pa (h * 2)
    rw [hz] at p2
    exact ⟨pa / (h * 2), by omega⟩
  obtain ⟨d1, d2, d3, d4, d5⟩ := half_div h c hpos
  have hlast := right_lt pa k' hp (by omega) p2
  rw [hz] at hlast hle
  have hlm : pa % sz (k' + 1) = 0 := by rw [hh, hc, Nat.mul_assoc, Nat.mul_mod_right]
  have hhm : (pa + h) % sz (k' + 1) = 0 := by rw [hh, Nat.add_mod_right, ← hh]; exact hlm
  have hb : pa + h < 4294967296 := by omega
  have L := fun y => has_r pa (k' + 1) y (by omega) hlm
  have G := fun y => has_r (pa + h) (k' + 1) y (by omega) hhm
  have Pq := fun y => has_r pa k' y (by omega) p2
  have Qq := fun y => has_r qa j y hj32 q2
  rw [hh] at L G
  rw [hz] at Pq
  rw [show pa / h = 2 * c by rw [hc]; exact d1] at L
  rw [show (pa + h) / h = 2 * c + 1 by rw [hc]; exact d2] at G
  rw [show pa / (h * 2) = c by rw [hc]; exact d3] at Pq
  have hy : ∀ y, y / (h * 2) = y / h / 2 := fun y => by rw [Nat.div_div_eq_div_mul]
  have eL : inB ((k' + 1 : Nat) : Int) = k' + 1 := by rw [inB_of _ (by omega) (by omega)]; rfl
  have eK : inB (k' : Int) = k' := by rw [inB_of _ (by omega) (by omega)]; rfl
  have cL : cutA pa (k' + 1) = pa := (cut_self pa (k' + 1)).2 hlm
  have cH : cutA (pa + (h * 2 - 1)) (k' + 1) = pa + h := by
    unfold cutA
    rw [hh, show (pa + (h * 2 - 1)) / h = 2 * c + 1 by rw [hc]; exact d5, hc, Nat.add_mul, Nat.one_mul, Nat.mul_comm (2 * c) h, Nat.mul_assoc]
  have qp : j ≤ k' → (pa + h) / sz j = pa / sz j := fun hjk => by
    have du := fun y => (Nat.div_div_eq_div_mul y (h * 2) (2 ^ (k' - j))).symm
    rw [sz_up j k' hjk (by omega), hz, du, du, show (pa + h) / (h * 2) = c by rw [hc]; exact d4, show pa / (h * 2) = c by rw [hc]; exact d3]
  have wl : ∀ (w : World), Calls Tryd.prog 6 #[.int .u32 (pa : Int), .int .i64 ((k' + 1 : Nat) : Int)] w fun e w' => e = .returned (pv (pa : Int) ((k' + 1 : Nat) : Int)) ∧ w.alloc (.cells #[.int .u32 (pa : Int), .int .i64 ((k' + 1 : Nat) : Int)] 24) = w' := fun w => by
    have q := of_any pa hp ((k' + 1 : Nat) : Int) w
    rw [eL, cL] at q; exact q
  have wh : ∀ (w : World), Calls Tryd.prog 6 #[.int .u32 ((pa + (h * 2 - 1) : Nat) : Int), .int .i64 ((k' + 1 : Nat) : Int)] w fun e w' => e = .returned (pv ((pa + h : Nat) : Int) ((k' + 1 : Nat) : Int)) ∧ w.alloc (.cells #[.int .u32 ((pa + h : Nat) : Int), .int .i64 ((k' + 1 : Nat) : Int)] 24) = w' := fun w => by
    have q := of_any (pa + (h * 2 - 1)) hlast ((k' + 1 : Nat) : Int) w
    rw [eL, cH] at q; exact q
  have lastP : pa ||| (sz (inB (k' : Int)) - 1) = pa + (h * 2 - 1) := by rw [eK, or_last pa k' p2, hz]
  have lastL : pa ||| (sz (inB ((k' + 1 : Nat) : Int)) - 1) = pa + (h - 1) := by rw [eL, or_last pa (k' + 1) hlm, hh]
  have lastH : (pa + h) ||| (sz (inB ((k' + 1 : Nat) : Int)) - 1) = pa + (h * 2 - 1) := by rw [eL, or_last (pa + h) (k' + 1) hhm, hh]; omega
  have wdef : ∀ (a : Nat) (n : Int) (b : Nat) (m : Int), withinB a n b m = true ↔ m ≤ n ∧ hasB b m a = true := fun a n b m => by unfold withinB; rw [Bool.and_eq_true, decide_eq_true_eq]
  have mdef : ∀ (a : Nat) (n : Int) (b : Nat) (m : Int), meetB a n b m = true ↔ withinB a n b m = true ∨ withinB b m a n = true := fun a n b m => by unfold meetB; rw [Bool.or_eq_true]
  refine ⟨⟨by omega, by omega, by omega, ?_⟩, wl, wh, fun w => ?_, fun w => ?_, fun w => ?_, fun w => ?_, fun w => ?_, fun w => ?_, fun w => ?_, fun w => has_any pa k' x hx w, fun w => has_any pa _ x hx w, fun w => has_any (pa + h) _ x hx w, fun w => within_any pa k' qa j hp w, fun w => within_any pa _ qa j hp w, fun w => within_any (pa + h) _ qa j hb w,
    fun w => meet_any pa k' qa j hp hq w, fun w => meet_any pa _ qa j hp hq w, fun w => meet_any (pa + h) _ qa j hb hq w, rfl, ?_, ?_, ?_⟩
  · rw [IntKind.wrap_u32]; omega
  · have q := last_any pa k' hp w; rw [lastP] at q; exact q
  · have q := last_exact pa k' hp w; rw [lastP] at q; exact q
  · have q := last_any pa ((k' + 1 : Nat) : Int) hp w; rw [lastL] at q; exact q
  · have q := last_any (pa + h) ((k' + 1 : Nat) : Int) hb w; rw [lastH] at q; exact q
  · have q := meet_any pa ((k' + 1 : Nat) : Int) (pa + h) ((k' + 1 : Nat) : Int) hp hb w
    rw [show meetB pa ((k' + 1 : Nat) : Int) (pa + h) ((k' + 1 : Nat) : Int) = false by
      rw [← Bool.not_eq_true, mdef, wdef, wdef, G, L, decide_eq_true_eq, decide_eq_true_eq, show pa / h = 2 * c by rw [hc]; exact d1, show (pa + h) / h = 2 * c + 1 by rw [hc]; exact d2]
      omega] at q
    exact q
  · have q := within_any pa ((k' + 1 : Nat) : Int) pa k' hp w
    rw [show withinB pa ((k' + 1 : Nat) : Int) pa k' = true by
      rw [wdef, Pq, decide_eq_true_eq, show pa / (h * 2) = c by rw [hc]; exact d3]; exact ⟨by omega, rfl⟩] at q
    exact q
  · have q := within_any (pa + h) ((k' + 1 : Nat) : Int) pa k' hb w
    rw [show withinB (pa + h) ((k' + 1 : Nat) : Int) pa k' = true by
      rw [wdef, Pq, decide_eq_true_eq, show (pa + h) / (h * 2) = c by rw [hc]; exact d4]; exact ⟨by omega, rfl⟩] at q
    exact q
  · rw [Pq, L, G, hy]
    by_cases y1 : x / h = 2 * c
    · rw [decide_eq_true y1, decide_eq_false (show ¬ x / h = 2 * c + 1 by omega), decide_eq_true (show x / h / 2 = c by omega)]; rfl
    · by_cases y2 : x / h = 2 * c + 1
      · rw [decide_eq_false y1, decide_eq_true y2, decide_eq_true (show x / h / 2 = c by omega)]; rfl
      · rw [decide_eq_false y1, decide_eq_false y2, decide_eq_false (show ¬ x / h / 2 = c by omega)]; rfl
  · rw [wdef, wdef, wdef, Qq, Qq, decide_eq_true_eq, decide_eq_true_eq]
    rintro ⟨h1, h2⟩
    exact ⟨⟨by omega, h2⟩, by omega, by rw [qp (by omega)]; exact h2⟩
  · refine two_eq ?_
    rw [Bool.or_eq_true, mdef, mdef, mdef, wdef, wdef, wdef, wdef, wdef, wdef, Qq, Qq, Pq, L, G]
    simp only [decide_eq_true_eq]
    by_cases hjk : j ≤ k'
    · rw [qp hjk]
      constructor
      · rintro (⟨h1, h2⟩ | ⟨h1, h2⟩)
        · exact Or.inl (Or.inl ⟨by omega, h2⟩)
        · obtain rfl : j = k' := by omega
          refine Or.inl (Or.inl ⟨by omega, ?_⟩)
          rw [hz, h2, hc]; exact d3
      · rintro ((⟨h1, h2⟩ | ⟨h1, h2⟩) | (⟨h1, h2⟩ | ⟨h1, h2⟩))
        · exact Or.inl ⟨by omega, h2⟩
        · omega
        · exact Or.inl ⟨by omega, h2⟩
        · omega
    · rw [hy]
      constructor
      · rintro (⟨h1, h2⟩ | ⟨h1, h2⟩)
        · omega
        · by_cases y1 : qa / h = 2 * c
          · exact Or.inl (Or.inr ⟨by omega, y1⟩)
          · exact Or.inr (Or.inr ⟨by omega, by omega⟩)
      · rintro ((⟨h1, h2⟩ | ⟨h1, h2⟩) | (⟨h1, h2⟩ | ⟨h1, h2⟩))
        · obtain rfl : j = k' + 1 := by omega
          rw [hh, show pa / h = 2 * c by rw [hc]; exact d1] at h2
          exact Or.inr ⟨by omega, by omega⟩
        · exact Or.inr ⟨by omega, by omega⟩
        · obtain rfl : j = k' + 1 := by omega
          rw [hh, show (pa + h) / h = 2 * c + 1 by rw [hc]; exact d2] at h2
          exact Or.inr ⟨by omega, by omega⟩
        · exact Or.inr ⟨by omega, by omega⟩
end Go.Proofs.YtgbphocmnpjjpabDoor
