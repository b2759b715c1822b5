/- The document's order of entries. -/
import Derived.Test.YtgcbngephokegaaPK
import Derived.Test.YtgcbngephokegaaK12
namespace Go.Proofs.Ytgcbngephokegaa
open Go.RowKit
set_option linter.unusedVariables false
set_option linter.unusedSimpArgs false

theorem adr_lt : ∀ (q : Pth) (i : Nat), q.length + i ≤ 32 → adr i q < 2 ^ (32 - i)
  | [], i, _ => Nat.two_pow_pos _
  | b :: r, i, h => by
    rw [List.length_cons] at h
    have ih := adr_lt r (i + 1) (by omega)
    rw [show 32 - (i + 1) = 31 - i by omega] at ih
    have e : 2 ^ (32 - i) = 2 ^ (31 - i) + 2 ^ (31 - i) := by rw [show 32 - i = (31 - i) + 1 by omega, Nat.pow_succ]; omega
    show (if b then 2 ^ (31 - i) else 0) + adr (i + 1) r < _
    rw [e]
    cases b <;> simp <;> omega
theorem plt_lex : ∀ (q s : Pth) (i : Nat), q.length + i ≤ 32 → s.length + i ≤ 32 → plt q s = true → adr i q < adr i s ∨ (adr i q = adr i s ∧ q.length < s.length)
  | [], [], i, _, _, h => by simp [plt] at h
  | _ :: _, [], i, _, _, h => by simp [plt] at h
  | [], b :: s, i, _, _, _ => by
    rcases Nat.eq_zero_or_pos (adr i (b :: s)) with c | c
    · exact Or.inr ⟨c.symm, by simp⟩
    · exact Or.inl c
  | a :: r, b :: s, i, h1, h2, h => by
    rw [List.length_cons] at h1 h2
    have hr := adr_lt r (i + 1) (by omega)
    rw [show 32 - (i + 1) = 31 - i by omega] at hr
    have ih := plt_lex r s (i + 1) (by omega) (by omega)
    show (if a then 2 ^ (31 - i) else 0) + adr (i + 1) r < (if b then 2 ^ (31 - i) else 0) + adr (i + 1) s ∨ ((if a then 2 ^ (31 - i) else 0) + adr (i + 1) r = (if b then 2 ^ (31 - i) else 0) + adr (i + 1) s ∧ (r.length + 1) < (s.length + 1))
    cases a <;> cases b <;> simp [plt] at h ⊢
    · rcases ih h with c | ⟨c, d⟩
      · exact Or.inl c
      · exact Or.inr ⟨c, d⟩
    · omega
    · rcases ih h with c | ⟨c, d⟩
      · exact Or.inl c
      · exact Or.inr ⟨c, d⟩
/-- The document's order, by numbers. -/
def befB (a : Nat) (n v : Int) (b : Nat) (m u : Int) : Bool := if (a : Int) ≠ (b : Int) then decide ((a : Int) < (b : Int)) else if n ≠ m then decide (n < m) else decide (v < u)
def befE (x y : Ent) : Bool := befB (ad x.1) (x.1.length : Nat) x.2 (ad y.1) (y.1.length : Nat) y.2
theorem befB_iff (a : Nat) (n v : Int) (b : Nat) (m u : Int) : befB a n v b m u = true ↔ a < b ∨ (a = b ∧ (n < m ∨ (n = m ∧ v < u))) := by
  unfold befB
  (repeat' split) <;> simp only [decide_eq_true_eq] <;> omega
theorem elt_bef {x y : Ent} (hx : x.1.length ≤ 32) (hy : y.1.length ≤ 32) : elt x y ↔ befE x y = true := by
  have key : ∀ {x y : Ent}, x.1.length ≤ 32 → y.1.length ≤ 32 → elt x y → befE x y = true := fun {x y} hx hy h => by
    unfold befE
    rw [befB_iff]
    rcases h with h | ⟨h1, h2⟩
    · rcases plt_lex x.1 y.1 0 hx hy h with c | ⟨c, d⟩
      · exact Or.inl c
      · exact Or.inr ⟨c, Or.inl (by omega)⟩
    · rw [h1]; exact Or.inr ⟨rfl, Or.inr ⟨rfl, h2⟩⟩
  refine ⟨key hx hy, fun h => ?_⟩
  rcases elt_total x y with e | e | e
  · unfold befE at h; rw [befB_iff] at h
    subst e
    omega
  · exact e
  · have := key hy hx e
    unfold befE at h this
    rw [befB_iff] at h this
    omega
set_option maxRecDepth 100000 in
theorem before_any (a : Nat) (n v : Int) (b : Nat) (m u : Int) (W : World) : Calls Try.prog 46 #[.agg #[.int .u32 (a : Nat), .int .i64 n, .int .i64 v], .agg #[.int .u32 (b : Nat), .int .i64 m, .int .i64 u]] W fun e w' => e = .returned (.bool (befB a n v b m u)) ∧ Below W.heap.size W w' := by
  have key : (a : Int) ≠ (b : Int) ∨ ((a : Int) = (b : Int) ∧ n ≠ m) ∨ ((a : Int) = (b : Int) ∧ n = m) := by omega
  have hS : ∀ w, w = (W.alloc (.cells #[.int .u32 (a : Nat), .int .i64 n, .int .i64 v] 93)).alloc (.cells #[.int .u32 (b : Nat), .int .i64 m, .int .i64 u] 93) → Blk w W.heap.size [.int .u32 (a : Nat), .int .i64 n, .int .i64 v] ∧ Blk w (W.heap.size + 1) [.int .u32 (b : Nat), .int .i64 m, .int .i64 u] ∧ Below W.heap.size W w := fun w hw => by
    subst hw
    refine ⟨(Blk.new W _ [.int .u32 (a : Nat), .int .i64 n, .int .i64 v]).on (bel_al (Below.refl _ _) _), ?_, bel_on' (bel_al (Below.refl _ _) _) (bel_al (Below.refl _ _) _)⟩
    have := Blk.new (W.alloc (.cells #[.int .u32 (a : Nat), .int .i64 n, .int .i64 v] 93)) 93 [.int .u32 (b : Nat), .int .i64 m, .int .i64 u]
    rw [World.size_alloc] at this
    exact this
  go_enter Try.func46, Try.ntmps46
  go_upto_region 1 with fail
  refine at_code (S := fun w => Blk w W.heap.size [.int .u32 (a : Nat), .int .i64 n, .int .i64 v] ∧ Blk w (W.heap.size + 1) [.int .u32 (b : Nat), .int .i64 m, .int .i64 u] ∧ Below W.heap.size W w) (hS _ rfl) (fun W0 h0 => ?_)
  have x_0 := h0.1.1 0 _ rfl
  have x_1 := h0.1.1 1 _ rfl
  have x_2 := h0.1.1 2 _ rfl
  have y_0 := h0.2.1.1 0 _ rfl
  have y_1 := h0.2.1.1 1 _ rfl
  have y_2 := h0.2.1.1 2 _ rfl
  have B0 := Lib.hid h0.2.2
  clear h0 hS
  rcases key with h | ⟨h1, h⟩ | ⟨h1, h⟩
  · have e1 : ((a : Int) == (b : Int)) = false := by simp only [beq_eq_false_iff_ne]; exact h
    have ea := Lib.hid (show befB a n v b m u = decide (a < b) from (if_pos h).trans (decide_eq_decide.2 Int.ofNat_lt))
    clear h
    go_wp2
    go_ret
    exact ⟨cret_bool ea.out.symm, B0.out⟩
  · have e1 : ((a : Int) == (b : Int)) = true := by simp only [beq_iff_eq]; exact h1
    have e2 : (n == m) = false := by simp [h]
    have ea := Lib.hid (show befB a n v b m u = decide (n < m) by unfold befB; rw [if_neg (fun q => q h1), if_pos h])
    clear h1 h
    go_wp2
    go_ret
    exact ⟨cret_bool ea.out.symm, B0.out⟩
  · have e1 : ((a : Int) == (b : Int)) = true := by simp only [beq_iff_eq]; exact h1
    have e2 : (n == m) = true := by simp [h]
    have ea := Lib.hid (show befB a n v b m u = decide (v < u) by unfold befB; rw [if_neg (fun q => q h1), if_neg (fun q => q h)])
    clear h1 h
    go_wp2
    go_ret
    exact ⟨cret_bool ea.out.symm, B0.out⟩
end Go.Proofs.Ytgcbngephokegaa
