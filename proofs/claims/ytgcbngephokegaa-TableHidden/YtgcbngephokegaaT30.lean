/- Hidden rules, plainly: a sweep over prefixes by their addresses; places behind prefixes' ends. What Last answers. -/
import Derived.Test.YtgcbngephokegaaT24
namespace Go.Proofs.Ytgcbngephokegaa
open Go.RowKit
set_option linter.unusedVariables false
set_option linter.unusedSimpArgs false

theorem adr_ltH : ∀ (q : Pth) (i : Nat), q.length + i ≤ 32 → adr i q < 2 ^ (32 - i)
  | [], i, _ => Nat.two_pow_pos _
  | b :: r, i, h => by
    rw [List.length_cons] at h
    have ih := adr_ltH r (i + 1) (by omega)
    rw [show 32 - (i + 1) = 31 - i by omega] at ih
    have e : 2 ^ (32 - i) = 2 ^ (31 - i) + 2 ^ (31 - i) := by rw [show 32 - i = (31 - i) + 1 by omega, Nat.pow_succ]; omega
    show (if b then 2 ^ (31 - i) else 0) + adr (i + 1) r < _
    rw [e]
    cases b <;> simp <;> omega
theorem plt_le : ∀ (q s : Pth) (i : Nat), q.length + i ≤ 32 → s.length + i ≤ 32 → plt q s = true → adr i q ≤ adr i s
  | [], [], i, _, _, h => by simp [plt] at h
  | _ :: _, [], i, _, _, h => by simp [plt] at h
  | [], b :: s, i, _, _, _ => Nat.zero_le _
  | a :: r, b :: s, i, h1, h2, h => by
    rw [List.length_cons] at h1 h2
    have hr := adr_ltH r (i + 1) (by omega)
    rw [show 32 - (i + 1) = 31 - i by omega] at hr
    have ih := plt_le r s (i + 1) (by omega) (by omega)
    show (if a then 2 ^ (31 - i) else 0) + adr (i + 1) r ≤ (if b then 2 ^ (31 - i) else 0) + adr (i + 1) s
    cases a <;> cases b <;> simp [plt] at h ⊢
    · exact ih h
    · omega
    · exact ih h
/-- A prefix's last address. -/
def lastR (x : Ru) : Nat := x.a + (sz x.n.toNat - 1)
theorem lastR_lt {x : Ru} (hr : rightB x.a x.n = true) (ha : x.a < 4294967296) : lastR x < 4294967296 := by
  obtain ⟨h0, h1, h2⟩ := of_decide_eq_true hr
  exact right_lt x.a x.n.toNat ha (by omega) h2
theorem has_iff {x : Ru} (hr : rightB x.a x.n = true) (A : Nat) : hasQ A x = true ↔ x.a ≤ A ∧ A ≤ lastR x := by
  obtain ⟨h0, h1, h2⟩ := of_decide_eq_true hr
  unfold hasQ lastR
  rw [decide_eq_true_eq]
  have hp := sz_pos x.n.toNat
  generalize sz x.n.toNat = s at h2 hp ⊢
  have e1 := Nat.div_add_mod A s
  have e2 := Nat.div_add_mod x.a s
  have l1 := Nat.mod_lt A hp
  rw [h2] at e2
  constructor
  · intro h
    rw [h] at e1
    omega
  · rintro ⟨h3, h4⟩
    obtain ⟨d, hd⟩ : ∃ d, A = x.a + d := ⟨A - x.a, by omega⟩
    have hds : d < s := by omega
    rw [hd, ← e2, Nat.add_zero, Nat.mul_add_div hp, Nat.div_eq_of_lt hds, Nat.mul_div_cancel_left _ hp]
    rfl
/-- All addresses of a rule are those of others ahead of it. -/
def HidP (M : List Ru) (r : Ru) : Prop := ∀ A, hasQ A r = true → ∃ x ∈ M, compR x r < 0 ∧ hasQ A x = true
def HidQ (M : List Ru) (id : Int) : Prop := ∃ r ∈ M, r.id = id ∧ HidP M r
/-- One prefix more. -/
def swp (r : Ru) (F : Nat) (x : Ru) : Nat := if x.a ≤ F ∧ compR x r < 0 then max F (lastR x + 1) else F
structure Sw (r : Ru) (rs : List Ru) (F : Nat) : Prop where
  lo : r.a ≤ F
  up : F ≤ 4294967296
  cov : ∀ A, r.a ≤ A → A < F → ∃ x ∈ rs, compR x r < 0 ∧ hasQ A x = true
  out : ∀ x ∈ rs, compR x r < 0 → lastR x < F ∨ F < x.a
theorem sw_nil (r : Ru) (hr : r.a < 4294967296) : Sw r [] r.a := ⟨Nat.le_refl _, by omega, fun A h1 h2 => by omega, fun x hx => by cases hx⟩
theorem Sw.snoc {r x : Ru} {rs : List Ru} {F : Nat} (h : Sw r rs F) (hs : ∀ y ∈ rs, y.a ≤ x.a) (hx : rightB x.a x.n = true) (ha : x.a < 4294967296) : Sw r (rs ++ [x]) (swp r F x) := by
  have hl := lastR_lt hx ha
  have h1 := h.up
  have h2 := h.lo
  unfold swp
  by_cases c : x.a ≤ F ∧ compR x r < 0
  · rw [if_pos c]
    refine ⟨by omega, by omega, fun A h3 h4 => ?_, fun y hy hc => ?_⟩
    · by_cases d : A < F
      · obtain ⟨y, hy, e⟩ := h.cov A h3 d
        exact ⟨y, List.mem_append_left _ hy, e⟩
      · exact ⟨x, List.mem_append_right _ List.mem_cons_self, c.2, (has_iff hx A).2 ⟨by omega, by omega⟩⟩
    · rcases List.mem_append.1 hy with q | q
      · rcases h.out y q hc with e | e
        · exact Or.inl (by omega)
        · have := hs y q
          omega
      · rw [List.mem_singleton.1 q]; exact Or.inl (by omega)
  · rw [if_neg c]
    refine ⟨h2, h1, fun A h3 h4 => ?_, fun y hy hc => ?_⟩
    · obtain ⟨y, hy, e⟩ := h.cov A h3 h4
      exact ⟨y, List.mem_append_left _ hy, e⟩
    · rcases List.mem_append.1 hy with q | q
      · exact h.out y q hc
      · rw [List.mem_singleton.1 q] at hc ⊢
        exact Or.inr (by
          have : ¬ x.a ≤ F := fun e => c ⟨e, hc⟩
          omega)
theorem has_meet {A : Nat} {r x : Ru} (hA : A < 4294967296) (hr : rightB r.a r.n = true) (hra : r.a < 4294967296) (hx : rightB x.a x.n = true) (hxa : x.a < 4294967296) (h1 : hasQ A r = true) (h2 : hasQ A x = true) : metQ (pth r.a r.n.toNat) (re x).1 = true := by
  have key : ∀ y : Ru, rightB y.a y.n = true → y.a < 4294967296 → hasQ A y = true → pth y.a y.n.toNat <+: pth A 32 := fun y hy hya h => by
    obtain ⟨h0, h1, -⟩ := of_decide_eq_true hy
    have e := (pth_eq (j := y.n.toNat) hA hya (by omega)).2 (of_decide_eq_true h)
    rw [← e]
    exact pth_pre A (by omega)
  rcases List.prefix_or_prefix_of_prefix (key r hr hra h1) (key x hx hxa h2) with q | q
  · exact decide_eq_true (Or.inr q)
  · exact decide_eq_true (Or.inl q)
theorem sw_all {M rs : List Ru} {r : Ru} {F : Nat} (h : Sw r rs F) (hM : MRight M) (hr : r ∈ M) (hm : ∀ x, x ∈ rs ↔ x ∈ meetR M r.a r.n) : (lastR r < F) ↔ HidP M r := by
  obtain ⟨hrr, hro⟩ := hM r hr
  have hl := lastR_lt hrr hro.1
  constructor
  · intro hF A hA
    have h1 := (has_iff hrr A).1 hA
    obtain ⟨x, hx, hc, hh⟩ := h.cov A h1.1 (by omega)
    exact ⟨x, ((mem_meetR hrr).1 ((hm x).1 hx)).1, hc, hh⟩
  · intro hP
    by_cases c : lastR r < F
    · exact c
    · have hF : hasQ F r = true := (has_iff hrr F).2 ⟨h.lo, by omega⟩
      obtain ⟨x, hx, hc, hh⟩ := hP F hF
      obtain ⟨hxr, hxo⟩ := hM x hx
      have hmx := (hm x).2 ((mem_meetR hrr).2 ⟨hx, has_meet (by omega) hrr hro.1 hxr hxo.1 hF hh⟩)
      have := (has_iff hxr F).1 hh
      rcases h.out x hmx hc with e | e <;> omega
/-- Who is the best one of an address that a rule has. -/
theorem best_not {m : List Ru} (hm : Asked m) {r : Ru} (hr : r ∈ m) {A : Nat} (hA : hasQ A r = true) : (bestA m A).1.id ≠ r.id ↔ ∃ x ∈ m, compR x r < 0 ∧ hasQ A x = true := by
  unfold bestA
  cases hf : m.find? (hasQ A) with
  | none => exact absurd hA (by have := List.find?_eq_none.1 hf r hr; exact this)
  | some y =>
    obtain ⟨hy, us, vs, rfl, hn⟩ := List.find?_eq_some_iff_append.1 hf
    have hst := List.pairwise_append.1 hm.s
    have hyb := List.pairwise_cons.1 hst.2.1
    show y.id ≠ r.id ↔ _
    have hnot : ∀ z ∈ us, hasQ A z = true → False := fun z hz q => by
      have := hn z hz
      rw [q] at this; simp at this
    constructor
    · intro hne
      refine ⟨y, by simp, ?_, hy⟩
      rcases List.mem_append.1 hr with q | q
      · exact (hnot r q hA).elim
      · rcases List.mem_cons.1 q with q | q
        · exact absurd (by rw [q]) hne
        · exact hyb.1 r q
    · rintro ⟨x, hx, hc, hh⟩ e
      have : y = r := id_inj hm.n (by simp) hr e
      subst this
      rcases List.mem_append.1 hx with q | q
      · exact hnot x q hh
      · rcases List.mem_cons.1 q with q | q
        · rw [q, compR_self] at hc; omega
        · have := hyb.1 x q
          rw [compR_neg y x] at hc
          omega
/-- The places that are asked. -/
def ptsO (y r : Ru) : List Nat := (if hasQ y.a r = true then [y.a] else []) ++ (if lastR y < 4294967295 ∧ hasQ (lastR y + 1) r = true then [lastR y + 1] else [])
def ptsN (m : List Ru) (r : Ru) : Nat → List Nat
  | 0 => [r.a]
  | k + 1 => ptsN m r k ++ match m[k]? with
    | none => []
    | some y => ptsO y r
theorem pts_succ {m : List Ru} {r y : Ru} {k : Nat} (h : m[k]? = some y) : ptsN m r (k + 1) = ptsN m r k ++ ptsO y r := by
  show ptsN m r k ++ (match m[k]? with | none => [] | some y => ptsO y r) = _
  rw [h]
theorem ptsO_in {y r : Ru} {a : Nat} (h : a ∈ ptsO y r) : hasQ a r = true := by
  unfold ptsO at h
  rcases List.mem_append.1 h with q | q
  · by_cases c : hasQ y.a r = true
    · rw [if_pos c] at q; rw [List.mem_singleton.1 q]; exact c
    · rw [if_neg c] at q; cases q
  · by_cases c : lastR y < 4294967295 ∧ hasQ (lastR y + 1) r = true
    · rw [if_pos c] at q; rw [List.mem_singleton.1 q]; exact c.2
    · rw [if_neg c] at q; cases q
theorem ptsO_len (y r : Ru) : (ptsO y r).length ≤ 2 := by
  unfold ptsO
  rw [List.length_append]
  have h1 : ∀ (c : Prop) [Decidable c] (a : Nat), (if c then [a] else []).length ≤ 1 := fun c _ a => by split <;> simp
  have h2 := h1 (hasQ y.a r = true) y.a
  have h3 := h1 (lastR y < 4294967295 ∧ hasQ (lastR y + 1) r = true) (lastR y + 1)
  omega
theorem pts_in (m : List Ru) (r : Ru) (hr : rightB r.a r.n = true) : ∀ i, ∀ a ∈ ptsN m r i, hasQ a r = true
  | 0, a, h => by rw [List.mem_singleton.1 h]; unfold hasQ; exact decide_eq_true rfl
  | k + 1, a, h => by
    cases hy : m[k]? with
    | none =>
      unfold ptsN at h
      rw [hy] at h
      rw [List.append_nil] at h
      exact pts_in m r hr k a h
    | some y =>
      rw [pts_succ hy] at h
      rcases List.mem_append.1 h with q | q
      · exact pts_in m r hr k a q
      · exact ptsO_in q
theorem pts_more (m : List Ru) (r : Ru) (k : Nat) : ∀ a ∈ ptsN m r k, a ∈ ptsN m r (k + 1) := fun a h => List.mem_append_left _ h
theorem pts_end (m : List Ru) (r : Ru) : ∀ i k y, k < i → m[k]? = some y → lastR y < 4294967295 → hasQ (lastR y + 1) r = true → lastR y + 1 ∈ ptsN m r i
  | 0, k, y, h, _, _, _ => by omega
  | i + 1, k, y, h, hy, h1, h2 => by
    by_cases c : k = i
    · subst c
      rw [pts_succ hy]
      refine List.mem_append_right _ (List.mem_append_right _ ?_)
      rw [if_pos ⟨h1, h2⟩]; exact List.mem_singleton.2 rfl
    · exact pts_more m r i _ (pts_end m r i k y (by omega) hy h1 h2)
theorem pts_first (m : List Ru) (r : Ru) : ∀ i, r.a ∈ ptsN m r i
  | 0 => List.mem_singleton.2 rfl
  | i + 1 => pts_more m r i _ (pts_first m r i)
theorem pts_len (m : List Ru) (r : Ru) : ∀ i, (ptsN m r i).length ≤ 1 + 2 * i
  | 0 => Nat.le_refl _
  | i + 1 => by
    have := pts_len m r i
    cases hy : m[i]? with
    | none =>
      unfold ptsN
      rw [hy, List.append_nil]
      omega
    | some y =>
      rw [pts_succ hy, List.length_append]
      have := ptsO_len y r
      omega
theorem least_not {P : Nat → Prop} {n : Nat} (h : ¬ P n) : ∃ k, k ≤ n ∧ ¬ P k ∧ ∀ j, j < k → P j := by
  induction n using Nat.strongRecOn with
  | _ n ih =>
    by_cases c : ∀ j, j < n → P j
    · exact ⟨n, Nat.le_refl _, h, c⟩
    · obtain ⟨j, hj⟩ := Classical.not_forall.1 c
      obtain ⟨hj1, hj2⟩ := Classical.not_imp.1 hj
      obtain ⟨k, h1, h2, h3⟩ := ih j hj1 hj2
      exact ⟨k, by omega, h2, h3⟩
theorem pts_all {m : List Ru} (hm : Asked m) (hM : MRight m) {i : Nat} {r : Ru} (hr : m[i]? = some r) : (∀ a ∈ ptsN m r i, (bestA m a).1.id ≠ r.id) ↔ HidP m r := by
  have hmem := List.mem_of_getElem? hr
  obtain ⟨hrr, hro⟩ := hM r hmem
  have hl := lastR_lt hrr hro.1
  constructor
  · intro h A hA
    refine Classical.byContradiction (fun hno => ?_)
    have hno' : ¬ (hasQ A r = true → ∃ x ∈ m, compR x r < 0 ∧ hasQ A x = true) := fun q => hno (q hA)
    obtain ⟨B, -, hB, hlow⟩ := least_not (P := fun A => hasQ A r = true → ∃ x ∈ m, compR x r < 0 ∧ hasQ A x = true) hno'
    obtain ⟨hBr, hBn⟩ := Classical.not_imp.1 hB
    have hBi := (has_iff hrr B).1 hBr
    have hpt : B ∈ ptsN m r i := by
      by_cases c : B = r.a
      · rw [c]; exact pts_first m r i
      · have hC : hasQ (B - 1) r = true := (has_iff hrr _).2 ⟨by omega, by omega⟩
        obtain ⟨x, hx, hc, hh⟩ := hlow (B - 1) (by omega) hC
        obtain ⟨hxr, hxo⟩ := hM x hx
        have hxi := (has_iff hxr _).1 hh
        have hnB : ¬ hasQ B x = true := fun q => hBn ⟨x, hx, hc, q⟩
        rw [has_iff hxr] at hnB
        have hlx : lastR x + 1 = B := by omega
        obtain ⟨k, hk, hkx⟩ := List.mem_iff_getElem.1 hx
        have hki : k < i := by
          obtain ⟨hi, ei⟩ := List.getElem?_eq_some_iff.1 hr
          rcases Nat.lt_trichotomy k i with q | q | q
          · exact q
          · subst q
            rw [hkx] at ei; rw [ei, compR_self] at hc; omega
          · have := List.pairwise_iff_getElem.1 hm.s i k hi hk q
            rw [ei, hkx, compR_neg x r] at this
            omega
        rw [← hlx]
        exact pts_end m r i k x hki (by rw [List.getElem?_eq_getElem hk, hkx]) (by omega) (by rw [hlx]; exact hBr)
    exact hBn ((best_not hm hmem hBr).1 (h B hpt))
  · intro hP a ha
    have hh := pts_in m r hrr i a ha
    exact (best_not hm hmem hh).2 (hP a hh)
set_option maxHeartbeats 1000000 in
theorem hlast_any (x : Ru) (hx : rightB x.a x.n = true) (ha : x.a < 4294967296) (w : World) :
    Calls Try.prog 60 #[pv (x.a : Nat) x.n] w fun e w' => e = .returned (.int .u32 (lastR x : Nat)) ∧ Below w.heap.size w w' := by
  have hM := fun w => (cmask_any x.n w).mono (fun e w' (h : e = _ ∧ w = w') => (⟨h.1, h.2.symm⟩ : e = _ ∧ w' = w))
  obtain ⟨h0, h1, h2⟩ := of_decide_eq_true hx
  have e : lastR x = x.a ||| (sz (inB x.n) - 1) := by
    rw [inB_of _ h0 h1, or_last _ _ h2]; rfl
  rw [e]
  go_enter Try.func60, Try.ntmps60
  go_wp2_with fail
  go_quiet ((go_at_call 65; exact Calls.quiet_of_same (hM _)))
  go_wp2_with fail
  go_ret
  refine ⟨cret_int ?_, below_drewN (cbelow_al (Below.refl _ _) _) _⟩
  show bits BinOp.or IntKind.u32 (x.a : Int) (bits BinOp.xor IntKind.u32 IntKind.u32.max (mk (inB x.n) : Int)) = _
  have h1 := sz_pos (inB x.n)
  have h2 := sz_le (inB x.n)
  rw [xor_mk, bits_or_u32 _ _ ha (by omega)]
set_option maxHeartbeats 1000000 in
theorem hrlast_any (x : Ru) (hx : rightB x.a x.n = true) (ha : x.a < 4294967296) (w : World) :
    Calls Try.prog 61 #[pv (x.a : Nat) x.n] w fun e w' => e = .returned (.int .u32 (lastR x : Nat)) ∧ Below w.heap.size w w' := by
  have hlt := lastR_lt hx ha
  obtain ⟨h0, h1, h2⟩ := of_decide_eq_true hx
  obtain ⟨k, hk⟩ := Int.eq_ofNat_of_zero_le h0
  unfold lastR at hlt ⊢
  rw [hk] at hlt ⊢
  rw [Int.toNat_natCast] at hlt ⊢
  have hS := rsize_any k (by omega)
  have hp := sz_pos k
  have hl := sz_le k
  generalize sz k = s at *
  generalize x.a = a at *
  go_enter Try.func61, Try.ntmps61
  go_wp2_with fail
  go_quiet ((go_at_call 64; exact Calls.quiet_of_same (hS _)))
  go_wp2_with fail
  go_ret
  refine ⟨cret_int ?_, below_drewN (cbelow_al (Below.refl _ _) _) _⟩
  first | omega | (simp only [IntKind.wrap_u64, IntKind.wrap_u32]; omega)
end Go.Proofs.Ytgcbngephokegaa
