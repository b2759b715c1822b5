/- Texts joined, in their order: S1, S2, S4, MV. -/
import Derived.Test.YtgcbngephokegabGa443d5132f
import Derived.Test.YtgcbngephokegabG2d43a54908
import Derived.Test.YtgcbngephokegabGe31e430b94
/- How many headers a set has, plain: by nodes, and by all ways of holding bits. No program in sight. -/
namespace Go.Proofs.Ytgcbngephokegab
set_option linter.unusedVariables false

/-- In how many ways the bits from a set's first one on can be set. -/
def wyF (ns : List Nd) : Nat → Nat → Nat
  | 0, f => f
  | k + 1, f => if f ≤ 1 then f else wyF ns k (ns.getD f bot).l * 2 ^ (lv ns (ns.getD f bot).l - lv ns f - 1) + wyF ns k (ns.getD f bot).h * 2 ^ (lv ns (ns.getD f bot).h - lv ns f - 1)
def wy (ns : List Nd) (f : Nat) : Nat := wyF ns f f
theorem wyF_succ (ns : List Nd) (k f : Nat) : wyF ns (k + 1) f = if f ≤ 1 then f else wyF ns k (ns.getD f bot).l * 2 ^ (lv ns (ns.getD f bot).l - lv ns f - 1) + wyF ns k (ns.getD f bot).h * 2 ^ (lv ns (ns.getD f bot).h - lv ns f - 1) := rfl
theorem wyF_end (ns : List Nd) : ∀ (k : Nat) {f : Nat}, f ≤ 1 → wyF ns k f = f
  | 0, _, _ => rfl
  | k + 1, f, h => by rw [wyF_succ, if_pos h]
theorem wy_end (ns : List Nd) {f : Nat} (h : f ≤ 1) : wy ns f = f := wyF_end ns f h
theorem wyF_fuel {ns : List Nd} (h : WF ns) : ∀ k f, f ≤ k → f < ns.length → wyF ns k f = wy ns f := by
  intro k
  induction k using Nat.strongRecOn with
  | ind k ih =>
    intro f hk hf
    rcases Nat.lt_or_ge f 2 with q | q
    · rw [wyF_end ns k (by omega), wy_end ns (by omega)]
    · obtain ⟨k, rfl⟩ : ∃ j, k = j + 1 := ⟨k - 1, by omega⟩
      obtain ⟨f, rfl⟩ : ∃ j, f = j + 1 := ⟨f - 1, by omega⟩
      obtain ⟨h1, h2, -⟩ := h.parts q hf
      unfold wy
      rw [wyF_succ, wyF_succ, if_neg (show ¬ f + 1 ≤ 1 by omega), if_neg (show ¬ f + 1 ≤ 1 by omega)]
      rw [ih k (by omega) _ (by omega) (by omega), ih k (by omega) _ (by omega) (by omega)]
      rcases Nat.lt_or_ge f k with r | r
      · rw [ih f (by omega) _ (by omega) (by omega), ih f (by omega) _ (by omega) (by omega)]
      · have : f = k := by omega
        subst this
        rw [ih f (by omega) _ (by omega) (by omega), ih f (by omega) _ (by omega) (by omega)]
theorem wy_node {ns : List Nd} (h : WF ns) {f : Nat} (h2 : 2 ≤ f) (hf : f < ns.length) :
    wy ns f = wy ns (ns.getD f bot).l * 2 ^ (lv ns (ns.getD f bot).l - lv ns f - 1) + wy ns (ns.getD f bot).h * 2 ^ (lv ns (ns.getD f bot).h - lv ns f - 1) := by
  obtain ⟨a, b, -⟩ := h.parts h2 hf
  obtain ⟨g, rfl⟩ : ∃ j, f = j + 1 := ⟨f - 1, by omega⟩
  show wyF ns (g + 1) (g + 1) = _
  rw [wyF_succ, if_neg (show ¬ g + 1 ≤ 1 by omega), wyF_fuel h _ _ (by omega) (by omega), wyF_fuel h _ _ (by omega) (by omega)]
theorem wy_le {ns : List Nd} (h : WF ns) : ∀ f, f < ns.length → wy ns f ≤ 2 ^ (104 - lv ns f) := by
  intro f
  induction f using Nat.strongRecOn with
  | ind f ih =>
    intro hf
    rcases Nat.lt_or_ge f 2 with q | q
    · rw [wy_end ns (by omega), lv_end h (by omega)]; simp; omega
    · obtain ⟨a, b, -, c, d, g⟩ := h.parts q hf
      have l1 := lv_le h (f := (ns.getD f bot).l)
      have l2 := lv_le h (f := (ns.getD f bot).h)
      have i1 := Nat.mul_le_mul_right (2 ^ (lv ns (ns.getD f bot).l - lv ns f - 1)) (ih _ a (by omega))
      have i2 := Nat.mul_le_mul_right (2 ^ (lv ns (ns.getD f bot).h - lv ns f - 1)) (ih _ b (by omega))
      rw [← Nat.pow_add] at i1 i2
      rw [show 104 - lv ns (ns.getD f bot).l + (lv ns (ns.getD f bot).l - lv ns f - 1) = 104 - lv ns f - 1 by omega] at i1
      rw [show 104 - lv ns (ns.getD f bot).h + (lv ns (ns.getD f bot).h - lv ns f - 1) = 104 - lv ns f - 1 by omega] at i2
      rw [wy_node h q hf, show 104 - lv ns f = 104 - lv ns f - 1 + 1 by omega, Nat.pow_succ]
      omega
/-- How many, over the last n bits. -/
def kd (φ : (Nat → Bool) → Bool) : Nat → (Nat → Bool) → Nat
  | 0, e => (φ e).toNat
  | n + 1, e => kd φ n (hld e (103 - n) false) + kd φ n (hld e (103 - n) true)
theorem kd_succ (φ : (Nat → Bool) → Bool) (n : Nat) (e : Nat → Bool) : kd φ (n + 1) e = kd φ n (hld e (103 - n) false) + kd φ n (hld e (103 - n) true) := rfl
theorem hld_agree {e e' : Nat → Bool} {n : Nat} {b : Bool} (hn : n + 1 ≤ 104) (h : ∀ i, i < 104 - n → e' i = hld e (103 - n) b i) : e' (103 - n) = b ∧ ∀ i, i < 104 - (n + 1) → e' i = e i :=
  ⟨by rw [h _ (by omega), hld_same], fun i hi => by rw [h i (by omega), hld_ne _ _ (by omega)]⟩
theorem kd_congr {φ ψ : (Nat → Bool) → Bool} : ∀ n e, n ≤ 104 → (∀ e', (∀ i, i < 104 - n → e' i = e i) → φ e' = ψ e') → kd φ n e = kd ψ n e
  | 0, e, _, h => by show (φ e).toNat = (ψ e).toNat; rw [h e (fun _ _ => rfl)]
  | n + 1, e, hn, h => by
    rw [kd_succ, kd_succ, kd_congr n _ (by omega) (fun e' he => h e' (hld_agree hn he).2), kd_congr n _ (by omega) (fun e' he => h e' (hld_agree hn he).2)]
theorem kd_add (φ ψ : (Nat → Bool) → Bool) : ∀ n e, kd (fun e => φ e && ψ e) n e + kd (fun e => φ e || ψ e) n e = kd φ n e + kd ψ n e
  | 0, e => by show (φ e && ψ e).toNat + (φ e || ψ e).toNat = (φ e).toNat + (ψ e).toNat; cases φ e <;> cases ψ e <;> rfl
  | n + 1, e => by
    rw [kd_succ, kd_succ, kd_succ, kd_succ]
    have a := kd_add φ ψ n (hld e (103 - n) false)
    have b := kd_add φ ψ n (hld e (103 - n) true)
    omega
theorem kd_not (φ : (Nat → Bool) → Bool) : ∀ n e, kd φ n e + kd (fun e => !φ e) n e = 2 ^ n
  | 0, e => by show (φ e).toNat + (!φ e).toNat = 1; cases φ e <;> rfl
  | n + 1, e => by
    rw [kd_succ, kd_succ, Nat.pow_succ]
    have a := kd_not φ n (hld e (103 - n) false)
    have b := kd_not φ n (hld e (103 - n) true)
    omega
theorem kd_const (b : Bool) : ∀ n e, kd (fun _ => b) n e = b.toNat * 2 ^ n
  | 0, e => by show b.toNat = _; simp
  | n + 1, e => by rw [kd_succ, kd_const b n, kd_const b n, Nat.pow_succ, ← Nat.mul_assoc]; omega
theorem kd_wy {ns : List Nd} (h : WF ns) : ∀ n f e, n ≤ 104 → f < ns.length → 104 - n ≤ lv ns f → kd (fun e => ev ns e f) n e = wy ns f * 2 ^ (lv ns f - (104 - n)) := by
  intro n
  induction n with
  | zero =>
    intro f e _ hf hl
    have hf1 : f ≤ 1 := by
      rcases Nat.lt_or_ge f 2 with q | q
      · omega
      · have := (h.parts q hf).2.2.2.2.2; omega
    rw [wy_end ns hf1, lv_end h hf1]
    show (ev ns e f).toNat = _
    have : f = 0 ∨ f = 1 := by omega
    rcases this with rfl | rfl <;> rfl
  | succ n ih =>
    intro f e hn hf hl
    rw [kd_succ]
    rcases Nat.lt_or_ge (103 - n) (lv ns f) with q | q
    · rw [ih f _ (by omega) hf (by omega), ih f _ (by omega) hf (by omega), show lv ns f - (104 - (n + 1)) = lv ns f - (104 - n) + 1 by omega, Nat.pow_succ, ← Nat.mul_assoc]
      omega
    · have e1 : lv ns f = 103 - n := by omega
      have h2 : 2 ≤ f := lv_two h hf (by omega)
      obtain ⟨a, b, -, c, d, -⟩ := h.parts h2 hf
      have k1 : kd (fun e => ev ns e f) n (hld e (103 - n) false) = kd (fun e => ev ns e (ns.getD f bot).l) n (hld e (103 - n) false) :=
        kd_congr n _ (by omega) (fun e' he => by
          show ev ns e' f = _
          rw [ev_node h e' h2 hf, e1, (hld_agree hn he).1]; rfl)
      have k2 : kd (fun e => ev ns e f) n (hld e (103 - n) true) = kd (fun e => ev ns e (ns.getD f bot).h) n (hld e (103 - n) true) :=
        kd_congr n _ (by omega) (fun e' he => by
          show ev ns e' f = _
          rw [ev_node h e' h2 hf, e1, (hld_agree hn he).1]; rfl)
      rw [k1, k2, ih _ _ (by omega) (by omega) (by omega), ih _ _ (by omega) (by omega) (by omega), wy_node h h2 hf, e1]
      rw [show 104 - (n + 1) = 103 - n by omega, Nat.sub_self, Nat.pow_zero, Nat.mul_one]
      rw [show lv ns (ns.getD f bot).l - (104 - n) = lv ns (ns.getD f bot).l - (103 - n) - 1 by omega, show lv ns (ns.getD f bot).h - (104 - n) = lv ns (ns.getD f bot).h - (103 - n) - 1 by omega]
/-- How many headers there are of which a thing is so. -/
def many (φ : (Nat → Bool) → Bool) : Nat := kd φ 104 (fun _ => false)
theorem many_le (φ : (Nat → Bool) → Bool) : many φ ≤ 2 ^ 104 := by have := kd_not φ 104 (fun _ => false); unfold many; omega
theorem many_wy {ns : List Nd} (h : WF ns) {f : Nat} (hf : f < ns.length) : wy ns f * 2 ^ lv ns f = many (fun e => ev ns e f) := by
  unfold many
  rw [kd_wy h 104 f _ (Nat.le_refl _) hf (by omega)]; rfl
theorem many_eq {φ ψ : (Nat → Bool) → Bool} (h : ∀ e, φ e = ψ e) : many φ = many ψ := kd_congr _ _ (Nat.le_refl _) (fun e _ => h e)
theorem many_zero {ns : List Nd} (h : WF ns) {f : Nat} (hf : f < ns.length) : many (fun e => ev ns e f) = 0 ↔ f = 0 := by
  have pos : ∀ f, f < ns.length → f ≠ 0 → 0 < wy ns f := by
    intro f
    induction f using Nat.strongRecOn with
    | ind f ih =>
      intro hf h0
      rcases Nat.lt_or_ge f 2 with q | q
      · rw [wy_end ns (by omega)]; omega
      · obtain ⟨a, b, nab, -⟩ := h.parts q hf
        rw [wy_node h q hf]
        by_cases z : (ns.getD f bot).l = 0
        · have := Nat.mul_pos (ih _ b (by omega) (by omega)) (Nat.pow_pos (n := lv ns (ns.getD f bot).h - lv ns f - 1) (show 0 < 2 by omega)); omega
        · have := Nat.mul_pos (ih _ a (by omega) z) (Nat.pow_pos (n := lv ns (ns.getD f bot).l - lv ns f - 1) (show 0 < 2 by omega)); omega
  rw [← many_wy h hf]
  constructor
  · intro e
    refine Classical.byContradiction fun z => ?_
    have := Nat.mul_pos (pos f hf z) (Nat.pow_pos (n := lv ns f) (show 0 < 2 by omega)); omega
  · rintro rfl
    rw [wy_end ns (by omega), Nat.zero_mul]
/-- Some bits held: so many are left. -/
theorem kd_all : ∀ (n : Nat) (l : List (Nat × Bool)) (e : Nat → Bool), n ≤ 104 → l.Pairwise (fun a b => a.1 < b.1) → (∀ p ∈ l, 104 - n ≤ p.1 ∧ p.1 < 104) →
    l.length ≤ n ∧ kd (fun e => l.all (fun p => e p.1 == p.2)) n e = 2 ^ (n - l.length)
  | 0, l, e, _, _, hb => by
    cases l with
    | nil => exact ⟨Nat.le_refl _, rfl⟩
    | cons p r => have := hb p (List.mem_cons_self ..); omega
  | n + 1, [], e, _, _, _ => ⟨by simp, by
    have := kd_const true (n + 1) e
    simp only [List.all_nil, List.length_nil, Nat.sub_zero]
    rw [this]; simp⟩
  | n + 1, (v, b) :: r, e, hn, hr, hb => by
    obtain ⟨hr1, hr2⟩ := List.pairwise_cons.1 hr
    have hv := hb (v, b) (List.mem_cons_self ..)
    simp only at hv
    rw [kd_succ]
    by_cases q : v = 103 - n
    · have hrb : ∀ p ∈ r, 104 - n ≤ p.1 ∧ p.1 < 104 := fun p hp => ⟨by have := hr1 p hp; simp only at this; omega, (hb p (List.mem_cons_of_mem _ hp)).2⟩
      obtain ⟨g1, g2⟩ := kd_all n r (hld e (103 - n) b) (by omega) hr2 hrb
      refine ⟨by simp; omega, ?_⟩
      have yes : kd (fun e => ((v, b) :: r).all (fun p => e p.1 == p.2)) n (hld e (103 - n) b) = 2 ^ (n - r.length) := by
        rw [← g2]
        refine kd_congr n _ (by omega) (fun e' he => ?_)
        have := (hld_agree hn he).1
        simp only [List.all_cons]
        rw [q, this]; simp
      have no : kd (fun e => ((v, b) :: r).all (fun p => e p.1 == p.2)) n (hld e (103 - n) (!b)) = 0 := by
        have := kd_const false n (hld e (103 - n) (!b))
        rw [show (0 : Nat) = false.toNat * 2 ^ n by simp, ← this]
        refine kd_congr n _ (by omega) (fun e' he => ?_)
        have := (hld_agree hn he).1
        simp only [List.all_cons]
        rw [q, this]; cases b <;> simp
      have e1 : n + 1 - ((v, b) :: r).length = n - r.length := by simp
      rw [e1]
      cases b with
      | false => rw [yes]; simp only [Bool.not_false] at no; rw [no]; rfl
      | true => rw [yes]; simp only [Bool.not_true] at no; rw [no]; omega
    · have hrb : ∀ p ∈ ((v, b) :: r), 104 - n ≤ p.1 ∧ p.1 < 104 := fun p hp => by
        rcases List.mem_cons.1 hp with rfl | hp
        · simp only; omega
        · have h1 := hr1 p hp
          simp only at h1
          exact ⟨by omega, (hb p (List.mem_cons_of_mem _ hp)).2⟩
      obtain ⟨g1, g2⟩ := kd_all n _ (hld e (103 - n) false) (by omega) hr hrb
      obtain ⟨-, g3⟩ := kd_all n _ (hld e (103 - n) true) (by omega) hr hrb
      refine ⟨by omega, ?_⟩
      rw [g2, g3, show n + 1 - ((v, b) :: r).length = n - ((v, b) :: r).length + 1 by omega, Nat.pow_succ]
      omega
theorem many_all {l : List (Nat × Bool)} (hr : l.Pairwise (fun a b => a.1 < b.1)) (h : ∀ p ∈ l, p.1 < 104) : l.length ≤ 104 ∧ many (fun e => l.all (fun p => e p.1 == p.2)) = 2 ^ (104 - l.length) :=
  kd_all 104 l _ (Nat.le_refl _) hr (fun p hp => ⟨by omega, h p hp⟩)
end Go.Proofs.Ytgcbngephokegab
/- The least and the greatest header of a set, bit by bit; whether all of a set is another one's, pair by pair: plain. No program in sight. -/
namespace Go.Proofs.Ytgcbngephokegab
set_option linter.unusedVariables false

/-- A set's parts for a bit that is its first one, or ahead of that. -/
def ptF (ns : List Nd) (f i : Nat) : Nat × Nat := if lv ns f = i then ((ns.getD f bot).l, (ns.getD f bot).h) else (f, f)
def sd (p : Nat × Nat) (on : Bool) : Nat := if on then p.2 else p.1
theorem ptF_at {ns : List Nd} {f i : Nat} (h : lv ns f = i) : ptF ns f i = ((ns.getD f bot).l, (ns.getD f bot).h) := if_pos h
theorem ptF_off {ns : List Nd} {f i : Nat} (h : lv ns f ≠ i) : ptF ns f i = (f, f) := if_neg h
theorem pt_ok {ns : List Nd} (h : WF ns) {f i : Nat} (hf : f < ns.length) (hi : i ≤ lv ns f) (h104 : i < 104) (b : Bool) :
    sd (ptF ns f i) b < ns.length ∧ i + 1 ≤ lv ns (sd (ptF ns f i) b) ∧ ∀ e, e i = b → ev ns e f = ev ns e (sd (ptF ns f i) b) := by
  by_cases q : lv ns f = i
  · have h2 : 2 ≤ f := lv_two h hf (by omega)
    obtain ⟨a, c, -, d, g, -⟩ := h.parts h2 hf
    rw [ptF_at q]
    cases b with
    | false => exact ⟨by show (ns.getD f bot).l < _; omega, by show _ ≤ lv ns (ns.getD f bot).l; omega, fun e he => by rw [ev_node h e h2 hf, q, he]; rfl⟩
    | true => exact ⟨by show (ns.getD f bot).h < _; omega, by show _ ≤ lv ns (ns.getD f bot).h; omega, fun e he => by rw [ev_node h e h2 hf, q, he]; rfl⟩
  · rw [ptF_off q]
    have e1 : sd (f, f) b = f := by cases b <;> rfl
    rw [e1]
    exact ⟨hf, by omega, fun _ _ => rfl⟩
theorem pt_some {ns : List Nd} (h : WF ns) {f i : Nat} (hf : f < ns.length) (h0 : f ≠ 0) (hi : i ≤ lv ns f) (h104 : i < 104) (b : Bool) (hz : sd (ptF ns f i) b = 0) : sd (ptF ns f i) (!b) ≠ 0 := by
  intro hz'
  by_cases q : lv ns f = i
  · have h2 : 2 ≤ f := lv_two h hf (by omega)
    obtain ⟨a, c, n, -⟩ := h.parts h2 hf
    rw [ptF_at q] at hz hz'
    cases b
    · exact n ((show (ns.getD f bot).l = 0 from hz).trans (show (ns.getD f bot).h = 0 from hz').symm)
    · exact n ((show (ns.getD f bot).l = 0 from hz').trans (show (ns.getD f bot).h = 0 from hz).symm)
  · rw [ptF_off q] at hz
    have e1 : sd (f, f) b = f := by cases b <;> rfl
    rw [e1] at hz; exact h0 hz
/-- The bit of a round. -/
def utB (ns : List Nd) (on : Bool) (f i : Nat) : Bool := if sd (ptF ns f i) on = 0 then !on else on
/-- So many rounds. -/
def ut (ns : List Nd) (on : Bool) (f0 : Nat) : Nat → Nat × (Nat → Bool)
  | 0 => (f0, fun _ => false)
  | i + 1 => (sd (ptF ns (ut ns on f0 i).1 i) (utB ns on (ut ns on f0 i).1 i), hld (ut ns on f0 i).2 i (utB ns on (ut ns on f0 i).1 i))
structure Ut (ns : List Nd) (on : Bool) (f0 i f : Nat) (h : Nat → Bool) : Prop where
  lt : f < ns.length
  ne : f ≠ 0
  lv : i ≤ lv ns f
  ev : ∀ e, (∀ j, j < i → e j = h j) → ev ns e f0 = ev ns e f
  off : ∀ j, i ≤ j → h j = false
  best : ∀ e, Go.Proofs.Ytgcbngephokegab.ev ns e f0 = true → ∀ j, j < i → (∀ k, k < j → e k = h k) → e j ≠ h j → h j = on
theorem ut_ok {ns : List Nd} (hw : WF ns) (on : Bool) {f0 : Nat} (hf : f0 < ns.length) (h0 : f0 ≠ 0) : ∀ i, i ≤ 104 → Ut ns on f0 i (ut ns on f0 i).1 (ut ns on f0 i).2
  | 0, _ => ⟨hf, h0, Nat.zero_le _, fun _ _ => rfl, fun _ _ => rfl, fun _ _ j hj => absurd hj (by omega)⟩
  | i + 1, hi => by
    obtain ⟨a1, a2, a3, a4, a5, a6⟩ := ut_ok hw on hf h0 i (by omega)
    show Ut ns on f0 (i + 1) (sd (ptF ns (ut ns on f0 i).1 i) (utB ns on (ut ns on f0 i).1 i)) (hld (ut ns on f0 i).2 i (utB ns on (ut ns on f0 i).1 i))
    generalize (ut ns on f0 i).1 = f at *
    generalize (ut ns on f0 i).2 = h at *
    obtain ⟨b, hb⟩ : ∃ b, utB ns on f i = b := ⟨_, rfl⟩
    rw [hb]
    obtain ⟨p1, p2, p3⟩ := pt_ok hw a1 a3 (by omega) b
    have agree : ∀ e : Nat → Bool, (∀ j, j < i + 1 → e j = hld h i b j) → (∀ j, j < i → e j = h j) ∧ e i = b := fun e he => ⟨fun j hj => by rw [he j (by omega), hld_ne _ _ (by omega)], by rw [he i (by omega), hld_same]⟩
    refine ⟨p1, ?_, p2, fun e he => ?_, fun j hj => by rw [hld_ne _ _ (by omega)]; exact a5 j (by omega), fun e he j hj hk hne => ?_⟩
    · unfold utB at hb
      by_cases z : sd (ptF ns f i) on = 0
      · rw [if_pos z] at hb; subst hb; exact pt_some hw a1 a2 a3 (by omega) on z
      · rw [if_neg z] at hb; subst hb; exact z
    · obtain ⟨q1, q2⟩ := agree e he
      rw [a4 e q1, p3 e q2]
    · rcases Nat.lt_or_ge j i with r | r
      · rw [hld_ne _ _ (by omega)] at hne ⊢
        exact a6 e he j r (fun k hk' => by rw [hk k hk', hld_ne _ _ (by omega)]) hne
      · have : j = i := by omega
        subst this
        rw [hld_same] at hne ⊢
        refine Classical.byContradiction fun z => ?_
        unfold utB at hb
        by_cases y : sd (ptF ns f j) on = 0
        · rw [if_pos y] at hb
          have e1 : e j = on := by subst hb; revert hne; cases e j <;> cases on <;> simp
          have := (pt_ok hw a1 a3 (by omega) on).2.2 e e1
          rw [a4 e (fun k hk' => by rw [hk k hk', hld_ne _ _ (by omega)]), this, y, ev_zero] at he
          cases he
        · rw [if_neg y] at hb; exact z hb.symm
/-- The utmost header is the set's, and no other one of it goes further. -/
theorem ut_end {ns : List Nd} (hw : WF ns) (on : Bool) {f0 : Nat} (hf : f0 < ns.length) (h0 : f0 ≠ 0) :
    ev ns (ut ns on f0 104).2 f0 = true ∧ ∀ e, ev ns e f0 = true → ∀ j, j < 104 → (∀ k, k < j → e k = (ut ns on f0 104).2 k) → e j ≠ (ut ns on f0 104).2 j → (ut ns on f0 104).2 j = on ∧ e j = !on := by
  obtain ⟨a1, a2, a3, a4, a5, a6⟩ := ut_ok hw on hf h0 104 (Nat.le_refl _)
  refine ⟨?_, fun e he j hj hk hne => ?_⟩
  · have h2 : (ut ns on f0 104).1 = 1 := by
      rcases Nat.lt_or_ge (ut ns on f0 104).1 2 with q | q
      · omega
      · have := (hw.parts q a1).2.2.2.2.2; omega
    rw [a4 _ (fun _ _ => rfl), h2]; rfl
  · have := a6 e he j hj hk hne
    refine ⟨this, ?_⟩
    rw [this] at hne; revert hne; cases e j <;> cases on <;> simp
/-- Whether all of a set is another one's: pairs that were met are so. -/
def wiF (ns : List Nd) : Nat → List (Nat × Nat) → Nat → Nat → Nat → Bool × List (Nat × Nat) × Nat
  | 0, m, c, _, _ => (true, m, c)
  | k + 1, m, c, f, g =>
    if f = 0 ∨ g = 1 ∨ f = g then (true, m, c)
    else if f = 1 ∨ g = 0 then (false, m, c)
    else if (f, g) ∈ m then (true, m, c + 1)
    else
      let i := min (lv ns f) (lv ns g)
      let r := wiF ns k ((f, g) :: m) (c + 1) (ptF ns f i).1 (ptF ns g i).1
      if r.1 then wiF ns k r.2.1 r.2.2 (ptF ns f i).2 (ptF ns g i).2 else r
def Sub (ns : List Nd) (f g : Nat) : Prop := ∀ e, ev ns e f = true → ev ns e g = true
def Triv (f g : Nat) : Prop := f = 0 ∨ g = 1 ∨ f = g
def OkP (M : List (Nat × Nat)) (f g : Nat) : Prop := Triv f g ∨ (f, g) ∈ M
/-- Both pairs of a pair's parts are so. -/
def Kids (ns : List Nd) (M : List (Nat × Nat)) (p : Nat × Nat) : Prop :=
  OkP M (ptF ns p.1 (min (lv ns p.1) (lv ns p.2))).1 (ptF ns p.2 (min (lv ns p.1) (lv ns p.2))).1 ∧ OkP M (ptF ns p.1 (min (lv ns p.1) (lv ns p.2))).2 (ptF ns p.2 (min (lv ns p.1) (lv ns p.2))).2
theorem OkP.mono {M M' : List (Nat × Nat)} {f g : Nat} (h : OkP M f g) (hm : ∀ p ∈ M, p ∈ M') : OkP M' f g := h.imp id (hm _)
theorem Kids.mono {ns : List Nd} {M M' : List (Nat × Nat)} {p : Nat × Nat} (h : Kids ns M p) (hm : ∀ p ∈ M, p ∈ M') : Kids ns M' p := ⟨h.1.mono hm, h.2.mono hm⟩
/-- The pairs that may be met. -/
def PairOk (ns : List Nd) (p : Nat × Nat) : Prop := p.1 < ns.length ∧ p.2 < ns.length ∧ ¬ Triv p.1 p.2 ∧ p.1 ≠ 1 ∧ p.2 ≠ 0
theorem PairOk.lv {ns : List Nd} (h : WF ns) {f g : Nat} (hp : PairOk ns (f, g)) : min (lv ns f) (lv ns g) < 104 := by
  obtain ⟨a, b, c, d, e⟩ := hp
  have h2 : 2 ≤ f := by
    rcases Nat.lt_or_ge f 2 with q | q
    · exact absurd (Or.inl (by simp only at d; omega)) c
    · exact q
  have := (h.parts h2 a).2.2.2.2.2
  omega
/-- What a call of it leaves. -/
structure Wi (ns : List Nd) (m : List (Nat × Nat)) (c f g : Nat) (R : Bool × List (Nat × Nat) × Nat) : Prop where
  sub : ∀ p ∈ m, p ∈ R.2.1
  one : m.Nodup → R.2.1.Nodup
  ok : (∀ p ∈ m, PairOk ns p) → ∀ p ∈ R.2.1, PairOk ns p
  len : m.length ≤ R.2.1.length
  cnt : R.2.2 ≤ c + 1 + 2 * (R.2.1.length - m.length)
  yes : R.1 = true → OkP R.2.1 f g ∧ ∀ p ∈ R.2.1, p ∈ m ∨ Kids ns R.2.1 p
  no : R.1 = false → ∃ e, ev ns e f = true ∧ ev ns e g = false
theorem not_zero {ns : List Nd} (h : WF ns) {f : Nat} (hf : f < ns.length) (h0 : f ≠ 0) : ∃ e, ev ns e f = true := by
  refine Classical.byContradiction fun z => h0 (one_number h hf (by have := h.len; omega) (fun e => ?_))
  rw [ev_zero]
  cases q : ev ns e f
  · rfl
  · exact absurd ⟨e, q⟩ z
theorem not_one {ns : List Nd} (h : WF ns) {f : Nat} (hf : f < ns.length) (h1 : f ≠ 1) : ∃ e, ev ns e f = false := by
  refine Classical.byContradiction fun z => h1 (one_number h hf (by have := h.len; omega) (fun e => ?_))
  rw [ev_one]
  cases q : ev ns e f
  · exact absurd ⟨e, q⟩ z
  · rfl
theorem wiF_ok {ns : List Nd} (h : WF ns) : ∀ k m c f g, f < ns.length → g < ns.length → 105 ≤ k + min (lv ns f) (lv ns g) → Wi ns m c f g (wiF ns k m c f g)
  | 0, m, c, f, g, hf, hg, hk => by have := lv_le h (f := f); omega
  | k + 1, m, c, f, g, hf, hg, hk => by
    unfold wiF
    by_cases t1 : f = 0 ∨ g = 1 ∨ f = g
    · rw [if_pos t1]
      exact ⟨fun p hp => hp, id, id, Nat.le_refl _, by simp only; omega, fun _ => ⟨Or.inl t1, fun p hp => Or.inl hp⟩, fun q => by cases q⟩
    rw [if_neg t1]
    by_cases t2 : f = 1 ∨ g = 0
    · rw [if_pos t2]
      refine ⟨fun p hp => hp, id, id, Nat.le_refl _, by simp only; omega, fun q => (by cases q), fun _ => ?_⟩
      rcases t2 with rfl | rfl
      · obtain ⟨e, he⟩ := not_one h hg (fun q => t1 (Or.inr (Or.inl q)))
        exact ⟨e, rfl, he⟩
      · obtain ⟨e, he⟩ := not_zero h hf (fun q => t1 (Or.inl q))
        exact ⟨e, he, rfl⟩
    rw [if_neg t2]
    by_cases t3 : (f, g) ∈ m
    · rw [if_pos t3]
      exact ⟨fun p hp => hp, id, id, Nat.le_refl _, by simp only; omega, fun _ => ⟨Or.inr t3, fun p hp => Or.inl hp⟩, fun q => by cases q⟩
    rw [if_neg t3]
    have hp : PairOk ns (f, g) := ⟨hf, hg, t1, fun q => t2 (Or.inl q), fun q => t2 (Or.inr q)⟩
    have hl := hp.lv h
    obtain ⟨i, hi⟩ : ∃ i, min (lv ns f) (lv ns g) = i := ⟨_, rfl⟩
    rw [hi] at hl hk
    have x0 := pt_ok h hf (i := i) (by omega) hl false
    have x1 := pt_ok h hf (i := i) (by omega) hl true
    have y0 := pt_ok h hg (i := i) (by omega) hl false
    have y1 := pt_ok h hg (i := i) (by omega) hl true
    have back : ∀ (b : Bool), (∃ e, ev ns e (sd (ptF ns f i) b) = true ∧ ev ns e (sd (ptF ns g i) b) = false) → ∃ e, ev ns e f = true ∧ ev ns e g = false := by
      rintro b ⟨e, e1, e2⟩
      have px := pt_ok h hf (i := i) (by omega) hl b
      have py := pt_ok h hg (i := i) (by omega) hl b
      refine ⟨hld e i b, ?_, ?_⟩
      · rw [px.2.2 _ (hld_same _ _ _), ev_hld h e b px.1 (by omega)]; exact e1
      · rw [py.2.2 _ (hld_same _ _ _), ev_hld h e b py.1 (by omega)]; exact e2
    simp only [hi]
    have A := wiF_ok h k ((f, g) :: m) (c + 1) (ptF ns f i).1 (ptF ns g i).1 x0.1 y0.1 (by have a := x0.2.1; have b := y0.2.1; simp only [sd, Bool.false_eq_true, if_false] at a b; omega)
    obtain ⟨R, hR⟩ : ∃ R, wiF ns k ((f, g) :: m) (c + 1) (ptF ns f i).1 (ptF ns g i).1 = R := ⟨_, rfl⟩
    rw [hR] at A ⊢
    have l1 := A.len
    have c1 := A.cnt
    simp only [List.length_cons] at l1 c1
    cases q : R.1 with
    | false =>
      simp only [Bool.false_eq_true, if_false]
      refine ⟨fun p hp => A.sub p (List.mem_cons_of_mem _ hp), fun hn => A.one (List.nodup_cons.2 ⟨t3, hn⟩), fun ho => A.ok (fun p hp' => by rcases List.mem_cons.1 hp' with rfl | r; exact hp; exact ho p r), by omega, by omega, fun e => (by rw [q] at e; cases e), fun _ => back false (A.no q)⟩
    | true =>
      simp only [if_true]
      have B := wiF_ok h k R.2.1 R.2.2 (ptF ns f i).2 (ptF ns g i).2 x1.1 y1.1 (by have a := x1.2.1; have b := y1.2.1; simp only [sd, if_true] at a b; omega)
      obtain ⟨T, hT⟩ : ∃ T, wiF ns k R.2.1 R.2.2 (ptF ns f i).2 (ptF ns g i).2 = T := ⟨_, rfl⟩
      rw [hT] at B ⊢
      have l2 := B.len
      have c2 := B.cnt
      obtain ⟨ay1, ay2⟩ := A.yes q
      refine ⟨fun p hp => B.sub p (A.sub p (List.mem_cons_of_mem _ hp)), fun hn => B.one (A.one (List.nodup_cons.2 ⟨t3, hn⟩)), fun ho => B.ok (A.ok (fun p hp' => by rcases List.mem_cons.1 hp' with rfl | r; exact hp; exact ho p r)), by omega, by omega, fun e => ?_, fun e => back true (B.no e)⟩
      obtain ⟨by1, by2⟩ := B.yes e
      have self : Kids ns T.2.1 (f, g) := by
        show OkP _ _ _ ∧ OkP _ _ _
        simp only [hi]
        exact ⟨ay1.mono B.sub, by1⟩
      refine ⟨Or.inr (B.sub _ (A.sub _ (List.mem_cons_self ..))), fun p hp' => ?_⟩
      rcases by2 p hp' with r | r
      · rcases ay2 p r with s | s
        · rcases List.mem_cons.1 s with rfl | s
          · exact Or.inr self
          · exact Or.inl s
        · exact Or.inr (s.mono B.sub)
      · exact Or.inr r
theorem kids_sub {ns : List Nd} (h : WF ns) {M : List (Nat × Nat)} (hk : ∀ p ∈ M, Kids ns M p) (ho : ∀ p ∈ M, PairOk ns p) : ∀ k f g, f < ns.length → g < ns.length → 105 ≤ k + min (lv ns f) (lv ns g) → OkP M f g → Sub ns f g
  | 0, f, g, hf, hg, hl, _ => by have := lv_le h (f := f); omega
  | k + 1, f, g, hf, hg, hl, ok => by
    intro e he
    rcases ok with (rfl | rfl | rfl) | ok
    · cases he
    · rfl
    · exact he
    · have hp := ho _ ok
      have h104 := hp.lv h
      obtain ⟨k1, k2⟩ := hk _ ok
      simp only at k1 k2
      obtain ⟨i, hi⟩ : ∃ i, min (lv ns f) (lv ns g) = i := ⟨_, rfl⟩
      rw [hi] at h104 k1 k2 hl
      have x := pt_ok h hf (i := i) (by omega) h104 (e i)
      have y := pt_ok h hg (i := i) (by omega) h104 (e i)
      rw [x.2.2 e rfl] at he
      rw [y.2.2 e rfl]
      refine kids_sub h hk ho k _ _ x.1 y.1 (by omega) ?_ e he
      cases e i with
      | false => exact k1
      | true => exact k2
/-- Within is just that. -/
theorem wi_any {ns : List Nd} (h : WF ns) {f g : Nat} (hf : f < ns.length) (hg : g < ns.length) : (wiF ns 105 [] 0 f g).1 = true ↔ Sub ns f g := by
  have A := wiF_ok h 105 [] 0 f g hf hg (by omega)
  constructor
  · intro e
    obtain ⟨a1, a2⟩ := A.yes e
    exact kids_sub h (fun p hp => by rcases a2 p hp with q | q; cases q; exact q) (A.ok (fun p hp => by cases hp)) 105 f g hf hg (by omega) a1
  · intro s
    cases q : (wiF ns 105 [] 0 f g).1 with
    | true => rfl
    | false =>
      obtain ⟨e, e1, e2⟩ := A.no q
      rw [s e e1] at e2; cases e2
end Go.Proofs.Ytgcbngephokegab
/- A set's first bit, its parts for a bit; which side. -/
namespace Go.Proofs.Ytgcbngephokegab
open Go.RowKit
set_option linter.unusedVariables false
set_option linter.unusedSimpArgs false

set_option maxRecDepth 100000 in
theorem level_core (p v l h : Value) (f : Int) (W : World) (C : Hid (Calls Try.prog 49 #[p, .int .i64 f] W fun e w' => e = .returned (.tuple #[v, l, h]) ∧ Below W.heap.size W w')) :
    Calls Try.prog 27 #[p, .int .i64 f] W fun e w' => e = .returned v ∧ Below W.heap.size W w' := by
  go_enter Try.func27, Try.ntmps27
  go_wp2_with fail
  refine C.out.mono ?_
  rintro e w' ⟨rfl, hb⟩
  have B := Lib.hid hb
  clear hb C
  go_wp2
  go_ret
  exact ⟨rfl, B.out⟩
theorem slevel {Z : Nat → Prop} {p most : Nat} {W : World} {ns : List Nd} (h : Sta Z p W most ns) (f : Nat) (hf : f < ns.length) :
    Calls Try.prog 27 #[.pointer (some ⟨p, 0, none⟩), .int .i64 (f : Nat)] W fun e w' => e = .returned (.int .i64 (lv ns f : Nat)) ∧ Below W.heap.size W w' :=
  level_core _ _ _ _ _ W (Lib.hid (sNode h f hf))
set_option maxRecDepth 100000 in
set_option maxHeartbeats 2000000 in
theorem parts_core (p : Value) (v l h : Nat) (f i : Nat) (x y : Nat) (hx : Hid ((if v = i then l else f) = x)) (hy : Hid ((if v = i then h else f) = y)) (W : World)
    (C : Hid (∀ w, Below W.heap.size W w → Calls Try.prog 49 #[p, .int .i64 (f : Nat)] w fun e w' => e = .returned (.tuple #[.int .i64 (v : Nat), .int .i64 (l : Nat), .int .i64 (h : Nat)]) ∧ Below w.heap.size w w')) :
    Calls Try.prog 47 #[p, .int .i64 (f : Nat), .int .i64 (i : Nat)] W fun e w' => e = .returned (.agg #[.int .i64 (x : Nat), .int .i64 (y : Nat)]) ∧ Below W.heap.size W w' := by
  go_enter Try.func47, Try.ntmps47
  go_upto_region 1 with fail
  refine at_code (S := fun w1 => Blk w1 W.heap.size [.int .i64 0, .int .i64 0] ∧ Below W.heap.size W w1) ⟨Blk.new _ _ _, bel_al (Below.refl _ _) _⟩ (fun W1 hW => ?_)
  obtain ⟨hX, hb⟩ := hW
  have X1 := Lib.hid hX
  have B1 := Lib.hid hb
  clear hX hb
  go_wp2_with fail
  refine (C.out W1 B1.out).mono ?_
  rintro e w2 ⟨rfl, hb⟩
  have X2 := Lib.hid (X1.out.on hb)
  have B2 := Lib.hid (bel_on' B1.out hb)
  clear hb C X1 B1
  obtain ⟨x_0, x_1⟩ : _ ∧ _ := ⟨X2.out.1 0 _ rfl, X2.out.1 1 _ rfl⟩
  obtain ⟨z_0, z_1⟩ : _ ∧ _ := ⟨X2.out.2 0 _ rfl, X2.out.2 1 _ rfl⟩
  by_cases c : v = i
  · have e1 : x = l := by rw [← hx.out, if_pos c]
    have e2 : y = h := by rw [← hy.out, if_pos c]
    subst c e1 e2
    clear hx hy
    go_wp2
    exact bodyPost_ret (v := .agg #[.int .i64 (x : Nat), .int .i64 (y : Nat)]) (by simp [results, Try.results47, go_sem, x_0, x_1, z_0, z_1]) rfl ⟨rfl, (B2.out.setCell (Nat.le_refl _) _).setCell (Nat.le_refl _) _⟩
  · have e1 : x = f := by rw [← hx.out, if_neg c]
    have e2 : y = f := by rw [← hy.out, if_neg c]
    have c1 : ¬ (v : Int) = (i : Int) := by omega
    have c2 : ((v : Int) == (i : Int)) = false := beq_eq_false_iff_ne.2 c1
    subst e1 e2
    clear hx hy c
    go_wp2
    exact bodyPost_ret (v := .agg #[.int .i64 (y : Nat), .int .i64 (y : Nat)]) (by simp [results, Try.results47, go_sem, x_0, x_1, z_0, z_1]) rfl ⟨rfl, (B2.out.setCell (Nat.le_refl _) _).setCell (Nat.le_refl _) _⟩
theorem sparts {Z : Nat → Prop} {p most : Nat} {W : World} {ns : List Nd} (h : Sta Z p W most ns) (f i : Nat) (hf : f < ns.length) :
    Calls Try.prog 47 #[.pointer (some ⟨p, 0, none⟩), .int .i64 (f : Nat), .int .i64 (i : Nat)] W fun e w' => e = .returned (.agg #[.int .i64 ((ptF ns f i).1 : Nat), .int .i64 ((ptF ns f i).2 : Nat)]) ∧ Below W.heap.size W w' :=
  parts_core _ _ _ _ f i _ _ (Lib.hid (by unfold ptF lv; split <;> rfl)) (Lib.hid (by unfold ptF lv; split <;> rfl)) W (Lib.hid (fun w hb => sNode (h.on hb) f hf))
theorem sside (on : Bool) (W : World) : Calls Try.prog 50 #[.bool on] W fun e w' => e = .returned (.int .i64 (if on then 1 else 0)) ∧ W = w' := by
  cases on with
  | true =>
    go_enter Try.func50, Try.ntmps50
    go_wp2
    go_ret
    exact ⟨rfl, rfl⟩
  | false =>
    go_enter Try.func50, Try.ntmps50
    go_wp2
    go_ret
    exact ⟨rfl, rfl⟩
end Go.Proofs.Ytgcbngephokegab
/- Maps of any values that a call made, by the list of what they hold. No program in sight. -/
namespace Go.Proofs.Ytgcbngephokegab
open Go.RowKit Go.Maps Go.MapKept Go.ChangeMaps Go.WideElems Go.Joins
open Go.WideMaps (KeyLaw)
set_option linter.unusedVariables false

/-- How an element reads: nothing is asked of it. -/
def anyElem (v : Value) : Option (DataW Unit × List MemPlace) := some (.lit (.bool true), [])
theorem one_val {κ ν : Type} : ∀ {m : List (κ × ν)} {k : κ} {v u : ν}, (m.map (·.1)).Nodup → (k, v) ∈ m → (k, u) ∈ m → v = u
  | [], _, _, _, _, h, _ => by cases h
  | q :: r, k, v, u, hn, h1, h2 => by
    obtain ⟨n1, n2⟩ := List.nodup_cons.1 hn
    rcases List.mem_cons.1 h1 with e1 | e1
    · rcases List.mem_cons.1 h2 with e2 | e2
      · rw [← e1] at e2; exact (Prod.mk.inj e2).2.symm
      · exact absurd (List.mem_map.2 ⟨_, e2, by show k = q.1; rw [← e1]⟩) n1
    · rcases List.mem_cons.1 h2 with e2 | e2
      · exact absurd (List.mem_map.2 ⟨_, e1, by show k = q.1; rw [← e2]⟩) n1
      · exact one_val n2 e1 e2
section
variable {κ ν : Type} {P : Program} {tk te t : TypeId} {kv : κ → Value} {vv : ν → Value}
/-- Block b is a map of just these. -/
def MapV (P : Program) (tk : TypeId) (kv : κ → Value) (vv : ν → Value) (w : World) (b : Nat) (m : List (κ × ν)) : Prop :=
  ∃ es clock, w.heap[b]? = some (.map es clock) ∧ Fit (H := Unit) P tk anyElem es clock ∧ (∀ x ∈ es.toList, ∃ p ∈ m, x.key = kv p.1 ∧ x.val = vv p.2) ∧ (∀ p ∈ m, ∃ x ∈ es.toList, x.key = kv p.1 ∧ x.val = vv p.2)
theorem MapV.lt {w : World} {b : Nat} {m : List (κ × ν)} (h : MapV P tk kv vv w b m) : b < w.heap.size := by
  obtain ⟨es, clock, h1, -⟩ := h
  rcases Nat.lt_or_ge b w.heap.size with q | q
  · exact q
  · rw [Array.getElem?_eq_none q] at h1; cases h1
theorem MapV.isMap {w : World} {b : Nat} {m : List (κ × ν)} (h : MapV P tk kv vv w b m) : ∃ es clock, w.heap[b]? = some (.map es clock) := by
  obtain ⟨es, clock, h1, -⟩ := h
  exact ⟨es, clock, h1⟩
theorem MapV.same {w w' : World} {b : Nat} {m : List (κ × ν)} (h : MapV P tk kv vv w b m) (hb : w'.heap[b]? = w.heap[b]?) : MapV P tk kv vv w' b m := by
  obtain ⟨es, clock, h1, h2⟩ := h
  exact ⟨es, clock, hb.trans h1, h2⟩
theorem MapV.on {w w' : World} {b : Nat} {m : List (κ × ν)} (h : MapV P tk kv vv w b m) (hb : Below w.heap.size w w') : MapV P tk kv vv w' b m := h.same (hb.block _ h.lt)
theorem MapV.perm {w : World} {b : Nat} {m m' : List (κ × ν)} (h : MapV P tk kv vv w b m) (hm : ∀ p, p ∈ m ↔ p ∈ m') : MapV P tk kv vv w b m' := by
  obtain ⟨es, clock, h1, h2, h3, h4⟩ := h
  exact ⟨es, clock, h1, h2, fun x hx => by obtain ⟨p, hp, e⟩ := h3 x hx; exact ⟨p, (hm p).1 hp, e⟩, fun p hp => h4 p ((hm p).2 hp)⟩
theorem MapV.made (w : World) : MapV P tk kv vv (w.alloc (.map #[] 0)) w.heap.size [] :=
  ⟨#[], 0, (MapKept.heap_alloc w _).1, ⟨by simp, stamped_empty 0, by simp⟩, by simp, by simp⟩
theorem MapV.size {m : List (κ × ν)} {es : Array MapEntry} {clock : Nat} (F : Fit (H := Unit) P tk anyElem es clock) (h : ∀ x ∈ es.toList, ∃ p ∈ m, x.key = kv p.1 ∧ x.val = vv p.2) : es.size ≤ m.length := by
  have := nodup_sub (es.toList.map (·.key)) (m.map (fun p => kv p.1)) F.stamped.2.2 (fun v hv => by
    obtain ⟨x, hx, rfl⟩ := List.mem_map.1 hv
    obtain ⟨p, hp, e, -⟩ := h x hx
    exact List.mem_map.2 ⟨p, hp, e.symm⟩)
  simpa using this
theorem nodup_kv (hi : ∀ a b : κ, kv a = kv b → a = b) : ∀ {m : List (κ × ν)}, (m.map (·.1)).Nodup → (m.map (fun p => kv p.1)).Nodup
  | [], _ => List.nodup_nil
  | q :: r, h => by
    obtain ⟨n1, n2⟩ := List.nodup_cons.1 h
    refine List.nodup_cons.2 ⟨fun e => ?_, nodup_kv hi n2⟩
    obtain ⟨p, hp, e⟩ := List.mem_map.1 e
    exact n1 (List.mem_map.2 ⟨p, hp, hi _ _ e⟩)
theorem MapV.count {m : List (κ × ν)} {es : Array MapEntry} {clock : Nat} (hi : ∀ a b, kv a = kv b → a = b) (F : Fit (H := Unit) P tk anyElem es clock) (h : ∀ x ∈ es.toList, ∃ p ∈ m, x.key = kv p.1 ∧ x.val = vv p.2) (h' : ∀ p ∈ m, ∃ x ∈ es.toList, x.key = kv p.1 ∧ x.val = vv p.2) (hone : (m.map (·.1)).Nodup) : es.size = m.length := by
  refine Nat.le_antisymm (MapV.size F h) ?_
  have := nodup_sub (m.map (fun p => kv p.1)) (es.toList.map (·.key)) (nodup_kv hi hone) (fun v hv => by
    obtain ⟨p, hp, rfl⟩ := List.mem_map.1 hv
    obtain ⟨x, hx, e, -⟩ := h' p hp
    exact List.mem_map.2 ⟨x, hx, e⟩)
  simpa using this
/-- 'len(m)'. -/
theorem mapV_len (ht : P.underlying t = some (.map tk te)) (hi : ∀ a b, kv a = kv b → a = b) {w : World} {b : Nat} {m : List (κ × ν)} (h : MapV P tk kv vv w b m) (hone : (m.map (·.1)).Nodup) (ty : TypeId) : (Builtin.len_ #[t] ty #[.map (some b)]).run P w = .ok (.int .i64 (m.length : Nat)) w := by
  obtain ⟨es, clock, hb, F, h1, h2⟩ := h
  rw [← MapV.count hi F h1 h2 hone]
  simp [Builtin.len_, run_underlying ht, MapKept.run_getObj_map hb, goInt]
theorem mapV_none (K : Keyed P tk) (ht : P.underlying t = some (.map tk te)) {z : Value} (hz : ∀ w, (zeroValue te).run P w = .ok z w) (hi : ∀ a b, kv a = kv b → a = b) (c : Bool) {w : World} {b : Nat} {m : List (κ × ν)} (h : MapV P tk kv vv w b m) {k : κ} {l : Lit} (hk : keyOf P tk (kv k) = some l) (hn : k ∉ m.map (·.1)) :
    (Instr.lookup t (.map (some b)) (kv k) c).run P w = .ok (if c then .tuple #[z, .bool false] else z) w := by
  obtain ⟨es, clock, hb, F, h1, h2⟩ := h
  rcases fit_look c K ht (hz w) hb F hk with ⟨hr, -⟩ | ⟨e0, y, hm, hk', -⟩
  · exact hr
  · obtain ⟨p, hp, e, -⟩ := h1 e0 hm
    exact absurd (List.mem_map.2 ⟨p, hp, hi _ _ (e.symm.trans hk')⟩) hn
theorem mapV_some (K : Keyed P tk) (ht : P.underlying t = some (.map tk te)) {z : Value} (hz : ∀ w, (zeroValue te).run P w = .ok z w) (hi : ∀ a b, kv a = kv b → a = b) (c : Bool) {w : World} {b : Nat} {m : List (κ × ν)} (h : MapV P tk kv vv w b m) {k : κ} {v : ν} {l : Lit} (hk : keyOf P tk (kv k) = some l) (hm : (k, v) ∈ m) (hone : (m.map (·.1)).Nodup) :
    (Instr.lookup t (.map (some b)) (kv k) c).run P w = .ok (if c then .tuple #[vv v, .bool true] else vv v) w := by
  obtain ⟨es, clock, hb, F, h1, h2⟩ := h
  rcases fit_look c K ht (hz w) hb F hk with ⟨-, hn, -⟩ | ⟨e0, y, hme, hk', hr, -⟩
  · obtain ⟨x, hx, e, -⟩ := h2 _ hm
    exact absurd e (hn x hx)
  · obtain ⟨p, hp, e, ev⟩ := h1 e0 hme
    have e1 : p.1 = k := hi _ _ (e.symm.trans hk')
    have e2 : p.2 = v := one_val hone (by rw [← e1]; exact hp) hm
    rw [ev, e2] at hr
    exact hr
/-- What a store leaves: the key's own entry is the new one. -/
theorem fit_put (K : Keyed P tk) (ht : P.underlying t = some (.map tk te)) (hi : ∀ a b, kv a = kv b → a = b) {w : World} {b : Nat} {m m' : List (κ × ν)} {es : Array MapEntry} {clock : Nat} (hb : w.heap[b]? = some (.map es clock)) (F : Fit (H := Unit) P tk anyElem es clock)
    (h1 : ∀ x ∈ es.toList, ∃ p ∈ m, x.key = kv p.1 ∧ x.val = vv p.2) (h2 : ∀ p ∈ m, ∃ x ∈ es.toList, x.key = kv p.1 ∧ x.val = vv p.2) {k : κ} {v : ν} {l : Lit} (hk : keyOf P tk (kv k) = some l) (hlen : m.length < maxLen) (hm : ∀ p, p ∈ m' ↔ p = (k, v) ∨ (p ∈ m ∧ p.1 ≠ k)) :
    ∃ es' clock', (Instr.mapUpdate t (.map (some b)) (kv k) (vv v)).run P w = .ok () (setBlock w b (.map es' clock')) ∧ Fit (H := Unit) P tk anyElem es' clock' ∧ (∀ x ∈ es'.toList, ∃ p ∈ m', x.key = kv p.1 ∧ x.val = vv p.2) ∧ (∀ p ∈ m', ∃ x ∈ es'.toList, x.key = kv p.1 ∧ x.val = vv p.2) := by
  have hsz := MapV.size F h1
  obtain ⟨es', clock', hrun, F', -, -, -, hwho⟩ := fit_store (R' := anyElem) (yv := (.lit (.bool true), [])) K ht hb F (by omega) (fun _ _ _ _ hz => hz) hk rfl
  refine ⟨es', clock', hrun, F', fun x hx => ?_, fun p hp => ?_⟩
  · rcases hwho x hx with ⟨q1, q2⟩ | ⟨q1, q2⟩
    · obtain ⟨p, hp, e1, e2⟩ := h1 x q1
      exact ⟨p, (hm p).2 (Or.inr ⟨hp, fun e => q2 (by rw [e1, e])⟩), e1, e2⟩
    · exact ⟨(k, v), (hm _).2 (Or.inl rfl), q1, q2⟩
  · rcases K.find w hk es.toList F.keys with ⟨k1, k2⟩ | ⟨j, e0, k1, k2, k3⟩
    · have hrun2 : (Instr.mapUpdate t (.map (some b)) (kv k) (vv v)).run P w = .ok () (setBlock w b (.map (es.push ⟨kv k, vv v, clock⟩) (clock + 1))) := by
        simp [Instr.mapUpdate, run_underlying ht, MapKept.run_getObj_map hb, K.check w false hk, k1, MapKept.run_setObj_map _ hb, Result.andThen, setBlock]
      have heq : es' = es.push ⟨kv k, vv v, clock⟩ := by
        rw [hrun] at hrun2
        have q := (Result.ok.inj hrun2).2
        have k1 := heap_setBlock_same hb (.map es' clock')
        rw [q, heap_setBlock_same hb] at k1
        cases k1; rfl
      subst heq
      rcases (hm p).1 hp with rfl | ⟨hp, hne⟩
      · exact ⟨⟨kv k, vv v, clock⟩, by simp, rfl, rfl⟩
      · obtain ⟨x, q1, q2⟩ := h2 p hp
        exact ⟨x, by simp [q1], q2⟩
    · have hj : es[j]? = some e0 := by simpa using k2
      have hrun2 : (Instr.mapUpdate t (.map (some b)) (kv k) (vv v)).run P w = .ok () (setBlock w b (.map (es.modify j (fun e' => { e' with key := kv k, val := vv v })) clock)) := by
        simp [Instr.mapUpdate, run_underlying ht, MapKept.run_getObj_map hb, K.check w false hk, k1, hj, k3, K.stays w hk, MapKept.run_setObj_map _ hb, Result.andThen, setBlock]
      have heq : es' = es.modify j (fun e' => { e' with key := kv k, val := vv v }) := by
        rw [hrun] at hrun2
        have q := (Result.ok.inj hrun2).2
        have k1 := heap_setBlock_same hb (.map es' clock')
        rw [q, heap_setBlock_same hb] at k1
        cases k1; rfl
      subst heq
      have hlt : j < es.toList.length := lt_of_get' k2
      rcases (hm p).1 hp with rfl | ⟨hp, hne⟩
      · refine ⟨{ e0 with key := kv k, val := vv v }, ?_, rfl, rfl⟩
        rw [Array.toList_modify]
        exact List.mem_of_getElem? (i := j) (by rw [List.getElem?_modify_eq, k2]; rfl)
      · obtain ⟨x, q1, q2, q3⟩ := h2 p hp
        refine ⟨x, ?_, q2, q3⟩
        obtain ⟨i, hx⟩ := List.getElem?_of_mem q1
        have hij : j ≠ i := fun e => by
          subst e
          rw [hx] at k2
          cases k2
          exact hne (hi _ _ (q2.symm.trans k3))
        rw [Array.toList_modify]
        exact List.mem_of_getElem? (i := i) (by simp [hij, hx])
where
  lt_of_get' {α : Type} {l : List α} {i : Nat} {x : α} (h : l[i]? = some x) : i < l.length := by
    rcases Nat.lt_or_ge i l.length with q | q
    · exact q
    · rw [List.getElem?_eq_none q] at h; cases h
theorem mapV_store (K : Keyed P tk) (ht : P.underlying t = some (.map tk te)) (hi : ∀ a b, kv a = kv b → a = b) {w : World} {b : Nat} {m m' : List (κ × ν)} (h : MapV P tk kv vv w b m) {k : κ} {v : ν} {l : Lit} (hk : keyOf P tk (kv k) = some l) (hlen : m.length < maxLen) (hm : ∀ p, p ∈ m' ↔ p = (k, v) ∨ (p ∈ m ∧ p.1 ≠ k)) :
    ∃ w', (Instr.mapUpdate t (.map (some b)) (kv k) (vv v)).run P w = .ok () w' ∧ MapV P tk kv vv w' b m' ∧ Only b w w' := by
  obtain ⟨es, clock, hb, F, h1, h2⟩ := h
  obtain ⟨es', clock', hrun, F', k1, k2⟩ := fit_put K ht hi hb F h1 h2 hk hlen hm
  exact ⟨_, hrun, ⟨_, _, heap_setBlock_same hb _, F', k1, k2⟩, Only.set hb⟩
theorem mapV_del (K : Keyed P tk) (ht : P.underlying t = some (.map tk te)) (hi : ∀ a b, kv a = kv b → a = b) {ty : TypeId} {w : World} {b : Nat} {m m' : List (κ × ν)} (h : MapV P tk kv vv w b m) {k : κ} {l : Lit} (hk : keyOf P tk (kv k) = some l) (hm : ∀ p, p ∈ m' ↔ p ∈ m ∧ p.1 ≠ k) :
    ∃ w', (Builtin.delete_ #[t, tk] ty #[.map (some b), kv k]).run P w = .ok (.tuple #[]) w' ∧ MapV P tk kv vv w' b m' ∧ Only b w w' := by
  obtain ⟨es, clock, hb, F, h1, h2⟩ := h
  obtain ⟨es', hrun, F', -, -, -, hwho⟩ := fit_drop_who (ty := ty) K ht hb F hk
  refine ⟨_, hrun, ⟨_, _, heap_setBlock_same hb _, F', fun x hx => ?_, fun p hp => ?_⟩, Only.set hb⟩
  · obtain ⟨q1, q2⟩ := (hwho x).1 hx
    obtain ⟨p, hp, e⟩ := h1 x q1
    exact ⟨p, (hm p).2 ⟨hp, fun e1 => q2 (by rw [e.1, e1])⟩, e⟩
  · obtain ⟨q1, q2⟩ := (hm p).1 hp
    obtain ⟨x, k1, k2⟩ := h2 p q1
    exact ⟨x, (hwho x).2 ⟨k1, fun e1 => q2 (hi _ _ (k2.1.symm.trans e1))⟩, k2⟩
end
end Go.Proofs.Ytgcbngephokegab
