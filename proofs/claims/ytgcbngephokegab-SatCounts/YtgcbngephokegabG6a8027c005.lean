/- Texts joined, in their order: C1, C2, BK. -/
import Derived.Test.YtgcbngephokegabG82324f0dfe
import Derived.Test.YtgcbngephokegabG29859d04e1
import Derived.Test.YtgcbngephokegabG4a99f1b385
/- SatCounts, plainly: all ways of holding a few bits. No program in sight. -/
namespace Go.Proofs.Ytgcbngephokegab
set_option linter.unusedVariables false
set_option linter.unusedSimpArgs false

/-- The w-th way of holding these bits: the first one is w's highest. -/
def envW : List Nat → Nat → Env → Env
  | [], _, e => e
  | b :: r, w, e => envW r w (hld e b (w.testBit r.length))
def valV (h : Env) : List Nat → Nat
  | [] => 0
  | b :: r => (h b).toNat * 2 ^ r.length + valV h r
theorem envW_out : ∀ (V : List Nat) (w : Nat) (e : Env) (j : Nat), j ∉ V → envW V w e j = e j
  | [], w, e, j, _ => rfl
  | b :: r, w, e, j, h => by
    rw [List.mem_cons, not_or] at h
    show envW r w (hld e b _) j = _
    rw [envW_out r w _ j h.2, hld_ne _ _ h.1]
theorem envW_in : ∀ (V : List Nat) (w : Nat) (e e' : Env) (j : Nat), j ∈ V → envW V w e j = envW V w e' j
  | b :: r, w, e, e', j, h => by
    show envW r w (hld e b _) j = envW r w (hld e' b _) j
    by_cases c : j ∈ r
    · exact envW_in r w _ _ j c
    · have : j = b := by rcases List.mem_cons.1 h with q | q; exact q; exact absurd q c
      subst this
      rw [envW_out r w _ j c, envW_out r w _ j c, hld_same, hld_same]
theorem envW_low : ∀ (V : List Nat) (w c k : Nat) (e : Env), V.length ≤ k → envW V (2 ^ k * c + w) e = envW V w e
  | [], w, c, k, e, _ => rfl
  | b :: r, w, c, k, e, h => by
    rw [List.length_cons] at h
    have ih := envW_low r w c k
    show envW r (2 ^ k * c + w) (hld e b _) = envW r w (hld e b _)
    have e1 : (2 ^ k * c + w).testBit r.length = w.testBit r.length := by
      rw [Nat.testBit_eq_decide_div_mod_eq, Nat.testBit_eq_decide_div_mod_eq]
      have e2 : 2 ^ k * c = 2 ^ r.length * (2 * (2 ^ (k - r.length - 1) * c)) := by
        rw [show k = r.length + 1 + (k - r.length - 1) by omega, Nat.pow_add, Nat.pow_succ, show r.length + 1 + (k - r.length - 1) - r.length - 1 = k - r.length - 1 by omega]
        simp only [Nat.mul_assoc]
      rw [e2, Nat.mul_add_div (Nat.two_pow_pos _), Nat.mul_add_mod]
    rw [e1, ih _ (by omega)]
theorem valV_lt (h : Env) : ∀ V : List Nat, valV h V < 2 ^ V.length
  | [] => by show 0 < 2 ^ 0; omega
  | b :: r => by
    have := valV_lt h r
    show (h b).toNat * 2 ^ r.length + valV h r < 2 ^ (r.length + 1)
    rw [Nat.pow_succ]
    cases h b <;> simp <;> omega
theorem bit_at (c x k : Nat) (hx : x < 2 ^ k) (hc : c ≤ 1) : (c * 2 ^ k + x).testBit k = decide (c = 1) := by
  rw [Nat.testBit_eq_decide_div_mod_eq, Nat.mul_comm, Nat.mul_add_div (Nat.two_pow_pos _), Nat.div_eq_of_lt hx]
  have : c = 0 ∨ c = 1 := by omega
  rcases this with rfl | rfl <;> rfl
theorem envW_val (h : Env) : ∀ (V : List Nat) (e : Env) (j : Nat), j ∈ V → envW V (valV h V) e j = h j
  | b :: r, e, j, hj => by
    have hl := valV_lt h r
    have hb : ((h b).toNat * 2 ^ r.length + valV h r).testBit r.length = h b := by
      rw [bit_at _ _ _ hl (by cases h b <;> simp)]
      cases h b <;> rfl
    show envW r ((h b).toNat * 2 ^ r.length + valV h r) (hld e b (((h b).toNat * 2 ^ r.length + valV h r).testBit r.length)) j = h j
    rw [hb, Nat.mul_comm, envW_low r _ _ _ _ (Nat.le_refl _)]
    by_cases c : j ∈ r
    · exact envW_val h r _ j c
    · have : j = b := by rcases List.mem_cons.1 hj with q | q; exact q; exact absurd q c
      subst this
      rw [envW_out r _ _ j c, hld_same]
theorem valV_congr {h h' : Env} : ∀ V : List Nat, (∀ j ∈ V, h j = h' j) → valV h V = valV h' V
  | [], _ => rfl
  | b :: r, hh => by
    show (h b).toNat * _ + _ = (h' b).toNat * _ + _
    rw [hh b List.mem_cons_self, valV_congr r (fun j hj => hh j (List.mem_cons_of_mem _ hj))]
theorem val_envW : ∀ (V : List Nat) (w : Nat) (e : Env), V.Nodup → w < 2 ^ V.length → valV (envW V w e) V = w
  | [], w, e, _, h => by have : w < 1 := h; show 0 = w; omega
  | b :: r, w, e, hn, h => by
    obtain ⟨hb, hr⟩ := List.nodup_cons.1 hn
    have h : w < 2 ^ (r.length + 1) := h
    rw [Nat.pow_succ] at h
    have hp := Nat.two_pow_pos r.length
    have hdm := Nat.div_add_mod w (2 ^ r.length)
    have hml := Nat.mod_lt w hp
    have hd : w / 2 ^ r.length ≤ 1 := by
      have := (Nat.div_lt_iff_lt_mul (x := w) (y := 2) hp).2 (by omega)
      omega
    have hbit : w.testBit r.length = decide (w / 2 ^ r.length = 1) := by
      rw [Nat.testBit_eq_decide_div_mod_eq]
      have : w / 2 ^ r.length = 0 ∨ w / 2 ^ r.length = 1 := by revert hd; generalize w / 2 ^ r.length = q; intro hd; omega
      rcases this with q | q <;> rw [q] <;> rfl
    show (envW r w (hld e b (w.testBit r.length)) b).toNat * 2 ^ r.length + valV (envW r w (hld e b (w.testBit r.length))) r = w
    rw [envW_out r w _ b hb, hld_same]
    have e1 : envW r w (hld e b (w.testBit r.length)) = envW r (w % 2 ^ r.length) (hld e b (w.testBit r.length)) := by
      have := envW_low r (w % 2 ^ r.length) (w / 2 ^ r.length) r.length (hld e b (w.testBit r.length)) (Nat.le_refl _)
      rw [hdm] at this; exact this
    rw [e1, val_envW r _ _ hr hml, hbit]
    have : w / 2 ^ r.length = 0 ∨ w / 2 ^ r.length = 1 := by revert hd; generalize w / 2 ^ r.length = q; intro hd; omega
    rcases this with q | q
    · rw [q, Nat.mul_zero] at hdm
      rw [q]
      show 0 * 2 ^ r.length + _ = w
      omega
    · rw [q, Nat.mul_one] at hdm
      rw [q]
      show 1 * 2 ^ r.length + _ = w
      omega
theorem valV_less {e h : Env} : ∀ V : List Nat, V.Pairwise (· < ·) → valV e V < valV h V → ∃ j ∈ V, e j = false ∧ h j = true ∧ ∀ k ∈ V, k < j → e k = h k
  | [], _, hl => by have : (0 : Nat) < 0 := hl; omega
  | b :: r, hp, hl => by
    obtain ⟨h1, h2⟩ := List.pairwise_cons.1 hp
    have hl : (e b).toNat * 2 ^ r.length + valV e r < (h b).toNat * 2 ^ r.length + valV h r := hl
    have he := valV_lt e r
    have hh := valV_lt h r
    by_cases c : e b = h b
    · rw [c] at hl
      obtain ⟨j, hj, a1, a2, a3⟩ := valV_less (e := e) (h := h) r h2 (by omega)
      refine ⟨j, List.mem_cons_of_mem _ hj, a1, a2, fun k hk hkj => ?_⟩
      rcases List.mem_cons.1 hk with q | q
      · rw [q]; exact c
      · exact a3 k q hkj
    · have key : e b = false ∧ h b = true := by
        cases ce : e b <;> cases ch : h b
        · rw [ce, ch] at c; exact absurd rfl c
        · exact ⟨rfl, rfl⟩
        · have hl : 1 * 2 ^ r.length + valV e r < 0 * 2 ^ r.length + valV h r := by rw [ce, ch] at hl; exact hl
          omega
        · rw [ce, ch] at c; exact absurd rfl c
      refine ⟨b, List.mem_cons_self, key.1, key.2, fun k hk hkb => ?_⟩
      · rcases List.mem_cons.1 hk with q | q
        · omega
        · have := h1 k q; omega
/-- It depends on these bits alone. -/
def DepOn (V : List Nat) (φ : Env → Bool) : Prop := ∀ e e', (∀ j ∈ V, e j = e' j) → φ e = φ e'
def cntW (φ : Env → Bool) (V : List Nat) (e : Env) (n : Nat) : Nat := (List.range n).countP (fun w => φ (envW V w e))
theorem countP_range_add (f : Nat → Bool) : ∀ a b, (List.range (a + b)).countP f = (List.range a).countP f + (List.range b).countP (fun w => f (a + w))
  | a, 0 => by simp
  | a, b + 1 => by
    rw [← Nat.add_assoc, List.range_succ, List.countP_append, countP_range_add f a b, List.range_succ, List.countP_append]
    simp only [List.countP_cons, List.countP_nil]
    omega
theorem cntW_cons (φ : Env → Bool) (b : Nat) (r : List Nat) (e : Env) : cntW φ (b :: r) e (2 ^ (r.length + 1)) = cntW φ r (hld e b false) (2 ^ r.length) + cntW φ r (hld e b true) (2 ^ r.length) := by
  unfold cntW
  rw [Nat.pow_succ, Nat.mul_two, countP_range_add]
  congr 1
  · refine List.countP_congr (fun w hw => ?_)
    have hw := List.mem_range.1 hw
    have : w.testBit r.length = false := Nat.testBit_lt_two_pow hw
    show φ (envW r w (hld e b (w.testBit r.length))) = true ↔ _
    rw [this]
  · refine List.countP_congr (fun w hw => ?_)
    have hw := List.mem_range.1 hw
    have e1 : (2 ^ r.length + w).testBit r.length = true := by
      have := bit_at 1 w r.length hw (Nat.le_refl _)
      rw [Nat.one_mul] at this; rw [this]; rfl
    have e2 := envW_low r w 1 r.length (hld e b true) (Nat.le_refl _)
    rw [Nat.mul_one] at e2
    show φ (envW r (2 ^ r.length + w) (hld e b ((2 ^ r.length + w).testBit r.length))) = true ↔ _
    rw [e1, e2]
theorem kd_cntW (φ : Env → Bool) : ∀ (n : Nat) (V : List Nat) (e : Env), n ≤ 104 → V.Pairwise (· < ·) → (∀ j ∈ V, 104 - n ≤ j ∧ j < 104) → (∀ e e' : Env, (∀ j, j < 104 - n ∨ j ∈ V → e j = e' j) → φ e = φ e') →
    V.length ≤ n ∧ kd φ n e = cntW φ V e (2 ^ V.length) * 2 ^ (n - V.length)
  | 0, V, e, _, _, hb, _ => by
    cases V with
    | nil =>
      refine ⟨Nat.le_refl _, ?_⟩
      show (φ e).toNat = (List.range 1).countP (fun w => φ (envW [] w e)) * 2 ^ 0
      have : (List.range 1) = [0] := rfl
      rw [this, List.countP_cons, List.countP_nil]
      show (φ e).toNat = (0 + if φ e = true then 1 else 0) * 2 ^ 0
      cases φ e <;> rfl
    | cons p r => have := hb p List.mem_cons_self; omega
  | n + 1, V, e, hn, hp, hb, hd => by
    rw [kd_succ]
    have key : ∀ W : List Nat, W.Pairwise (· < ·) → (∀ j ∈ W, 104 - n ≤ j ∧ j < 104) → (∀ e e' : Env, (∀ j, j < 104 - n ∨ j ∈ W → e j = e' j) → φ e = φ e') → ∀ x : Bool, W.length ≤ n ∧ kd φ n (hld e (103 - n) x) = cntW φ W (hld e (103 - n) x) (2 ^ W.length) * 2 ^ (n - W.length) :=
      fun W h1 h2 h3 x => kd_cntW φ n W _ (by omega) h1 h2 h3
    by_cases c : 103 - n ∈ V
    · cases V with
      | nil => cases c
      | cons b r =>
        obtain ⟨h1, h2⟩ := List.pairwise_cons.1 hp
        have hbb : b = 103 - n := by
          rcases List.mem_cons.1 c with q | q
          · exact q.symm
          · have := h1 _ q; have := hb b List.mem_cons_self; omega
        have k := key r h2 (fun j hj => ⟨by have := h1 j hj; omega, (hb j (List.mem_cons_of_mem _ hj)).2⟩) (fun e e' he => hd e e' (fun j hj => by
          rcases hj with q | q
          · exact he j (Or.inl (by omega))
          · rcases List.mem_cons.1 q with q | q
            · exact he j (Or.inl (by omega))
            · exact he j (Or.inr q)))
        refine ⟨by have := (k true).1; rw [List.length_cons]; omega, ?_⟩
        rw [(k false).2, (k true).2, List.length_cons, hbb, cntW_cons, Nat.add_mul, show n + 1 - (r.length + 1) = n - r.length by omega]
    · have k := key V hp (fun j hj => ⟨by have := hb j hj; have : j ≠ 103 - n := fun q => c (by rw [← q]; exact hj); omega, (hb j hj).2⟩) (fun e e' he => hd e e' (fun j hj => by
        rcases hj with q | q
        · exact he j (Or.inl (by omega))
        · exact he j (Or.inr q)))
      have hsame : ∀ x : Bool, cntW φ V (hld e (103 - n) x) (2 ^ V.length) = cntW φ V e (2 ^ V.length) := fun x => by
        unfold cntW
        refine List.countP_congr (fun w _ => ?_)
        rw [hd (envW V w (hld e (103 - n) x)) (envW V w e) (fun j hj => ?_)]
        by_cases q : j ∈ V
        · exact envW_in V w _ _ j q
        · rw [envW_out V w _ j q, envW_out V w _ j q]
          rcases hj with r | r
          · rw [hld_ne _ _ (by omega)]
          · exact absurd r q
      refine ⟨by have := (k true).1; omega, ?_⟩
      have hl := (k true).1
      rw [(k false).2, (k true).2, hsame, hsame, show n + 1 - V.length = n - V.length + 1 by omega, Nat.pow_succ, ← Nat.mul_assoc]
      omega
theorem many_cntW {φ : Env → Bool} {V : List Nat} (hp : V.Pairwise (· < ·)) (hb : ∀ j ∈ V, j < 104) (hd : DepOn V φ) : V.length ≤ 104 ∧ many φ = cntW φ V (fun _ => false) (2 ^ V.length) * 2 ^ (104 - V.length) :=
  kd_cntW φ 104 V _ (Nat.le_refl _) hp (fun j hj => ⟨by omega, hb j hj⟩) (fun e e' he => hd e e' (fun j hj => he j (Or.inr hj)))
/-- The least one is the first way. -/
theorem least_way {φ : Env → Bool} {V : List Nat} (hp : V.Pairwise (· < ·)) (hb : ∀ j ∈ V, j < 104) (hd : DepOn V φ) {h : Env} (hh : φ h = true) (hm : ∀ e, φ e = true → ∀ j, j < 104 → (∀ k, k < j → e k = h k) → e j ≠ h j → h j = false) :
    ∃ w, w < 2 ^ V.length ∧ (∀ j, j < 104 → envW V w (fun _ => false) j = h j) ∧ φ (envW V w (fun _ => false)) = true ∧ ∀ w', w' < w → φ (envW V w' (fun _ => false)) = false := by
  have hout : ∀ j, j < 104 → j ∉ V → h j = false := fun j hj hv => by
    have he : φ (hld h j false) = true := by
      rw [hd (hld h j false) h (fun k hk => hld_ne _ _ (fun q => hv (by rw [← q]; exact hk)))]; exact hh
    cases c : h j with
    | false => rfl
    | true =>
      have := hm _ he j hj (fun k hk => hld_ne _ _ (by omega)) (by rw [hld_same, c]; simp)
      rw [c] at this; exact this
  have hn : V.Nodup := hp.imp (fun {a b} h => by omega)
  refine ⟨valV h V, valV_lt h V, fun j hj => ?_, ?_, fun w' hw => ?_⟩
  · by_cases q : j ∈ V
    · exact envW_val h V _ j q
    · rw [envW_out V _ _ j q, hout j hj q]
  · rw [hd _ h (fun j hj => envW_val h V _ j hj)]; exact hh
  · cases c : φ (envW V w' (fun _ => false)) with
    | false => rfl
    | true =>
      have hv := val_envW V w' (fun _ => false) hn (by have := valV_lt h V; omega)
      obtain ⟨j, hj, a1, a2, a3⟩ := valV_less (e := envW V w' (fun _ => false)) (h := h) V hp (by rw [hv]; exact hw)
      have := hm _ c j (hb j hj) (fun k hk => by
        by_cases q : k ∈ V
        · exact a3 k q hk
        · rw [envW_out V _ _ k q, hout k (by have := hb j hj; omega) q]) (by rw [a1, a2]; simp)
      rw [a2] at this; cases this
/-- What expressions tell depends on the bits that they ask. -/
def AskB (L : List Ex) (i : Nat) : Bool := L.any fun x => decide (x.k = 2 ∧ x.v = (i : Int))
def varsN (L : List Ex) (n : Nat) : List Nat := (List.range n).filter (AskB L)
def varsL (L : List Ex) : List Nat := varsN L 104
theorem varsN_succ (L : List Ex) (n : Nat) : varsN L (n + 1) = varsN L n ++ (if AskB L n = true then [n] else []) := by
  unfold varsN
  rw [List.range_succ, List.filter_append]
  congr 1
  cases h : AskB L n <;> simp [h]
theorem varsL_rise (L : List Ex) : (varsL L).Pairwise (· < ·) := List.Pairwise.filter _ List.pairwise_lt_range
theorem varsL_lt (L : List Ex) : ∀ j ∈ varsL L, j < 104 := fun j hj => List.mem_range.1 (List.mem_filter.1 hj).1
theorem depOn_nth {V : List Nat} {s : Sem} (h : ∀ φ ∈ s, DepOn V φ) (i : Nat) : DepOn V (s.getD i (fun _ => false)) := by
  rw [List.getD_eq_getElem?_getD]
  cases hi : s[i]? with
  | none => exact fun e e' _ => rfl
  | some φ => exact h φ (List.mem_of_getElem? hi)
theorem semE_dep {V : List Nat} {s : Sem} (h : ∀ φ ∈ s, DepOn V φ) (x : Ex) (hx : x.k = 2 → x.v.toNat ∈ V) : DepOn V (semE s x) := by
  have hn := fun i : Int => depOn_nth h i.toNat
  intro e e' he
  have n1 := fun i : Int => hn i e e' he
  unfold semE nth
  by_cases c1 : x.k = 1
  · rw [if_pos c1]
  · rw [if_neg c1]
    by_cases c2 : x.k = 2
    · rw [if_pos c2]
      show (e x.v.toNat == x.on) = (e' x.v.toNat == x.on)
      rw [he _ (hx c2)]
    · rw [if_neg c2]
      by_cases c3 : 3 ≤ x.k ∧ x.k ≤ 6
      · rw [if_pos c3]
        show opB _ _ _ = opB _ _ _
        rw [n1, n1]
      · rw [if_neg c3]
        by_cases c4 : x.k = 7
        · rw [if_pos c4]
          show (!_) = (!_)
          rw [n1]
        · rw [if_neg c4]
          by_cases c5 : x.k = 8
          · rw [if_pos c5]
            refine hn x.a _ _ (fun j hj => ?_)
            unfold hld
            split
            · rfl
            · exact he j hj
          · rw [if_neg c5]
            by_cases c6 : x.k = 9
            · rw [if_pos c6]
              show iteB _ _ _ = iteB _ _ _
              rw [n1, n1, n1]
            · rw [if_neg c6]
theorem semL_dep {V : List Nat} : ∀ (L : List Ex) (s : Sem), (∀ φ ∈ s, DepOn V φ) → (∀ x ∈ L, x.k = 2 → x.v.toNat ∈ V) → ∀ φ ∈ semL s L, DepOn V φ
  | [], s, h, _ => h
  | x :: r, s, h, hx => semL_dep r _ (fun φ hφ => by
      rcases List.mem_append.1 hφ with q | q
      · exact h φ q
      · rw [List.mem_singleton.1 q]; exact semE_dep h x (hx x List.mem_cons_self)) (fun y hy => hx y (List.mem_cons_of_mem _ hy))
theorem okL_v : ∀ (L : List Ex) (i : Nat), OkL i L → ∀ x ∈ L, 0 ≤ x.v ∧ x.v < 104
  | y :: r, i, h, x, hx => by
    rcases List.mem_cons.1 hx with q | q
    · rw [q]; exact h.1.2.2.2
    · exact okL_v r (i + 1) h.2 x q
theorem sem_dep {L : List Ex} (hok : OkL 0 L) (i : Nat) : DepOn (varsL L) ((semL [] L).getD i (fun _ => false)) :=
  depOn_nth (semL_dep L [] (fun φ h => by cases h) (fun x hx hk => by
    obtain ⟨h0, h1⟩ := okL_v L 0 hok x hx
    refine List.mem_filter.2 ⟨List.mem_range.2 (by omega), ?_⟩
    exact List.any_eq_true.2 ⟨x, hx, decide_eq_true ⟨hk, by omega⟩⟩)) i
end Go.Proofs.Ytgcbngephokegab
/- Which bits expressions ask; sets of few bits. -/
namespace Go.Proofs.Ytgcbngephokegab
open Go.RowKit
set_option linter.unusedVariables false
set_option linter.unusedSimpArgs false

theorem hinfo_partsI {P : Program} {t : TypeId} {z : Value} {s b : Nat} (h : (P.info? t).map (fun i => (i.zero, i.size, i.bytes)) = some (some z, s, b)) : ∃ i, P.info? t = some i ∧ i.zero = some z ∧ i.size = s ∧ i.bytes = b := by
  rw [Option.map_eq_some_iff] at h
  obtain ⟨i, hi, he⟩ := h
  simp only [Prod.mk.injEq] at he
  exact ⟨i, hi, he.1, he.2.1, he.2.2⟩
theorem varsN_len (L : List Ex) (n : Nat) : (varsN L n).length ≤ n := by
  have := List.length_filter_le (AskB L) (List.range n)
  rw [List.length_range] at this
  exact this
theorem askB_no {L : List Ex} {i : Nat} (h : ∀ j x, j < L.length → L[j]? = some x → ¬ (x.k = 2 ∧ x.v = (i : Int))) : AskB L i = false := by
  unfold AskB
  rw [List.any_eq_false]
  intro x hx
  obtain ⟨j, hj, e⟩ := List.mem_iff_getElem.1 hx
  rw [decide_eq_true_eq]
  exact h j x hj (by rw [List.getElem?_eq_getElem hj, e])
set_option maxRecDepth 100000 in
set_option maxHeartbeats 4000000 in
theorem rvars_any (L : List Ex) (la : Option Addr) (lc : Nat) (w : World) (hL : Rw w la (L.flatMap Ex.cells)) (hlen : L.length ≤ maxLen) :
    Calls Try.prog 13 #[.slice la L.length lc] w fun e w' => ∃ v, e = .returned v ∧ w'.ownsRow w.heap.size 3 1 v (varsL L).length ((varsL L).map iv) ∧ Below w.heap.size w w' := by
  obtain ⟨n, hn⟩ : ∃ n, L.length = n := ⟨_, rfl⟩
  rw [hn] at hlen ⊢
  have HN := Lib.hid hn
  have HL0 := Lib.hid hL
  unfold maxLen at hlen
  clear hn hL
  have R0 : Hid (w.ownsRow w.heap.size 3 1 (.slice none 0 0) (varsN L 0).length ((varsN L 0).map iv)) := Lib.hid (World.ownsRow_nil _ _ _ _)
  have B0 : Hid (Below w.heap.size w w) := Lib.hid (Below.refl _ _)
  obtain ⟨base, hbase⟩ : ∃ b, w.heap.size = b := ⟨_, rfl⟩
  rw [hbase] at R0 B0 ⊢
  have HBS := Lib.hid hbase
  clear hbase
  go_enter Try.func13, Try.ntmps13
  go_wp2_with fail
  go_loopw [3, 4] (fun v iv' wr => ∃ i : Nat, iv' = .int .i64 (i : Nat) ∧ i ≤ 104 ∧ Hid (wr.ownsRow base 3 1 v (varsN L i).length ((varsN L i).map iv)) ∧ Hid (Below base w wr)) (fun _ iv' _ => 104 - (intOf iv').toNat)
  case atStart => exact ⟨0, rfl, Nat.zero_le _, R0, B0⟩
  case round =>
    obtain ⟨i, rfl, hi, R, B⟩ := hrel
    clear R0 B0
    by_cases hi4 : i < 104
    · have hw1 : IntKind.i64.wrap ((i : Int) + 1) = ((i + 1 : Nat) : Int) := by rw [IntKind.wrap_i64]; omega
      have hnl := varsN_len L i
      have hsn := Lib.hid (varsN_succ L i)
      go_wp2_with fail
      go_loopw [3, 5] (fun av kv wr => ∃ k : Nat, kv = .int .i64 (k : Nat) ∧ k ≤ n ∧ Hid (∀ j x, j < k → L[j]? = some x → ¬ (x.k = 2 ∧ x.v = (i : Int))) ∧ Hid (wr.ownsRow base 3 1 av (varsN L i).length ((varsN L i).map iv)) ∧ Hid (Below base w wr)) (fun _ kv _ => n - (intOf kv).toNat)
      case atStart => exact ⟨0, rfl, Nat.zero_le _, Lib.hid (fun j x h => by omega), R, B⟩
      case round =>
        obtain ⟨k, rfl, hk, HJ, R, B⟩ := hrel
        by_cases hkn : k < n
        · have hwk : IntKind.i64.wrap ((k : Int) + 1) = ((k + 1 : Nat) : Int) := by rw [IntKind.wrap_i64]; omega
          obtain ⟨x, hx⟩ : ∃ x, L[k]? = some x := ⟨_, List.getElem?_eq_getElem (by rw [HN.out]; exact hkn)⟩
          obtain ⟨b, off, rfl⟩ := HL0.out.elemAd 5 Ex.cells_len hx
          have HX := Lib.hid hx
          have BW : Below w.heap.size w wr := by rw [HBS.out]; exact B.out
          have el := fun j v (hv : (Ex.cells x)[j]? = some v) => (HL0.out.on BW).elem 6 Ex.cells_len hx j hv
          have l_0 : wr.cell? ⟨b, off + k * 6, none⟩ = some (.int .i64 x.k) := el 0 _ rfl
          have l_4 : wr.cell? ⟨b, off + k * 6 + 4, none⟩ = some (.int .i64 x.v) := el 4 _ rfl
          clear el hx BW
          by_cases hq : x.k = 2 ∧ x.v = (i : Int)
          · have hask : AskB L i = true := List.any_eq_true.2 ⟨x, List.mem_of_getElem? HX.out, decide_eq_true hq⟩
            have hsn2 := Lib.hid (show varsN L (i + 1) = varsN L i ++ [i] by rw [hsn.out, if_pos hask])
            rw [hq.1] at l_0
            rw [hq.2] at l_4
            clear hq hask HX HJ
            go_upto_region 9 with fail
            obtain ⟨nY, hnY⟩ : ∃ q, (varsN L i).length = q := ⟨_, rfl⟩
            obtain ⟨cY, hcY⟩ : ∃ c, (varsN L i).map iv = c := ⟨_, rfl⟩
            have hown := R.out
            rw [hnY, hcY] at hown
            rw [hnY] at hnl
            have HNY := Lib.hid hnY
            have HCY := Lib.hid hcY
            clear hnY hcY
            obtain ⟨i0, hi0, hz0, hz1, hz2⟩ := hinfo_partsI infoInt
            have hsz : base ≤ wr.heap.size := by have := B.out.size; rw [HBS.out] at this; exact this
            go_wp2_with (at_builtin; refine wpList_append_own _ rfl _ _ 29 rfl base 3 i0 (.int .i64 0) 1 8 Try.underlying29 hi0 hz0 hz1 hz2 rfl (by decide) _ _ _ rfl (hown.alloc _) ⟨wr.heap.size, 0, none⟩ 1 1 [.int .i64 (i : Nat)] rfl rfl ?c1 ?c2 ?c3 ?c4 ?c5 ?_)
            case c1 => exact fun j u hj => by rw [show ((⟨wr.heap.size, 0, none⟩ : Addr).add j) = ⟨wr.heap.size, j, none⟩ by first | (simp [Addr.add]; done) | (simp [Addr.add]; exact fun h => h.symm)]; exact (Blk.new wr 3 [.int .i64 (i : Nat)]).1 j u hj
            case c2 => intro u hu; simp at hu; rcases hu with rfl; rfl
            case c3 => unfold maxLen; omega
            case c4 => omega
            case c5 => simp; omega
            · intro v' w5 hown' hgrow hnil
              have RX : Hid (w5.ownsRow base 3 1 v' (varsN L (i + 1)).length ((varsN L (i + 1)).map iv)) := Lib.hid (by
                rw [hsn2.out, List.length_append, List.map_append, HNY.out, HCY.out]
                exact hown')
              have BX : Hid (Below base w w5) := Lib.hid ((B.out.alloc (by rw [← HBS.out]; exact B.out.size) _).grown hgrow (by simp; omega) (fun g e => (World.ownsRow.lt hown g e).1))
              clear hown' hgrow hnil hown R B hi0 hz0 hz1 hz2 l_0 l_4
              go_wp2_with fail
              refine ⟨⟨i + 1, by first | rfl | rw [hw1], by omega, RX, BX⟩, by simp [intOf] <;> omega⟩
          · have HJ2 : Hid (∀ j x, j < k + 1 → L[j]? = some x → ¬ (x.k = 2 ∧ x.v = (i : Int))) := Lib.hid (fun j y hj hy => by
              rcases Nat.lt_or_ge j k with r | r
              · exact HJ.out j y r hy
              · obtain rfl : j = k := by omega
                rw [HX.out] at hy; cases hy; exact hq)
            clear HJ
            by_cases h2 : x.k = 2
            · have hv : ¬ x.v = (i : Int) := fun e => hq ⟨h2, e⟩
              have d1 : (x.k == 2) = true := by simp [h2]
              have d2 : (x.v == (i : Int)) = false := by simp [hv]
              clear hq h2 hv
              go_wp2_with fail
              refine ⟨⟨k + 1, by first | rfl | rw [hwk], by omega, HJ2, R, B⟩, by simp [intOf] <;> omega⟩
            · have d1 : (x.k == 2) = false := by simp [h2]
              clear hq h2
              go_wp2_with fail
              refine ⟨⟨k + 1, by first | rfl | rw [hwk], by omega, HJ2, R, B⟩, by simp [intOf] <;> omega⟩
        · obtain rfl : k = n := by omega
          have hask := askB_no (L := L) (i := i) (fun j x hj hx => HJ.out j x (by rw [← HN.out]; exact hj) hx)
          have RX : Hid (wr.ownsRow base 3 1 u3 (varsN L (i + 1)).length ((varsN L (i + 1)).map iv)) := Lib.hid (by
            rw [hsn.out, hask]; simp only [Bool.false_eq_true, if_false, List.append_nil]; exact R.out)
          clear HJ R hask
          go_wp2_with fail
          refine ⟨⟨i + 1, by first | rfl | rw [hw1], by omega, RX, B⟩, by simp [intOf] <;> omega⟩
    · obtain rfl : i = 104 := by omega
      go_wp2
      go_ret
      exact ⟨_, rfl, R.out, B.out⟩
/-- What light tells. -/
structure Lt8 (L : List Ex) : Prop where
  lt : Lt L
  len : L.length ≤ 30
  few : (varsL L).length ≤ 7
set_option maxRecDepth 100000 in
set_option maxHeartbeats 4000000 in
theorem light8_any (L : List Ex) (la : Option Addr) (lc : Nat) (w : World) (hL : Rw w la (L.flatMap Ex.cells)) (hlen : L.length ≤ maxLen) (hrng : ∀ x ∈ L, -9223372036854775808 ≤ x.v ∧ x.v ≤ 9223372036854775807) :
    Calls Try.prog 4 #[.slice la L.length lc] w (TellsR (Lt8 L) w) := by
  have CL := Lib.hid (light_any L la lc w hL hlen hrng)
  have CV := Lib.hid (fun (W : World) (hb : Below w.heap.size w W) => rvars_any L la lc W (hL.on hb) hlen)
  have HVL := Lib.hid (varsN_len L 104)
  obtain ⟨n, hn⟩ : ∃ n, L.length = n := ⟨_, rfl⟩
  rw [hn] at hlen CL CV ⊢
  have HN := Lib.hid hn
  unfold maxLen at hlen
  clear hn hL hrng
  go_enter Try.func4, Try.ntmps4
  go_wp2_with fail
  refine CL.out.mono ?_
  rintro e w1 ⟨r, rfl, hr, hb⟩
  have B1 := Lib.hid hb
  clear hb CL
  cases r with
  | false =>
    clear hr
    go_wp2
    go_ret
    exact tellsF B1.out
  | true =>
    have LT := Lib.hid (hr rfl)
    clear hr
    by_cases h30 : n ≤ 30
    · have d1 : decide ((n : Int) ≤ 30) = true := decide_eq_true (by omega)
      have d1' : (n : Int) ≤ 30 := by omega
      go_wp2_with fail
      refine (CV.out w1 B1.out).mono ?_
      rintro e w2 ⟨v, rfl, hv, hb⟩
      have B2 := Lib.hid (bel_on' B1.out hb)
      have hvl := HVL.out
      have hvd : varsN L 104 = varsL L := rfl
      rw [hvd] at hvl
      obtain ⟨m, hm⟩ : ∃ m, (varsL L).length = m := ⟨_, rfl⟩
      have HM := Lib.hid hm
      rw [hm] at hvl
      have hv2 : ∃ a c, v = .slice a m c := by
        rcases hv.2 with ⟨e1, e2⟩ | ⟨g, cap, cur, e1, -⟩
        · rw [hm] at e2; exact ⟨none, 0, by rw [e1, e2]⟩
        · rw [hm] at e1; exact ⟨_, _, e1⟩
      obtain ⟨va, vc, rfl⟩ := hv2
      clear hb hv hm hvd
      by_cases h7 : m ≤ 7
      · have d2 : decide ((m : Int) ≤ 7) = true := decide_eq_true (by omega)
        have d2' : (m : Int) ≤ 7 := by omega
        go_wp2
        go_ret
        exact tellsR rfl (fun _ => ⟨LT.out, by rw [HN.out]; exact h30, by rw [HM.out]; exact h7⟩) B2.out
      · have d2 : decide ((m : Int) ≤ 7) = false := decide_eq_false (by omega)
        have d2' : ¬ (m : Int) ≤ 7 := by omega
        go_wp2
        go_ret
        exact tellsF B2.out
    · have d1 : decide ((n : Int) ≤ 30) = false := decide_eq_false (by omega)
      have d1' : ¬ (n : Int) ≤ 30 := by omega
      go_wp2
      go_ret
      exact tellsF B1.out
end Go.Proofs.Ytgcbngephokegab
/- Expressions made again: what there is is found; one more is made or not. No program in sight. -/
namespace Go.Proofs.Ytgcbngephokegab
set_option linter.unusedVariables false

theorem okL_append : ∀ (l : List Ex) (x : Ex) (i : Nat), OkL i (l ++ [x]) ↔ OkL i l ∧ x.Ok (i + l.length)
  | [], x, i => by simp [OkL]
  | y :: r, x, i => by
    rw [List.cons_append]
    show (y.Ok i ∧ OkL (i + 1) (r ++ [x])) ↔ (y.Ok i ∧ OkL (i + 1) r) ∧ _
    rw [okL_append r x (i + 1), List.length_cons, show i + 1 + r.length = i + (r.length + 1) by omega, and_assoc]
theorem okL_take : ∀ (l : List Ex) (i k : Nat), OkL i l → OkL i (l.take k)
  | [], i, k, h => by simp [OkL]
  | y :: r, i, 0, h => by simp [OkL]
  | y :: r, i, k + 1, h => by rw [List.take_succ_cons]; exact ⟨h.1, okL_take r (i + 1) k h.2⟩
theorem mkF_append (most : Nat) : ∀ (l1 l2 : List Ex) (ns : List Nd) (o : List Nat), (mkF most ns o l1).2.1 = true → mkF most ns o (l1 ++ l2) = mkF most (mkF most ns o l1).2.2 (mkF most ns o l1).1 l2
  | [], l2, ns, o, h => rfl
  | x :: r, l2, ns, o, h => by
    rw [List.cons_append, mkF.eq_2, mkF.eq_2]
    rw [mkF.eq_2] at h
    obtain ⟨q, ns1, e⟩ : ∃ q ns1, stepF most ns o x = (q, ns1) := ⟨_, _, rfl⟩
    rw [e] at h ⊢
    cases q with
    | none => cases h
    | some q => exact mkF_append most r l2 ns1 (o ++ [q]) h
theorem mkF_last (most : Nat) (ns : List Nd) (o : List Nat) (x : Ex) : mkF most ns o [x] = match stepF most ns o x with | (none, ns1) => (o, false, ns1) | (some q, ns1) => (o ++ [q], true, ns1) := by
  rw [mkF.eq_2]
  obtain ⟨q, ns1, e⟩ : ∃ q ns1, stepF most ns o x = (q, ns1) := ⟨_, _, rfl⟩
  rw [e]
  cases q <;> rfl
/-- One more than there are. -/
theorem mk_snoc (most : Nat) {ns : List Nd} {l : List Ex} {x : Ex} (h : WF ns) (hok : OkL 0 (l ++ [x])) (hv : HaveL ns [] l) :
    ∃ o, mkF most ns [] l = (o, true, ns) ∧ o.length = l.length ∧ Stand ns o (semL [] l) ∧
      ((∃ q ns', mkF most ns [] (l ++ [x]) = (o ++ [q], true, ns') ∧ stepF most ns o x = (some q, ns')) ∨ (mkF most ns [] (l ++ [x]) = (o, false, ns) ∧ (stepF most ns o x).1 = none)) := by
  obtain ⟨h1, h2⟩ := (okL_append l x 0).1 hok
  obtain ⟨-, -, -, m4, m5, -, -⟩ := mk_any most l ns [] [] h (Stand.nil _) h1
  obtain ⟨e1, e2⟩ := m5 hv
  obtain ⟨st, -⟩ := m4 e2
  obtain ⟨o, b, ns', e⟩ : ∃ o b ns', mkF most ns [] l = (o, b, ns') := ⟨_, _, _, rfl⟩
  have ha := mkF_append most l [x] ns [] e2
  rw [e] at e1 e2 st ha
  simp only at e1 e2 st ha
  subst e1
  subst e2
  have hlen : o.length = l.length := by have := st.len; rw [semL_len] at this; simpa using this
  refine ⟨o, e, hlen, st, ?_⟩
  rw [ha, mkF_last]
  have G := step_got (most := most) h st (x := x) (by rw [semL_len]; simpa using h2)
  obtain ⟨q, ns1, es⟩ : ∃ q ns1, stepF most ns' o x = (q, ns1) := ⟨_, _, rfl⟩
  rw [es] at G
  rw [es]
  cases q with
  | none =>
    have := G.nil rfl
    simp only at this
    subst this
    exact Or.inr ⟨rfl, rfl⟩
  | some q => exact Or.inl ⟨q, ns1, rfl, rfl⟩
/-- .. with room enough. -/
theorem mk_snoc_big {most : Nat} {ns : List Nd} {l : List Ex} {x : Ex} (h : WF ns) (hok : OkL 0 (l ++ [x])) (hv : HaveL ns [] l) {B : Nat → Bool} (hB : Bits B ns) (hx : x.k = 2 → B x.v.toNat = true) {c : Nat} (hc : pw B ≤ c) (hm : ns.length + 3 * c < most) :
    ∃ o ns', mkF most ns [] (l ++ [x]) = (o, true, ns') ∧ o.length = l.length + 1 ∧ WF ns' ∧ HaveL ns' [] (l ++ [x]) ∧ Bits B ns' ∧ ns'.length ≤ ns.length + 3 * c := by
  obtain ⟨o, e, hl, st, hc2⟩ := mk_snoc most h hok hv
  have G := step_got (most := most) h st (x := x) (by rw [semL_len]; simpa using ((okL_append l x 0).1 hok).2)
  obtain ⟨g1, g2, g3⟩ := G.few B hB hx
  rcases hc2 with ⟨q, ns', e1, e2⟩ | ⟨e1, e2⟩
  · rw [e2] at G g1 g2
    obtain ⟨m1, -, -, m4, -⟩ := mk_any most (l ++ [x]) ns [] [] h (Stand.nil _) hok
    rw [e1] at m1 m4
    exact ⟨o ++ [q], ns', e1, by simp [hl], m1, (m4 rfl).2, g1, by simp only at g2; omega⟩
  · have := g3 e2; omega
/-- .. in whatever room. -/
theorem mk_snoc_any (most : Nat) {ns : List Nd} {l : List Ex} {x : Ex} (h : WF ns) (hok : OkL 0 (l ++ [x])) (hv : HaveL ns [] l) :
    ∃ o, mkF most ns [] l = (o, true, ns) ∧ o.length = l.length ∧ ((∃ o' ns', mkF most ns [] (l ++ [x]) = (o', true, ns') ∧ o'.length = l.length + 1 ∧ WF ns' ∧ HaveL ns' [] (l ++ [x]) ∧ ns'.length ≤ max most ns.length) ∨ mkF most ns [] (l ++ [x]) = (o, false, ns)) := by
  obtain ⟨o, e, hl, st, hc⟩ := mk_snoc most h hok hv
  refine ⟨o, e, hl, ?_⟩
  rcases hc with ⟨q, ns', e1, e2⟩ | ⟨e1, e2⟩
  · obtain ⟨m1, -, m3, m4, -⟩ := mk_any most (l ++ [x]) ns [] [] h (Stand.nil _) hok
    rw [e1] at m1 m3 m4
    exact Or.inl ⟨o ++ [q], ns', e1, by simp [hl], m1, (m4 rfl).2, m3⟩
  · exact Or.inr e1
theorem take_snoc {α : Type} {l : List α} {k : Nat} {x : α} (h : l[k]? = some x) : l.take (k + 1) = l.take k ++ [x] := by
  rw [List.take_add_one, h]; rfl
end Go.Proofs.Ytgcbngephokegab
