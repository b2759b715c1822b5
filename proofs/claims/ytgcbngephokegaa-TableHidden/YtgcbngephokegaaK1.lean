/- Plain: paths of bits, entries by paths, in order. No program in sight. -/
import Derived.Test.YtgcbngephokegaaCM
namespace Go.Proofs.Ytgcbngephokegaa
set_option linter.unusedVariables false

abbrev Pth := List Bool
/-- The first k bits of an address. -/
def pth (a k : Nat) : Pth := (List.range k).map fun i => a.testBit (31 - i)
theorem pth_len (a k : Nat) : (pth a k).length = k := by simp [pth]
theorem pth_zero (a : Nat) : pth a 0 = [] := rfl
theorem pth_succ (a k : Nat) : pth a (k + 1) = pth a k ++ [a.testBit (31 - k)] := by simp [pth, List.range_succ]
theorem pth_take (a k j : Nat) (h : j ≤ k) : (pth a k).take j = pth a j := by
  simp [pth, ← List.map_take, List.take_range, Nat.min_eq_left h]
theorem pth_pre (a : Nat) {j k : Nat} (h : j ≤ k) : pth a j <+: pth a k := by rw [← pth_take a k j h]; exact List.take_prefix _ _
/-- The address of a path. -/
def adr : Nat → Pth → Nat
  | _, [] => 0
  | i, b :: r => (if b then 2 ^ (31 - i) else 0) + adr (i + 1) r
def ad (q : Pth) : Nat := adr 0 q
theorem adr_app : ∀ (q : Pth) (i : Nat) (b : Bool), adr i (q ++ [b]) = adr i q + (if b then 2 ^ (31 - (i + q.length)) else 0)
  | [], i, b => by simp [adr]
  | c :: r, i, b => by
    simp only [List.cons_append, adr, adr_app r (i + 1) b, List.length_cons]
    rw [show i + 1 + r.length = i + (r.length + 1) by omega, Nat.add_assoc]
theorem ad_app (q : Pth) (b : Bool) : ad (q ++ [b]) = ad q + (if b then 2 ^ (31 - q.length) else 0) := by
  unfold ad; rw [adr_app, Nat.zero_add]
theorem cut_succ (a k : Nat) (hk : k + 1 ≤ 32) : cutA a (k + 1) = cutA a k + (if a.testBit (31 - k) then 2 ^ (31 - k) else 0) := by
  unfold cutA sz
  rw [show 32 - (k + 1) = 31 - k by omega, show 32 - k = (31 - k) + 1 by omega]
  generalize 31 - k = m
  rw [Nat.pow_succ, ← Nat.div_div_eq_div_mul, Nat.testBit_eq_decide_div_mod_eq]
  generalize a / 2 ^ m = x
  generalize hp : 2 ^ m = p
  have e : x / 2 * (p * 2) = (2 * (x / 2)) * p := by rw [Nat.mul_comm p 2, ← Nat.mul_assoc, Nat.mul_comm (x / 2) 2]
  rcases Nat.mod_two_eq_zero_or_one x with h | h
  · rw [e, h]; simp only [Nat.zero_ne_one, decide_false, Bool.false_eq_true, if_false, Nat.add_zero]
    congr 1; omega
  · rw [e, h]; simp only [decide_true, if_true]
    rw [← Nat.succ_mul]; congr 1; omega
theorem ad_pth (a : Nat) (ha : a < 4294967296) : ∀ k, k ≤ 32 → ad (pth a k) = cutA a k
  | 0, _ => by
    show 0 = a / 2 ^ 32 * 2 ^ 32
    rw [Nat.div_eq_of_lt ha]
  | k + 1, h => by rw [pth_succ, ad_app, ad_pth a ha k (by omega), pth_len, cut_succ a k h]
theorem ad_right (a k : Nat) (ha : a < 4294967296) (hk : k ≤ 32) (h : a % sz k = 0) : ad (pth a k) = a := by rw [ad_pth a ha k hk]; exact (cut_self a k).2 h
theorem snoc_rec {P : Pth → Prop} (nil : P []) (snoc : ∀ q b, P q → P (q ++ [b])) (q : Pth) : P q := by
  have : ∀ r : Pth, P r.reverse := fun r => by
    induction r with
    | nil => exact nil
    | cons b r ih => rw [List.reverse_cons]; exact snoc _ _ ih
  have h := this q.reverse
  rwa [List.reverse_reverse] at h
theorem ad_mod : ∀ (q : Pth), q.length ≤ 32 → ad q % 2 ^ (32 - q.length) = 0 ∧ ad q + 2 ^ (32 - q.length) ≤ 4294967296 := by
  intro q
  induction q using snoc_rec with
  | nil => intro _; exact ⟨rfl, by decide⟩
  | snoc q b ih =>
    intro h
    rw [List.length_append, List.length_singleton] at *
    obtain ⟨h1, h2⟩ := ih (by omega)
    rw [ad_app, show 32 - (q.length + 1) = 31 - q.length by omega]
    rw [show 32 - q.length = (31 - q.length) + 1 by omega, Nat.pow_succ] at h1 h2
    generalize 2 ^ (31 - q.length) = p at *
    have h3 : ad q % p = 0 := by
      have := Nat.mod_mul_right_mod (ad q) p 2
      rw [h1] at this
      simpa using this.symm
    cases b
    · simp; exact ⟨h3, by omega⟩
    · simp; exact ⟨h3, by omega⟩
theorem ad_lt (q : Pth) (h : q.length ≤ 32) : ad q < 4294967296 := by
  have := (ad_mod q h).2
  have := Nat.pow_pos (n := 32 - q.length) (show 0 < 2 by decide)
  omega
theorem ad_or (q : Pth) (h : q.length < 32) (b : Bool) : ad q ||| (if b then 2 ^ (31 - q.length) else 0) = ad (q ++ [b]) := by
  rw [ad_app]
  cases b
  · simp
  · obtain ⟨h1, -⟩ := ad_mod q (by omega)
    simp only [if_true]
    have e : ad q = 2 ^ (32 - q.length) * (ad q / 2 ^ (32 - q.length)) := by
      have := Nat.div_add_mod (ad q) (2 ^ (32 - q.length)); omega
    have := Nat.two_pow_add_eq_or_of_lt (i := 32 - q.length) (b := 2 ^ (31 - q.length)) (Nat.pow_lt_pow_right (by decide) (by omega)) (ad q / 2 ^ (32 - q.length))
    rw [← e] at this
    exact this.symm
/-- An address is its path. -/
theorem pth_ad : ∀ q : Pth, q.length ≤ 32 → pth (ad q) q.length = q := by
  intro q
  induction q using snoc_rec with
  | nil => intro _; rfl
  | snoc q b ih =>
    intro h
    rw [List.length_append, List.length_singleton] at *
    have hq : q.length < 32 := by omega
    rw [pth_succ]
    have hb : (ad (q ++ [b])).testBit (31 - q.length) = b := by
      obtain ⟨h1, -⟩ := ad_mod q (by omega)
      rw [← ad_or q hq b, Nat.testBit_or]
      have e : ad q = 2 ^ (32 - q.length) * (ad q / 2 ^ (32 - q.length)) := by
        have := Nat.div_add_mod (ad q) (2 ^ (32 - q.length)); omega
      have e2 : (ad q).testBit (31 - q.length) = false := by
        rw [e, Nat.testBit_two_pow_mul]; simp; omega
      rw [e2]
      cases b <;> simp
    rw [hb]
    congr 1
    refine (?_ : pth (ad (q ++ [b])) q.length = pth (ad q) q.length).trans (ih (by omega))
    unfold pth
    refine List.map_congr_left (fun i hi => ?_)
    have hi' := List.mem_range.1 hi
    rw [← ad_or q hq b, Nat.testBit_or]
    have e3 : (if b then 2 ^ (31 - q.length) else 0 : Nat).testBit (31 - i) = false := by
      cases b
      · simp
      · rw [if_pos rfl, Nat.testBit_two_pow]; simp; omega
    rw [e3, Bool.or_false]
/-- The order of paths: what a path begins with stands ahead of it. -/
def plt : Pth → Pth → Bool
  | _, [] => false
  | [], _ :: _ => true
  | a :: r, b :: s => (!a && b) || (a == b && plt r s)
theorem plt_irrefl : ∀ q, plt q q = false
  | [] => rfl
  | a :: r => by simp [plt, plt_irrefl r]
theorem plt_trans : ∀ {p q r : Pth}, plt p q = true → plt q r = true → plt p r = true
  | p, q, [], _, h => by cases q <;> simp [plt] at h
  | [], _, _ :: _, _, _ => rfl
  | _ :: _, [], _ :: _, h, _ => by simp [plt] at h
  | a :: p, b :: q, c :: r, h, k => by
    simp only [plt, Bool.or_eq_true, Bool.and_eq_true, Bool.not_eq_true', beq_iff_eq] at h k ⊢
    rcases h with ⟨rfl, rfl⟩ | ⟨rfl, h⟩
    · rcases k with ⟨k, -⟩ | ⟨rfl, k⟩
      · cases k
      · exact Or.inl ⟨rfl, rfl⟩
    · rcases k with ⟨rfl, rfl⟩ | ⟨rfl, k⟩
      · exact Or.inl ⟨rfl, rfl⟩
      · exact Or.inr ⟨rfl, plt_trans h k⟩
theorem plt_total : ∀ (p q : Pth), p = q ∨ plt p q = true ∨ plt q p = true
  | [], [] => Or.inl rfl
  | [], _ :: _ => Or.inr (Or.inl rfl)
  | _ :: _, [] => Or.inr (Or.inr rfl)
  | a :: p, b :: q => by
    rcases plt_total p q with rfl | h | h
    · cases a <;> cases b <;> simp [plt]
    · cases a <;> cases b <;> simp [plt, h]
    · cases a <;> cases b <;> simp [plt, h]
theorem plt_pre : ∀ (q : Pth) (b : Bool) (s : Pth), plt q (q ++ b :: s) = true
  | [], _, _ => rfl
  | a :: r, b, s => by simp [plt, plt_pre r b s]
theorem plt_side : ∀ (q s t : Pth), plt (q ++ false :: s) (q ++ true :: t) = true
  | [], _, _ => by simp [plt]
  | a :: r, s, t => by simp [plt, plt_side r s t]
/-- Entries in order. -/
abbrev Ent := Pth × Int
def elt (x y : Ent) : Prop := plt x.1 y.1 = true ∨ (x.1 = y.1 ∧ x.2 < y.2)
theorem elt_irrefl (x : Ent) : ¬ elt x x := fun h => by
  rcases h with h | ⟨-, h⟩
  · rw [plt_irrefl] at h; cases h
  · omega
theorem elt_trans {x y z : Ent} (h : elt x y) (k : elt y z) : elt x z := by
  rcases h with h | ⟨h1, h2⟩ <;> rcases k with k | ⟨k1, k2⟩
  · exact Or.inl (plt_trans h k)
  · exact Or.inl (by rw [← k1]; exact h)
  · exact Or.inl (by rw [h1]; exact k)
  · exact Or.inr ⟨h1.trans k1, by omega⟩
theorem elt_total (x y : Ent) : x = y ∨ elt x y ∨ elt y x := by
  obtain ⟨p, v⟩ := x
  obtain ⟨q, u⟩ := y
  rcases plt_total p q with rfl | h | h
  · rcases Int.lt_trichotomy v u with h | rfl | h
    · exact Or.inr (Or.inl (Or.inr ⟨rfl, h⟩))
    · exact Or.inl rfl
    · exact Or.inr (Or.inr (Or.inr ⟨rfl, h⟩))
  · exact Or.inr (Or.inl (Or.inl h))
  · exact Or.inr (Or.inr (Or.inl h))
theorem sorted_uniq : ∀ {r s : List Ent}, r.Pairwise elt → s.Pairwise elt → (∀ x, x ∈ r ↔ x ∈ s) → r = s
  | [], [], _, _, _ => rfl
  | [], y :: s, _, _, h => by have := (h y).2 (List.mem_cons_self ..); cases this
  | x :: r, [], _, _, h => by have := (h x).1 (List.mem_cons_self ..); cases this
  | x :: r, y :: s, hr, hs, h => by
    obtain ⟨r1, r2⟩ := List.pairwise_cons.1 hr
    obtain ⟨s1, s2⟩ := List.pairwise_cons.1 hs
    have e : x = y := by
      rcases List.mem_cons.1 ((h x).1 (List.mem_cons_self ..)) with e | e
      · exact e
      · rcases List.mem_cons.1 ((h y).2 (List.mem_cons_self ..)) with k | k
        · exact k.symm
        · exact absurd (elt_trans (s1 _ e) (r1 _ k)) (elt_irrefl _)
    subst e
    congr 1
    refine sorted_uniq r2 s2 (fun z => ?_)
    constructor
    · intro hz
      rcases List.mem_cons.1 ((h z).1 (List.mem_cons_of_mem _ hz)) with e | e
      · subst e; exact absurd (r1 _ hz) (elt_irrefl _)
      · exact e
    · intro hz
      rcases List.mem_cons.1 ((h z).2 (List.mem_cons_of_mem _ hz)) with e | e
      · subst e; exact absurd (s1 _ hz) (elt_irrefl _)
      · exact e
/-- What begins with a path: the path itself, or what begins with it and a bit. -/
theorem pre_cases {q s : Pth} : q <+: s ↔ s = q ∨ q ++ [false] <+: s ∨ q ++ [true] <+: s := by
  constructor
  · rintro ⟨t, rfl⟩
    cases t with
    | nil => exact Or.inl (by simp)
    | cons b t =>
      cases b
      · exact Or.inr (Or.inl ⟨t, by simp⟩)
      · exact Or.inr (Or.inr ⟨t, by simp⟩)
  · rintro (rfl | ⟨t, rfl⟩ | ⟨t, rfl⟩)
    · exact List.prefix_rfl
    · exact ⟨false :: t, by simp⟩
    · exact ⟨true :: t, by simp⟩
/-- What stands at a node and below it, in order. -/
def Lst (E : List Ent) (S : Pth → Prop) (r : List Ent) : Prop := r.Pairwise elt ∧ ∀ x, x ∈ r ↔ x ∈ E ∧ S x.1
theorem Lst.uniq {E E' : List Ent} {S S' : Pth → Prop} {r r' : List Ent} (h : Lst E S r) (h' : Lst E' S' r') (hs : ∀ x, (x ∈ E ∧ S x.1) ↔ (x ∈ E' ∧ S' x.1)) : r = r' :=
  sorted_uniq h.1 h'.1 (fun x => by rw [h.2, h'.2, hs])
theorem Lst.mono {E : List Ent} {S S' : Pth → Prop} {r : List Ent} (h : Lst E S r) (hs : ∀ x ∈ E, S x.1 ↔ S' x.1) : Lst E S' r :=
  ⟨h.1, fun x => by rw [h.2]; exact ⟨fun q => ⟨q.1, (hs x q.1).1 q.2⟩, fun q => ⟨q.1, (hs x q.1).2 q.2⟩⟩⟩
theorem lst_vals {E : List Ent} {q : Pth} {vs : List Int} (hv : vs.Pairwise (· < ·)) (hm : ∀ v, v ∈ vs ↔ (q, v) ∈ E) : Lst E (fun s => s = q) (vs.map fun v => (q, v)) := by
  refine ⟨List.pairwise_map.2 (hv.imp (fun h => Or.inr ⟨rfl, h⟩)), fun x => ?_⟩
  obtain ⟨p, v⟩ := x
  simp only [List.mem_map, Prod.mk.injEq]
  constructor
  · rintro ⟨u, h1, rfl, rfl⟩; exact ⟨(hm u).1 h1, rfl⟩
  · rintro ⟨h1, rfl⟩; exact ⟨v, (hm v).2 h1, rfl, rfl⟩
theorem lst_app {E : List Ent} {S S' : Pth → Prop} {r r' : List Ent} (h : Lst E S r) (h' : Lst E S' r') (hlt : ∀ p q, S p → S' q → plt p q = true) : Lst E (fun s => S s ∨ S' s) (r ++ r') := by
  refine ⟨List.pairwise_append.2 ⟨h.1, h'.1, fun x hx y hy => Or.inl (hlt _ _ ((h.2 x).1 hx).2 ((h'.2 y).1 hy).2)⟩, fun x => ?_⟩
  rw [List.mem_append, h.2, h'.2]
  constructor
  · rintro (⟨a, b⟩ | ⟨a, b⟩)
    · exact ⟨a, Or.inl b⟩
    · exact ⟨a, Or.inr b⟩
  · rintro ⟨a, b | b⟩
    · exact Or.inl ⟨a, b⟩
    · exact Or.inr ⟨a, b⟩
theorem lst_nil {E : List Ent} {S : Pth → Prop} (h : ∀ x ∈ E, ¬ S x.1) : Lst E S [] := ⟨List.Pairwise.nil, fun x => ⟨fun q => (by cases q), fun q => absurd q.2 (h x q.1)⟩⟩
theorem lst_node {E : List Ent} {q : Pth} {vs : List Int} {r0 r1 : List Ent} (hv : vs.Pairwise (· < ·)) (hm : ∀ v, v ∈ vs ↔ (q, v) ∈ E) (h0 : Lst E (fun s => q ++ [false] <+: s) r0) (h1 : Lst E (fun s => q ++ [true] <+: s) r1) :
    Lst E (fun s => q <+: s) ((vs.map fun v => (q, v)) ++ r0 ++ r1) := by
  refine (lst_app (lst_app (lst_vals hv hm) h0 ?_) h1 ?_).mono (fun x hx => ?_)
  · rintro p s rfl ⟨t, rfl⟩; rw [List.append_assoc]; exact plt_pre _ _ _
  · rintro p s (rfl | ⟨t, rfl⟩) ⟨u, rfl⟩
    · rw [List.append_assoc]; exact plt_pre _ _ _
    · rw [List.append_assoc, List.append_assoc]; exact plt_side _ _ _
  · rw [pre_cases (q := q)]; exact or_assoc
end Go.Proofs.Ytgcbngephokegaa
