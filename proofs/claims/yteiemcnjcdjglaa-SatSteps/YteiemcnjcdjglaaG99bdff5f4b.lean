/- Texts joined, in their order: S3, SV, SN. -/
import Derived.Test.YteiemcnjcdjglaaG6cff558f04
import Derived.Test.YteiemcnjcdjglaaG212a414aca
import Derived.Test.YteiemcnjcdjglaaGf97ea61b17
/- Which nodes sets have, each once: plain. No program in sight. -/
namespace Go.Proofs.Yteiemcnjcdjglaa
set_option linter.unusedVariables false

/-- A set's own nodes. -/
inductive Rc (ns : List Nd) : Nat → Nat → Prop
  | self {f : Nat} : 2 ≤ f → Rc ns f f
  | low {f x : Nat} : 2 ≤ f → Rc ns (ns.getD f bot).l x → Rc ns f x
  | high {f x : Nat} : 2 ≤ f → Rc ns (ns.getD f bot).h x → Rc ns f x
theorem Rc.two {ns : List Nd} {f x : Nat} (h : Rc ns f x) : 2 ≤ f ∧ 2 ≤ x := by
  induction h with
  | self q => exact ⟨q, q⟩
  | low q _ ih => exact ⟨q, ih.2⟩
  | high q _ ih => exact ⟨q, ih.2⟩
theorem Rc.le {ns : List Nd} (hw : WF ns) {f x : Nat} (h : Rc ns f x) : f < ns.length → x ≤ f := by
  induction h with
  | self q => intro _; exact Nat.le_refl _
  | low q _ ih => intro hf; have := hw.parts q hf; have := ih (by omega); omega
  | high q _ ih => intro hf; have := hw.parts q hf; have := ih (by omega); omega
theorem Rc.node {ns : List Nd} {f x : Nat} (h : Rc ns f x) : x = f ∨ Rc ns (ns.getD f bot).l x ∨ Rc ns (ns.getD f bot).h x := by
  cases h with
  | self q => exact Or.inl rfl
  | low q r => exact Or.inr (Or.inl r)
  | high q r => exact Or.inr (Or.inr r)
theorem Rc.trans {ns : List Nd} {f g x : Nat} (h : Rc ns f g) : Rc ns g x → Rc ns f x := by
  induction h with
  | self _ => exact id
  | low q _ ih => exact fun r => Rc.low q (ih r)
  | high q _ ih => exact fun r => Rc.high q (ih r)
/-- A visit: what was met, and how often something was. -/
def viF (ns : List Nd) : Nat → List Nat → Nat → Nat → List Nat × Nat
  | 0, m, c, _ => (m, c)
  | k + 1, m, c, f =>
    if f ≤ 1 then (m, c)
    else if f ∈ m then (m, c + 1)
    else viF ns k (viF ns k (f :: m) (c + 1) (ns.getD f bot).l).1 (viF ns k (f :: m) (c + 1) (ns.getD f bot).l).2 (ns.getD f bot).h
theorem viF_succ (ns : List Nd) (k : Nat) (m : List Nat) (c f : Nat) : viF ns (k + 1) m c f = if f ≤ 1 then (m, c) else if f ∈ m then (m, c + 1) else viF ns k (viF ns k (f :: m) (c + 1) (ns.getD f bot).l).1 (viF ns k (f :: m) (c + 1) (ns.getD f bot).l).2 (ns.getD f bot).h := rfl
structure Vi (ns : List Nd) (m : List Nat) (c f : Nat) (R : List Nat × Nat) : Prop where
  mem : ∀ x, x ∈ R.1 ↔ x ∈ m ∨ Rc ns f x
  one : m.Nodup → R.1.Nodup
  len : m.length ≤ R.1.length
  cnt : R.2 ≤ c + 1 + 2 * (R.1.length - m.length)
theorem viF_ok {ns : List Nd} (h : WF ns) : ∀ k m c f, f < ns.length → f < k → (∀ g ∈ m, g ≤ f → ∀ x, Rc ns g x → x ∈ m) → Vi ns m c f (viF ns k m c f)
  | 0, m, c, f, _, hk, _ => by omega
  | k + 1, m, c, f, hf, hk, hc => by
    rw [viF_succ]
    by_cases q : f ≤ 1
    · rw [if_pos q]
      exact ⟨fun x => ⟨Or.inl, fun r => r.elim id (fun r => by have := r.two.1; omega)⟩, id, Nat.le_refl _, by simp only; omega⟩
    rw [if_neg q]
    by_cases r : f ∈ m
    · rw [if_pos r]
      exact ⟨fun x => ⟨Or.inl, fun s => s.elim id (fun s => hc f r (Nat.le_refl _) x s)⟩, id, Nat.le_refl _, by simp only; omega⟩
    rw [if_neg r]
    obtain ⟨a, b, -⟩ := h.parts (by omega) hf
    have A := viF_ok h k (f :: m) (c + 1) (ns.getD f bot).l (by omega) (by omega) (fun g hg hle x hx => by
      rcases List.mem_cons.1 hg with rfl | hg
      · omega
      · exact List.mem_cons_of_mem _ (hc g hg (by omega) x hx))
    obtain ⟨R, hR⟩ : ∃ R, viF ns k (f :: m) (c + 1) (ns.getD f bot).l = R := ⟨_, rfl⟩
    rw [hR] at A ⊢
    have l1 := A.len
    have c1 := A.cnt
    simp only [List.length_cons] at l1 c1
    have B := viF_ok h k R.1 R.2 (ns.getD f bot).h (by omega) (by omega) (fun g hg hle x hx => by
      rcases (A.mem g).1 hg with hg | hg
      · rcases List.mem_cons.1 hg with rfl | hg
        · omega
        · exact (A.mem x).2 (Or.inl (List.mem_cons_of_mem _ (hc g hg (by omega) x hx)))
      · exact (A.mem x).2 (Or.inr (hg.trans hx)))
    obtain ⟨T, hT⟩ : ∃ T, viF ns k R.1 R.2 (ns.getD f bot).h = T := ⟨_, rfl⟩
    rw [hT] at B ⊢
    have l2 := B.len
    have c2 := B.cnt
    refine ⟨fun x => ?_, fun hn => B.one (A.one (List.nodup_cons.2 ⟨r, hn⟩)), by omega, by omega⟩
    rw [B.mem, A.mem, List.mem_cons]
    constructor
    · rintro (((rfl | s) | s) | s)
      · exact Or.inr (Rc.self (by omega))
      · exact Or.inl s
      · exact Or.inr (Rc.low (by omega) s)
      · exact Or.inr (Rc.high (by omega) s)
    · rintro (s | s)
      · exact Or.inl (Or.inl (Or.inr s))
      · rcases s.node with rfl | s | s
        · exact Or.inl (Or.inl (Or.inl rfl))
        · exact Or.inl (Or.inr s)
        · exact Or.inr s
/-- What is met behind several sets. -/
structure Mt (ns : List Nd) (fs : List Nat) (m : List Nat) : Prop where
  mem : ∀ x, x ∈ m ↔ ∃ f ∈ fs, Rc ns f x
  one : m.Nodup
theorem Mt.closed {ns : List Nd} {fs m : List Nat} (h : Mt ns fs m) : ∀ g ∈ m, ∀ x, Rc ns g x → x ∈ m := fun g hg x hx => by
  obtain ⟨f, hf, r⟩ := (h.mem g).1 hg
  exact (h.mem x).2 ⟨f, hf, r.trans hx⟩
theorem Mt.nil (ns : List Nd) : Mt ns [] [] := ⟨fun x => ⟨fun h => (by cases h), fun ⟨f, h, _⟩ => (by cases h)⟩, List.nodup_nil⟩
theorem Mt.step {ns : List Nd} (h : WF ns) {fs m : List Nat} (hm : Mt ns fs m) {f : Nat} (hf : f < ns.length) (k c : Nat) (hk : f < k) : Mt ns (fs ++ [f]) (viF ns k m c f).1 := by
  have A := viF_ok h k m c f hf hk (fun g hg _ => hm.closed g hg)
  refine ⟨fun x => ?_, A.one hm.one⟩
  rw [A.mem, hm.mem]
  constructor
  · rintro (⟨g, h1, h2⟩ | h2)
    · exact ⟨g, List.mem_append_left _ h1, h2⟩
    · exact ⟨f, List.mem_append_right _ (List.mem_singleton.2 rfl), h2⟩
  · rintro ⟨g, h1, h2⟩
    rcases List.mem_append.1 h1 with h1 | h1
    · exact Or.inl ⟨g, h1, h2⟩
    · rw [List.mem_singleton.1 h1] at h2; exact Or.inr h2
/-- A number that is no set's has none. -/
theorem Mt.skip {ns : List Nd} {fs m : List Nat} (hm : Mt ns fs m) : Mt ns fs m := hm
theorem Mt.le {ns : List Nd} {fs gs m m' : List Nat} (h : Mt ns fs m) (h' : Mt ns gs m') (hs : ∀ f ∈ fs, f ∈ gs) : m.length ≤ m'.length :=
  nodup_sub m m' h.one (fun x hx => by
    obtain ⟨f, a, b⟩ := (h.mem x).1 hx
    exact (h'.mem x).2 ⟨f, hs f a, b⟩)
theorem Mt.same {ns : List Nd} {fs gs m m' : List Nat} (h : Mt ns fs m) (h' : Mt ns gs m') (hs : ∀ f, f ∈ fs ↔ f ∈ gs) : m.length = m'.length :=
  Nat.le_antisymm (h.le h' (fun f hf => (hs f).1 hf)) (h'.le h (fun f hf => (hs f).2 hf))
theorem Mt.both {ns : List Nd} {f g : Nat} {m n b : List Nat} (hm : Mt ns [f] m) (hn : Mt ns [g] n) (hb : Mt ns [f, g] b) : b.length ≤ m.length + n.length := by
  have := nodup_sub b (m ++ n) hb.one (fun x hx => by
    obtain ⟨k, a, r⟩ := (hb.mem x).1 hx
    rcases List.mem_cons.1 a with rfl | a
    · exact List.mem_append_left _ ((hm.mem x).2 ⟨_, List.mem_singleton.2 rfl, r⟩)
    · exact List.mem_append_right _ ((hn.mem x).2 ⟨_, a, r⟩))
  rw [List.length_append] at this
  exact this
theorem Mt.room {ns : List Nd} (hw : WF ns) {fs m : List Nat} (h : Mt ns fs m) (hf : ∀ f ∈ fs, f < ns.length) : m.length + 2 ≤ ns.length := by
  have hl := hw.len
  have := nodup_sub (0 :: 1 :: m) (List.range ns.length) (by
    rw [List.nodup_cons, List.nodup_cons]
    refine ⟨fun q => ?_, fun q => ?_, h.one⟩
    · rcases List.mem_cons.1 q with q | q
      · omega
      · obtain ⟨f, a, b⟩ := (h.mem 0).1 q; have := b.two; omega
    · obtain ⟨f, a, b⟩ := (h.mem 1).1 q; have := b.two; omega) (fun x hx => by
    rw [List.mem_range]
    rcases List.mem_cons.1 hx with rfl | hx
    · omega
    rcases List.mem_cons.1 hx with rfl | hx
    · omega
    obtain ⟨f, a, b⟩ := (h.mem x).1 hx
    have := b.le hw (hf f a)
    have := hf f a
    omega)
  simp only [List.length_cons, List.length_range] at this
  omega
theorem Mt.none {ns : List Nd} (hw : WF ns) {f : Nat} {m : List Nat} (h : Mt ns [f] m) : m.length = 0 ↔ f ≤ 1 := by
  constructor
  · intro e
    refine Nat.le_of_not_lt fun q => ?_
    have : f ∈ m := (h.mem f).2 ⟨f, List.mem_singleton.2 rfl, Rc.self (by omega)⟩
    rw [List.length_eq_zero_iff.1 e] at this; cases this
  · intro q
    cases m with
    | nil => rfl
    | cons x r =>
      obtain ⟨g, a, b⟩ := (h.mem x).1 (List.mem_cons_self ..)
      rw [List.mem_singleton.1 a] at b
      have := b.two; omega
/-- A cube's nodes: one for each of its bits. -/
theorem cube_nodes {ns : List Nd} (h : WF ns) : ∀ (l : List (Nat × Bool)) (f : Nat), l.Pairwise (fun a b => a.1 < b.1) → (∀ p ∈ l, p.1 < 104) → f < ns.length → (∀ e, ev ns e f = allB l e) →
    ∃ r : List Nat, r.Nodup ∧ r.length = l.length ∧ ∀ x, x ∈ r ↔ Rc ns f x
  | [], f, _, _, hf, he => by
    have : f = 1 := one_number h hf (by have := h.len; omega) (fun e => by rw [he, ev_one]; rfl)
    subst this
    exact ⟨[], List.nodup_nil, rfl, fun x => ⟨fun q => (by cases q), fun q => by have := q.two.1; omega⟩⟩
  | (v, b) :: r, f, hr, hb, hf, he => by
    obtain ⟨hr1, hr2⟩ := List.pairwise_cons.1 hr
    have hv := hb (v, b) (List.mem_cons_self ..)
    simp only at hv
    have hlit : ∀ (l : List (Nat × Bool)) (i : Nat) (c : Bool) (e : Nat → Bool), (∀ p ∈ l, p.1 ≠ i) → allB l (hld e i c) = allB l e := fun l i c e hl => by
      unfold allB
      rw [Bool.eq_iff_iff, List.all_eq_true, List.all_eq_true]
      exact ⟨fun q p hp => by have := q p hp; rwa [hld_ne _ _ (hl p hp)] at this, fun q p hp => by rw [hld_ne _ _ (hl p hp)]; exact q p hp⟩
    have hrv : ∀ p ∈ r, p.1 ≠ v := fun p hp => by have := hr1 p hp; simp only at this; omega
    have hcons : ∀ e, allB ((v, b) :: r) e = ((e v == b) && allB r e) := fun e => rfl
    have hfree : v ≤ lv ns f := lv_ge h hf (by omega) (fun e i c hi => by
      rw [he, he]
      exact hlit _ i c e (fun p hp => by
        rcases List.mem_cons.1 hp with rfl | hp
        · simp only; omega
        · have := hr1 p hp; simp only at this; omega))
    obtain ⟨e1, he1⟩ : ∃ e : Nat → Bool, allB r e = true := ⟨fun i => ((r.find? (fun p => p.1 == i)).map (·.2)).getD false, by
      unfold allB
      rw [List.all_eq_true]
      intro p hp
      have : r.find? (fun q => q.1 == p.1) = some p := by
        clear hlit hcons hfree hrv hr1 hr hb he
        induction r with
        | nil => cases hp
        | cons q s ih =>
          obtain ⟨s1, s2⟩ := List.pairwise_cons.1 hr2
          rcases List.mem_cons.1 hp with rfl | hp
          · simp
          · have := s1 p hp
            rw [List.find?_cons_of_neg (by simp; omega)]
            exact ih s2 hp
      simp [this]⟩
    have hlvf : lv ns f = v := by
      refine Nat.le_antisymm (Nat.le_of_not_lt fun q => ?_) hfree
      have a1 := ev_hld h e1 (i := v) b hf q
      have a2 := ev_hld h e1 (i := v) (!b) hf q
      rw [he, he, hcons, hcons, hld_same, hlit r v b e1 hrv, he1] at a1
      rw [he, he, hcons, hcons, hld_same, hlit r v (!b) e1 hrv, he1] at a2
      rw [← a1] at a2
      cases b <;> simp at a2
    have h2 : 2 ≤ f := lv_two h hf (by omega)
    obtain ⟨p1, p2, -⟩ := h.parts h2 hf
    have low : ∀ e, ev ns e (ns.getD f bot).l = ((false == b) && allB r e) := fun e => by rw [ev_low h e h2 hf, hlvf, he, hcons, hld_same, hlit r v _ e hrv]
    have high : ∀ e, ev ns e (ns.getD f bot).h = ((true == b) && allB r e) := fun e => by rw [ev_high h e h2 hf, hlvf, he, hcons, hld_same, hlit r v _ e hrv]
    have fin : ∀ g z, g < f → z = 0 → (∀ e, ev ns e g = allB r e) → (∀ x, Rc ns f x ↔ x = f ∨ Rc ns g x ∨ Rc ns z x) → ∃ r' : List Nat, r'.Nodup ∧ r'.length = ((v, b) :: r).length ∧ ∀ x, x ∈ r' ↔ Rc ns f x := fun g z hg hz hge hx => by
      obtain ⟨s, s1, s2, s3⟩ := cube_nodes h r g hr2 (fun p hp => hb p (List.mem_cons_of_mem _ hp)) (by omega) hge
      refine ⟨f :: s, List.nodup_cons.2 ⟨fun q => ?_, s1⟩, by simp [s2], fun x => ?_⟩
      · have := ((s3 f).1 q).le h (by omega); omega
      · rw [List.mem_cons, hx, s3, hz]
        exact ⟨fun q => q.imp id Or.inl, fun q => q.imp id (fun q => q.elim id (fun q => by have := q.two.1; omega))⟩
    cases b with
    | false =>
      refine fin (ns.getD f bot).l (ns.getD f bot).h p1 ?_ (fun e => by rw [low]; simp) (fun x => ⟨fun q => q.node, fun q => ?_⟩)
      · exact one_number h (by omega) (by omega) (fun e => by rw [high, ev_zero]; simp)
      · rcases q with rfl | q | q
        · exact Rc.self h2
        · exact Rc.low h2 q
        · exact Rc.high h2 q
    | true =>
      refine fin (ns.getD f bot).h (ns.getD f bot).l p2 ?_ (fun e => by rw [high]; simp) (fun x => ⟨fun q => ?_, fun q => ?_⟩)
      · exact one_number h (by omega) (by omega) (fun e => by rw [low, ev_zero]; simp)
      · rcases q.node with r | r | r
        · exact Or.inl r
        · exact Or.inr (Or.inr r)
        · exact Or.inr (Or.inl r)
      · rcases q with rfl | q | q
        · exact Rc.self h2
        · exact Rc.high h2 q
        · exact Rc.low h2 q
end Go.Proofs.Yteiemcnjcdjglaa
/- A visit: the walks. -/
namespace Go.Proofs.Yteiemcnjcdjglaa
open Go.RowKit
set_option linter.unusedVariables false
set_option linter.unusedSimpArgs false

set_option maxRecDepth 100000 in
theorem visit_end (p m : Value) (f : Int) (hf : f ≤ 1) (W : World) : Calls Try.prog 54 #[p, .int .i64 f, m] W fun e w' => e = .returned (.tuple #[]) ∧ W = w' := by
  go_enter Try.func54, Try.ntmps54
  go_wp2
  refine bodyPost_ret (v := .tuple #[]) (by simp [results, Try.results54]) rfl ?_
  exact ⟨rfl, rfl⟩
set_option maxRecDepth 100000 in
theorem visit_not (p m : Value) (f : Int) (W : World) (CH : Hid (Calls Try.prog 29 #[p, .int .i64 f] W fun e w' => e = .returned (.bool false) ∧ W = w')) :
    Calls Try.prog 54 #[p, .int .i64 f, m] W fun e w' => e = .returned (.tuple #[]) ∧ W = w' := by
  by_cases hf : f ≤ 1
  · exact visit_end p m f hf W
  · go_enter Try.func54, Try.ntmps54
    go_wp2_with fail
    refine CH.out.mono ?_
    rintro e w' ⟨rfl, rfl⟩
    clear CH
    go_wp2
    refine bodyPost_ret (v := .tuple #[]) (by simp [results, Try.results54]) rfl ?_
    exact ⟨rfl, rfl⟩
set_option maxRecDepth 100000 in
set_option maxHeartbeats 1000000 in
theorem visit_known (p : Value) (f db u : Nat) (Q1 : World → Prop) (W : World) (hf : ¬ (f : Int) ≤ 1)
    (CH : Hid (Calls Try.prog 29 #[p, .int .i64 (f : Nat)] W fun e w' => e = .returned (.bool true) ∧ W = w'))
    (hu : (1 : Int) ≤ (u : Int)) (hwu : (u : Int) ≤ 1000000000000)
    (LK : Hid ((Instr.lookup 101 (.map (some db)) (.int .i64 (f : Nat)) false).run Try.prog W = .ok (.int .i64 (u : Nat)) W ∧ ∃ w', (Instr.mapUpdate 101 (.map (some db)) (.int .i64 (f : Nat)) (.int .i64 ((u : Int) + 1))).run Try.prog W = .ok () w' ∧ Q1 w' ∧ Only db W w' ∧ (Instr.lookup 101 (.map (some db)) (.int .i64 (f : Nat)) false).run Try.prog w' = .ok (.int .i64 ((u : Int) + 1)) w')) :
    Calls Try.prog 54 #[p, .int .i64 (f : Nat), .map (some db)] W fun e w' => e = .returned (.tuple #[]) ∧ Q1 w' ∧ Only db W w' := by
  obtain ⟨l1, w1, l2, hQ, hO, l3⟩ := LK.out
  have HQ := Lib.hid hQ
  have HO := Lib.hid hO
  have c2 : (1 : Int) < (u : Int) + 1 := by omega
  clear hQ hO LK
  go_enter Try.func54, Try.ntmps54
  go_wp2_with fail
  refine CH.out.mono ?_
  rintro e w' ⟨rfl, rfl⟩
  clear CH
  go_wp2
  refine bodyPost_ret (v := .tuple #[]) (by simp [results, Try.results54]) rfl ?_
  exact ⟨rfl, HQ.out, HO.out⟩
set_option maxRecDepth 100000 in
set_option maxHeartbeats 4000000 in
theorem visit_new (p : Value) (f v l h db : Nat) (Q1 Q2 Q3 : World → Prop) (W : World) (hf : ¬ (f : Int) ≤ 1)
    (H1 : Hid (∀ w w', Q1 w → Below w.heap.size w w' → Q1 w')) (H2 : Hid (∀ w w', Q2 w → Below w.heap.size w w' → Q2 w'))
    (CH : Hid (Calls Try.prog 29 #[p, .int .i64 (f : Nat)] W fun e w' => e = .returned (.bool true) ∧ W = w'))
    (LK : Hid ((Instr.lookup 101 (.map (some db)) (.int .i64 (f : Nat)) false).run Try.prog W = .ok (.int .i64 0) W ∧ ∃ w', (Instr.mapUpdate 101 (.map (some db)) (.int .i64 (f : Nat)) (.int .i64 1)).run Try.prog W = .ok () w' ∧ Q1 w' ∧ Only db W w' ∧ (Instr.lookup 101 (.map (some db)) (.int .i64 (f : Nat)) false).run Try.prog w' = .ok (.int .i64 1) w'))
    (CL : Hid (∀ w, Q1 w → Calls Try.prog 42 #[p, .int .i64 (f : Nat)] w fun e w' => e = .returned (.int .i64 (v : Nat)) ∧ Below w.heap.size w w'))
    (CP : Hid (∀ w, Q1 w → Calls Try.prog 66 #[p, .int .i64 (f : Nat), .int .i64 (v : Nat)] w fun e w' => e = .returned (.agg #[.int .i64 (l : Nat), .int .i64 (h : Nat)]) ∧ Below w.heap.size w w'))
    (D1 : Hid (∀ w, Q1 w → Calls Try.prog 54 #[p, .int .i64 (l : Nat), .map (some db)] w fun e w' => e = .returned (.tuple #[]) ∧ Q2 w' ∧ Keep (fun i => i = db) w w'))
    (D2 : Hid (∀ w, Q2 w → Calls Try.prog 54 #[p, .int .i64 (h : Nat), .map (some db)] w fun e w' => e = .returned (.tuple #[]) ∧ Q3 w' ∧ Keep (fun i => i = db) w w')) :
    Calls Try.prog 54 #[p, .int .i64 (f : Nat), .map (some db)] W fun e w' => e = .returned (.tuple #[]) ∧ Q3 w' ∧ Keep (fun i => i = db) W w' := by
  obtain ⟨l1, w1, l2, hQ, hO, l3⟩ := LK.out
  have HQ := Lib.hid hQ
  have K1 := Lib.hid (show Keep (fun i => i = db) W w1 from (Keep.refl _ _).only hO (fun _ => rfl))
  have x0 : ∀ w : World, (Instr.index 94 (.agg #[.int .i64 (l : Nat), .int .i64 (h : Nat)]) (.int .i64 0)).run Try.prog w = .ok (.int .i64 (l : Nat)) w := fun _ => by kernel_rfl
  have x1 : ∀ w : World, (Instr.index 94 (.agg #[.int .i64 (l : Nat), .int .i64 (h : Nat)]) (.int .i64 1)).run Try.prog w = .ok (.int .i64 (h : Nat)) w := fun _ => by kernel_rfl
  clear hQ hO LK
  go_enter Try.func54, Try.ntmps54
  go_wp2_with fail
  refine CH.out.mono ?_
  rintro e w' ⟨rfl, rfl⟩
  clear CH
  go_wp2_with fail
  refine (CL.out w1 HQ.out).mono ?_
  rintro e w2 ⟨rfl, hb⟩
  have Q_2 := Lib.hid (H1.out _ _ HQ.out hb)
  have K2 := Lib.hid (kp_below K1.out hb)
  clear hb HQ K1 CL l1 l2 l3
  go_wp2_with fail
  refine (CP.out w2 Q_2.out).mono ?_
  rintro e w3 ⟨rfl, hb⟩
  have Q_3 := Lib.hid (H1.out _ _ Q_2.out hb)
  have K3 := Lib.hid (kp_below K2.out hb)
  clear hb Q_2 K2 CP
  go_wp2_with fail
  refine wp_loop_rounds 3 ?_
  rw [rounds_succ]
  go_wp2_with fail
  refine (D1.out w3 Q_3.out).mono ?_
  rintro e w4 ⟨rfl, hQ, hk⟩
  have Q_4 := Lib.hid hQ
  have K4 := Lib.hid (kp_trans K3.out hk)
  clear hQ hk Q_3 K3 D1
  go_wp2_with fail
  rw [rounds_succ]
  go_wp2_with fail
  refine (D2.out w4 Q_4.out).mono ?_
  rintro e w5 ⟨rfl, hQ, hk⟩
  have Q_5 := Lib.hid hQ
  have K5 := Lib.hid (kp_trans K4.out hk)
  clear hQ hk Q_4 K4 D2
  go_wp2_with fail
  rw [rounds_succ]
  go_wp2
  refine bodyPost_end (v := .tuple #[]) (by simp [results, Try.results54]) rfl ?_
  exact ⟨rfl, Q_5.out, K5.out⟩
set_option maxRecDepth 100000 in
set_option maxHeartbeats 4000000 in
/-- Nodes, over whatever a visit does. -/
theorem nodes_core (p : Value) (fs : Nat → Int) (n b cap N : Nat) (hn : n ≤ 1000000) (Q : Nat → Nat → World → Prop) (W : World)
    (hr : Hid (∀ i, i < n → W.cell? ⟨b, i, none⟩ = some (.int .i64 (fs i)))) (hbl : Hid (0 < n → b < W.heap.size))
    (HM : Hid (∀ w1, Below W.heap.size W w1 → Q w1.heap.size 0 (w1.alloc (.map #[] 0))))
    (HV : Hid (∀ db k w, k < n → Q db k w → Calls Try.prog 54 #[p, .int .i64 (fs k), .map (some db)] w fun e w' => e = .returned (.tuple #[]) ∧ Q db (k + 1) w' ∧ Keep (fun i => i = db) w w'))
    (HL : Hid (∀ db w, Q db n w → ∀ ty, (Builtin.len_ #[101] ty #[.map (some db)]).run Try.prog w = .ok (.int .i64 (N : Nat)) w)) :
    Calls Try.prog 27 #[p, .slice (some ⟨b, 0, none⟩) n cap] W fun e w' => e = .returned (.int .i64 (N : Nat)) ∧ Below W.heap.size W w' := by
  have hmm := @run_makeMap Try.prog
  go_enter Try.func27, Try.ntmps27
  go_upto_region 2 with fail
  have hM := HM.out W (Below.refl _ _)
  refine at_code (S := fun w => Q W.heap.size 0 w ∧ Below W.heap.size W w) ⟨hM, bel_al (Below.refl _ _) _⟩ (fun w1 hW => ?_)
  obtain ⟨hQ, hb⟩ := hW
  have Q1 := Lib.hid hQ
  have B1 := Lib.hid hb
  have HN := Lib.hid hn
  clear hM HM hQ hb
  go_wp2_with fail
  go_loopw [11] (fun iv' wr => ∃ (k : Nat), iv' = .int .i64 (k : Nat) ∧ k ≤ n ∧ Hid (Q W.heap.size k wr) ∧ Hid (Below W.heap.size W wr)) (fun iv' _ => n - (intOf iv').toNat)
  case atStart => exact ⟨0, rfl, Nat.zero_le _, Q1, B1⟩
  case round =>
    obtain ⟨k, rfl, hk, Qk, Bk⟩ := hrel
    clear Q1 B1
    by_cases hkn : k < n
    · have hwk : IntKind.i64.wrap ((k : Int) + 1) = ((k + 1 : Nat) : Int) := by rw [IntKind.wrap_i64]; omega
      have c_k : wr.cell? ⟨b, k, none⟩ = some (.int .i64 (fs k)) := (Bk.out.cell (p := ⟨b, k, none⟩) (hbl.out (by omega))).trans (hr.out k hkn)
      go_wp2_with fail
      refine (HV.out W.heap.size k wr hkn Qk.out).mono ?_
      rintro e w2 ⟨rfl, hQ, hkp⟩
      have Q2 := Lib.hid hQ
      have B2 := Lib.hid (Bk.out.trans (hkp.below (n := W.heap.size) (by exact Bk.out.size) (fun i hi e => by omega)))
      clear hQ hkp Qk Bk c_k
      go_wp2_with fail
      refine ⟨⟨k + 1, ?_, by omega, Q2, B2⟩, by simp [intOf] <;> omega⟩
      first | rfl | rw [hwk]
    · have hkn' : k = n := by omega
      subst hkn'
      have hl := fun ty => HL.out W.heap.size wr Qk.out ty
      go_wp2
      go_ret
      exact ⟨rfl, Bk.out⟩
end Go.Proofs.Yteiemcnjcdjglaa
/- How many nodes sets have: the calls' contracts. -/
namespace Go.Proofs.Yteiemcnjcdjglaa
open Go.RowKit Go.Maps Go.MapKept Go.ChangeMaps Go.WideElems Go.Joins
set_option linter.unusedVariables false
set_option linter.unusedSimpArgs false

theorem viF_len {ns : List Nd} (h : WF ns) : ∀ k (m : List Nat) c f, f < ns.length → (∀ x ∈ m, x < ns.length) → m.Nodup →
    (∀ x ∈ (viF ns k m c f).1, x < ns.length) ∧ (viF ns k m c f).1.Nodup ∧ m.length ≤ (viF ns k m c f).1.length ∧ (viF ns k m c f).2 ≤ c + 1 + 2 * ((viF ns k m c f).1.length - m.length)
  | 0, m, c, f, hf, hm, hn => ⟨hm, hn, Nat.le_refl _, by show c ≤ _; omega⟩
  | k + 1, m, c, f, hf, hm, hn => by
    rw [viF_succ]
    by_cases q : f ≤ 1
    · rw [if_pos q]; exact ⟨hm, hn, Nat.le_refl _, by show c ≤ _; omega⟩
    rw [if_neg q]
    by_cases r : f ∈ m
    · rw [if_pos r]; exact ⟨hm, hn, Nat.le_refl _, by show c + 1 ≤ _; omega⟩
    rw [if_neg r]
    obtain ⟨a, b, -⟩ := h.parts (by omega) hf
    obtain ⟨A1, A2, A3, A4⟩ := viF_len h k (f :: m) (c + 1) (ns.getD f bot).l (by omega) (fun x hx => by rcases List.mem_cons.1 hx with rfl | hx; exact hf; exact hm x hx) (List.nodup_cons.2 ⟨r, hn⟩)
    obtain ⟨R, hR⟩ : ∃ R, viF ns k (f :: m) (c + 1) (ns.getD f bot).l = R := ⟨_, rfl⟩
    rw [hR] at A1 A2 A3 A4 ⊢
    simp only [List.length_cons] at A3 A4
    obtain ⟨B1, B2, B3, B4⟩ := viF_len h k R.1 R.2 (ns.getD f bot).h (by omega) A1 A2
    exact ⟨B1, B2, by omega, by omega⟩
theorem few_keys {ks : List Nat} {n : Nat} (hn : ks.Nodup) (h : ∀ x ∈ ks, x < n) : ks.length ≤ n := by
  have := nodup_sub ks (List.range n) hn (fun x hx => List.mem_range.2 (h x hx))
  rwa [List.length_range] at this
/-- What was met, how often. -/
structure VW (m : List (Nat × Nat)) (ks : List Nat) (c : Nat) : Prop where
  key : ∀ k, k ∈ m.map (·.1) ↔ k ∈ ks
  one : (m.map (·.1)).Nodup
  val : ∀ p ∈ m, 1 ≤ p.2 ∧ p.2 ≤ c
theorem VW.few {m : List (Nat × Nat)} {ks : List Nat} {c : Nat} (h : VW m ks c) : m.length ≤ ks.length := by
  have := nodup_sub _ ks h.one (fun k hk => (h.key k).1 hk)
  rwa [List.length_map] at this
theorem VW.same {m : List (Nat × Nat)} {ks : List Nat} {c : Nat} (h : VW m ks c) (hn : ks.Nodup) : m.length = ks.length := by
  refine Nat.le_antisymm h.few ?_
  have := nodup_sub ks _ hn (fun k hk => (h.key k).2 hk)
  rwa [List.length_map] at this
def putV (m : List (Nat × Nat)) (f u : Nat) : List (Nat × Nat) := (f, u) :: m.filter (fun p => p.1 != f)
theorem putV_mem {m : List (Nat × Nat)} {f u : Nat} (p : Nat × Nat) : p ∈ putV m f u ↔ p = (f, u) ∨ (p ∈ m ∧ p.1 ≠ f) := by
  unfold putV; rw [List.mem_cons, List.mem_filter]; simp
theorem putV_one {m : List (Nat × Nat)} {f u : Nat} (h : (m.map (·.1)).Nodup) : ((putV m f u).map (·.1)).Nodup := by
  unfold putV
  rw [List.map_cons, List.nodup_cons]
  refine ⟨fun q => ?_, List.Pairwise.sublist (List.Sublist.map _ List.filter_sublist) h⟩
  obtain ⟨x, hx, e⟩ := List.mem_map.1 q
  have := (List.mem_filter.1 hx).2
  simp [e] at this
theorem VW.put {m : List (Nat × Nat)} {ks ks' : List Nat} {c : Nat} (h : VW m ks c) (f u : Nat) (h1 : 1 ≤ u) (hu : u ≤ c + 1) (hk : ∀ k, k ∈ ks' ↔ k = f ∨ k ∈ ks) : VW (putV m f u) ks' (c + 1) := by
  refine ⟨fun k => ?_, putV_one h.one, fun p hp => ?_⟩
  · rw [hk, ← h.key, List.mem_map, List.mem_map]
    constructor
    · rintro ⟨p, hp, rfl⟩
      rcases (putV_mem p).1 hp with rfl | ⟨q, -⟩
      · exact Or.inl rfl
      · exact Or.inr ⟨p, q, rfl⟩
    · rintro (rfl | ⟨p, hp, rfl⟩)
      · exact ⟨(k, u), (putV_mem _).2 (Or.inl rfl), rfl⟩
      · by_cases e : p.1 = f
        · exact ⟨(f, u), (putV_mem _).2 (Or.inl rfl), e.symm⟩
        · exact ⟨p, (putV_mem _).2 (Or.inr ⟨hp, e⟩), rfl⟩
  · rcases (putV_mem p).1 hp with rfl | ⟨q, -⟩
    · exact ⟨h1, hu⟩
    · have := h.val p q; omega
/-- An arena beside block db, all of it ahead of block n. -/
structure Bs (p most db n : Nat) (ns : List Nd) (w : World) : Prop where
  dlt : db < n
  nle : n ≤ w.heap.size
  arn : ∃ a : AL, a.p = p ∧ Ar w a most ns ∧ WF ns ∧ ∀ k, a.has k → k < n ∧ k ≠ db
section
variable {p most db n : Nat} {ns : List Nd} {w w' : World}
theorem Bs.sta (h : Bs p most db n ns w) : Sta (fun k => k = db) p w most ns := by
  obtain ⟨h1, h2, ⟨a, a1, a2, a3, a4⟩⟩ := h
  exact ⟨a, a1, a2, a3, fun k hk q => (a4 k hk).2 q, fun k hk => by omega⟩
theorem Bs.here (h : Bs p most db n ns w) : Bs p most db w.heap.size ns w := by
  obtain ⟨h1, h2, ⟨a, a1, a2, a3, a4⟩⟩ := h
  exact ⟨by omega, Nat.le_refl _, ⟨a, a1, a2, a3, fun k hk => ⟨by have := (a4 k hk).1; omega, (a4 k hk).2⟩⟩⟩
theorem Bs.kept (h : Bs p most db n ns w) (k : Keep (fun i => i = db) w w') : Bs p most db n ns w' := by
  obtain ⟨h1, h2, ⟨a, a1, a2, a3, a4⟩⟩ := h
  exact ⟨h1, by have := k.size; omega, ⟨a, a1, a2.keep k (fun i hi e => (a4 i hi).2 e), a3, a4⟩⟩
theorem Bs.on (h : Bs p most db n ns w) (hb : Below w.heap.size w w') : Bs p most db n ns w' := h.kept (Keep.of hb)
theorem Bs.of {Z : Nat → Prop} {w1 : World} (h : Sta Z p w most ns) (hb : Below w.heap.size w w1) : Bs p most w1.heap.size (w1.heap.size + 1) ns (w1.alloc (.map #[] 0)) := by
  obtain ⟨a, h1, h2, h3, h4, h5⟩ := h.on hb
  have a1 := h2.pl
  have a2 := h2.ql
  have a3 := h2.ml
  refine ⟨by omega, by rw [World.size_alloc]; exact Nat.le_refl _, ⟨a, h1, h2.on (bel_al (Below.refl _ _) _), h3, fun k hk => ?_⟩⟩
  rcases hk with e | e | e <;> exact ⟨by omega, by omega⟩
end
/-- The map of what was met. -/
def Met (w : World) (db : Nat) (ks : List Nat) (c : Nat) : Prop := ∃ m, MapV Try.prog 3 ikv ikv w db m ∧ VW m ks c
theorem Met.on {w w' : World} {db : Nat} {ks : List Nat} {c : Nat} (h : Met w db ks c) (hb : Below w.heap.size w w') : Met w' db ks c := by
  obtain ⟨m, h1, h2⟩ := h
  exact ⟨m, h1.on hb, h2⟩
theorem hasB_lt {ns : List Nd} {f : Nat} (hf : f < ns.length) : hasB ns.length (f : Nat) = true := by unfold hasB; simp; omega
theorem svisit_f (p most db : Nat) (ns : List Nd) (hlen : ns.length ≤ 262144) : ∀ (k : Nat) (ks : List Nat) (c f : Nat) (w : World), f < k → f < ns.length → Bs p most db w.heap.size ns w → Met w db ks c → ks.Nodup → (∀ x ∈ ks, x < ns.length) → c + 1 + 2 * (ns.length - ks.length) ≤ 100000000 →
    Calls Try.prog 54 #[.pointer (some ⟨p, 0, none⟩), .int .i64 (f : Nat), .map (some db)] w fun e w' => e = .returned (.tuple #[]) ∧ Met w' db (viF ns k ks c f).1 (viF ns k ks c f).2 ∧ Keep (fun i => i = db) w w' := by
  intro k
  induction k with
  | zero => intro ks c f w h; omega
  | succ k ih =>
    intro ks c f w hk hf hB hM hn hx hc
    rw [viF_succ]
    by_cases q : f ≤ 1
    · rw [if_pos q]
      refine (visit_end _ _ _ (by omega) w).mono ?_
      rintro e w' ⟨rfl, rfl⟩
      exact ⟨rfl, hM, Keep.refl _ _⟩
    rw [if_neg q]
    have q' : ¬ (f : Int) ≤ 1 := by omega
    have hkey := keyI f (by omega)
    have CH := sHas hB.sta f
    rw [hasB_lt hf] at CH
    obtain ⟨m, hm, hv⟩ := hM
    have hfew := hv.few
    have hfk := few_keys hn hx
    by_cases r : f ∈ ks
    · rw [if_pos r]
      obtain ⟨⟨f', u⟩, hp, rfl⟩ := List.mem_map.1 ((hv.key f).2 r)
      simp only at hf hk r hkey CH q q'
      have hu := hv.val _ hp
      simp only at hu
      obtain ⟨w', k1, k2, k3⟩ := mapV_store (m' := putV m f' (u + 1)) keyedInt Try.underlying101 ikv_inj hm (v := u + 1) hkey (by unfold maxLen; omega) (fun p => putV_mem p)
      have l1 := mapV_some keyedInt Try.underlying101 zeroInt ikv_inj false hm hkey hp hv.one
      have l2 := mapV_some keyedInt Try.underlying101 zeroInt ikv_inj false k2 hkey ((putV_mem _).2 (Or.inl rfl)) (putV_one hv.one)
      refine (visit_known _ f' db u (fun w => Met w db ks (c + 1)) w q' (Lib.hid CH) (by omega) (by omega) (Lib.hid ⟨l1, w', k1, ⟨_, k2, hv.put f' (u + 1) (by omega) (by omega) (fun k => ⟨Or.inr, fun s => s.elim (fun e => by rw [e]; exact r) id⟩)⟩, k3, l2⟩)).mono ?_
      rintro e w2 ⟨rfl, h1, h2⟩
      exact ⟨rfl, h1, (Keep.refl _ _).only h2 (fun _ => rfl)⟩
    rw [if_neg r]
    have hw := hB.sta.wf
    obtain ⟨a, b, -⟩ := hw.parts (by omega) hf
    have hn1 : (f :: ks).Nodup := List.nodup_cons.2 ⟨r, hn⟩
    have hx1 : ∀ x ∈ f :: ks, x < ns.length := fun x hx' => by rcases List.mem_cons.1 hx' with rfl | hx'; exact hf; exact hx x hx'
    obtain ⟨A1, A2, A3, A4⟩ := viF_len hw k (f :: ks) (c + 1) (ns.getD f bot).l (by omega) hx1 hn1
    obtain ⟨R, hR⟩ : ∃ R, viF ns k (f :: ks) (c + 1) (ns.getD f bot).l = R := ⟨_, rfl⟩
    rw [hR] at A1 A2 A3 A4 ⊢
    have A5 := few_keys A2 A1
    have A6 := few_keys hn1 hx1
    simp only [List.length_cons] at A3 A4 A6
    obtain ⟨w', k1, k2, k3⟩ := mapV_store (m' := putV m f 1) keyedInt Try.underlying101 ikv_inj hm (v := 1) hkey (by unfold maxLen; omega) (fun p => putV_mem p)
    have l1 := mapV_none keyedInt Try.underlying101 zeroInt ikv_inj false hm hkey (fun s => r ((hv.key f).1 s))
    have l2 := mapV_some keyedInt Try.underlying101 zeroInt ikv_inj false k2 hkey ((putV_mem _).2 (Or.inl rfl)) (putV_one hv.one)
    have hv1 := hv.put (ks' := f :: ks) f 1 (by omega) (by omega) (fun k => List.mem_cons)
    refine (visit_new _ f (lv ns f) (ns.getD f bot).l (ns.getD f bot).h db (fun w' => Bs p most db w.heap.size ns w' ∧ Met w' db (f :: ks) (c + 1)) (fun w' => Bs p most db w.heap.size ns w' ∧ Met w' db R.1 R.2) (fun w' => Met w' db (viF ns k R.1 R.2 (ns.getD f bot).h).1 (viF ns k R.1 R.2 (ns.getD f bot).h).2) w q'
      (Lib.hid (fun _ _ h hb => ⟨h.1.on hb, h.2.on hb⟩)) (Lib.hid (fun _ _ h hb => ⟨h.1.on hb, h.2.on hb⟩)) (Lib.hid CH) (Lib.hid ⟨l1, w', k1, ⟨hB.kept ((Keep.refl _ _).only k3 (fun _ => rfl)), _, k2, hv1⟩, k3, l2⟩)
      (Lib.hid (fun w h => slevel h.1.sta f hf)) (Lib.hid (fun w2 h => ?_)) (Lib.hid (fun w2 h => ?_)) (Lib.hid (fun w2 h => ?_)))
    · have := sparts h.1.sta f (lv ns f) hf
      rw [ptF_at rfl] at this
      exact this
    · have := ih (f :: ks) (c + 1) (ns.getD f bot).l w2 (by omega) (by omega) h.1.here h.2 hn1 hx1 (by simp only [List.length_cons]; omega)
      rw [hR] at this
      refine this.mono ?_
      rintro e w3 ⟨rfl, h1, h2⟩
      exact ⟨rfl, ⟨h.1.kept h2, h1⟩, h2⟩
    · exact ih R.1 R.2 (ns.getD f bot).h w2 (by omega) (by omega) h.1.here h.2 A2 A1 (by omega)
/-- Numbers of which each is a set's, or none. -/
theorem sNodes {Z : Nat → Prop} {p most : Nat} {W : World} {ns : List Nd} (h : Sta Z p W most ns) (fs : List Nat) (hf : ∀ f ∈ fs, f < ns.length) (hl : fs.length ≤ 10) (b cap : Nat)
    (hr : ∀ i, i < fs.length → W.cell? ⟨b, i, none⟩ = some (.int .i64 ((fs.getD i 0 : Nat) : Int))) (hb : 0 < fs.length → b < W.heap.size) :
    ∃ N, (∃ m, Mt ns fs m ∧ m.length = N) ∧ Calls Try.prog 27 #[.pointer (some ⟨p, 0, none⟩), .slice (some ⟨b, 0, none⟩) fs.length cap] W fun e w' => e = .returned (.int .i64 (N : Nat)) ∧ Below W.heap.size W w' := by
  have hw := h.wf
  have hlen := h.len
  obtain ⟨S, hS⟩ : ∃ S : Nat → List Nat × Nat, S = fun k => Nat.rec ([], 0) (fun k r => viF ns (fs.getD k 0 + 1) r.1 r.2 (fs.getD k 0)) k := ⟨_, rfl⟩
  have S0 : S 0 = ([], 0) := by rw [hS]; rfl
  have S1 : ∀ k, S (k + 1) = viF ns (fs.getD k 0 + 1) (S k).1 (S k).2 (fs.getD k 0) := fun k => by rw [hS]
  have gd : ∀ k, k < fs.length → fs.getD k 0 ∈ fs ∧ fs.take (k + 1) = fs.take k ++ [fs.getD k 0] := fun k hk => by
    have e : fs.getD k 0 = fs[k] := by rw [List.getD_eq_getElem?_getD, List.getElem?_eq_getElem hk]; rfl
    rw [e]; exact ⟨List.getElem_mem hk, List.take_succ_eq_append_getElem hk⟩
  have SM : ∀ k, k ≤ fs.length → Mt ns (fs.take k) (S k).1 ∧ (∀ x ∈ (S k).1, x < ns.length) ∧ (S k).2 ≤ k + 2 * (S k).1.length := fun k => by
    induction k with
    | zero => intro _; rw [S0, List.take_zero]; exact ⟨Mt.nil ns, fun x hx => (by cases hx), by simp⟩
    | succ k ih =>
      intro hk
      obtain ⟨h1, h2, h3⟩ := ih (by omega)
      obtain ⟨g1, g2⟩ := gd k (by omega)
      rw [S1, g2]
      obtain ⟨B1, B2, B3, B4⟩ := viF_len hw (fs.getD k 0 + 1) (S k).1 (S k).2 (fs.getD k 0) (hf _ g1) h2 h1.one
      exact ⟨h1.step hw (hf _ g1) _ _ (by omega), B1, by omega⟩
  refine ⟨(S fs.length).1.length, ⟨_, by have := (SM fs.length (Nat.le_refl _)).1; rw [List.take_length] at this; exact this, rfl⟩, ?_⟩
  refine nodes_core _ (fun i => ((fs.getD i 0 : Nat) : Int)) fs.length b cap _ (by omega) (fun db k w => Bs p most db (db + 1) ns w ∧ Met w db (S k).1 (S k).2) W (Lib.hid hr) (Lib.hid hb) (Lib.hid (fun w1 hb => ?_)) (Lib.hid (fun db k w hk hq => ?_)) (Lib.hid (fun db w hq ty => ?_))
  · rw [S0]
    exact ⟨Bs.of h hb, [], MapV.made w1, ⟨fun k => by simp, List.nodup_nil, fun p hp => (by cases hp)⟩⟩
  · obtain ⟨h1, h2, h3⟩ := SM k (by omega)
    obtain ⟨g1, g2⟩ := gd k hk
    have hfew := few_keys h1.one h2
    rw [S1]
    refine (svisit_f p most db ns hlen (fs.getD k 0 + 1) (S k).1 (S k).2 (fs.getD k 0) w (by omega) (hf _ g1) hq.1.here hq.2 h1.one h2 (by omega)).mono ?_
    rintro e w2 ⟨rfl, k1, k2⟩
    exact ⟨rfl, ⟨hq.1.kept k2, k1⟩, k2⟩
  · obtain ⟨m, hm, hv⟩ := hq.2
    have := mapV_len Try.underlying101 ikv_inj hm hv.one ty
    rw [hv.same (SM fs.length (Nat.le_refl _)).1.one] at this
    exact this
end Go.Proofs.Yteiemcnjcdjglaa
