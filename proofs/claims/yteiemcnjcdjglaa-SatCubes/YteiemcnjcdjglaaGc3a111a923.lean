/- Texts joined, in their order: SX, SY, SL, TC, RE, RB. -/
import Derived.Test.YteiemcnjcdjglaaGSW
import Derived.Test.YteiemcnjcdjglaaG2817d68fa6
import Derived.Test.YteiemcnjcdjglaaGfe77df2618
import Derived.Test.YteiemcnjcdjglaaGe274724a83
import Derived.Laws.OwnMore
import Derived.Test.YteiemcnjcdjglaaG402e4c2e9c
import Derived.Test.YteiemcnjcdjglaaG9d594e6465
import Derived.Test.YteiemcnjcdjglaaG3193b3c8de
import Derived.Test.YteiemcnjcdjglaaG7d8162db53
/- Whether all of a set is another one's: the calls' contracts. -/
namespace Go.Proofs.Yteiemcnjcdjglaa
open Go.RowKit Go.Maps Go.MapKept Go.ChangeMaps Go.WideElems Go.Joins
set_option linter.unusedVariables false
set_option linter.unusedSimpArgs false

theorem nbeq {a b : Nat} (h : a ≠ b) : ((a : Int) == (b : Int)) = false := beq_eq_false_iff_ne.2 (by omega)
theorem PairOk.lt {ns : List Nd} {p : Nat × Nat} (h : PairOk ns p) : p.1 < ns.length ∧ p.2 < ns.length := ⟨h.1, h.2.1⟩
theorem swithin_f (p most db : Nat) (ns : List Nd) (hlen : ns.length ≤ 262144) : ∀ (k : Nat) (ks : List (Nat × Nat)) (c f g : Nat) (w : World), f < ns.length → g < ns.length → 105 ≤ k + min (lv ns f) (lv ns g) → Bs p most db w.heap.size ns w → MetP w db ks c → ks.Nodup → (∀ x ∈ ks, PairOk ns x) → c + 1 + 2 * (ns.length * ns.length - ks.length) ≤ 900000000000 →
    Calls Try.prog 50 #[.pointer (some ⟨p, 0, none⟩), .agg #[.int .i64 (f : Nat), .int .i64 (g : Nat)], .map (some db)] w fun e w' => e = .returned (.bool (wiF ns k ks c f g).1) ∧ MetP w' db (wiF ns k ks c f g).2.1 (wiF ns k ks c f g).2.2 ∧ Keep (fun i => i = db) w w' := by
  intro k
  induction k with
  | zero => intro ks c f g w hf hg hk hB; have := lv_le hB.sta.wf (f := f); omega
  | succ k ih =>
    intro ks c f g w hf hg hk hB hM hn hx hc
    have hw := hB.sta.wf
    have W_ := wiF_ok hw (k + 1) ks c f g hf hg hk
    unfold wiF at W_ ⊢
    by_cases t1 : f = 0 ∨ g = 1 ∨ f = g
    · rw [if_pos t1]
      have fin : ∀ (e : Ending) (w' : World), (e = .returned (.bool true) ∧ Below w.heap.size w w') → (e = .returned (.bool true) ∧ MetP w' db ks c ∧ Keep (fun i => i = db) w w') := fun e w' q => ⟨q.1, hM.on q.2, Keep.of q.2⟩
      by_cases h1 : f = 0
      · exact (within_t1 _ f g db h1 w).mono fin
      by_cases h2 : g = 1
      · exact (within_t2 _ f g db (nbeq h1) h2 w).mono fin
      have h3 : g = f := by omega
      exact (within_t3 _ f g db (nbeq h1) (by rw [h3] at h2; exact nbeq h2) h3 w).mono fin
    rw [if_neg t1] at W_ ⊢
    have n1 : f ≠ 0 := fun e => t1 (Or.inl e)
    have n2 : g ≠ 1 := fun e => t1 (Or.inr (Or.inl e))
    have n3 : f ≠ g := fun e => t1 (Or.inr (Or.inr e))
    by_cases t2 : f = 1 ∨ g = 0
    · rw [if_pos t2]
      have fin : ∀ (e : Ending) (w' : World), (e = .returned (.bool false) ∧ Below w.heap.size w w') → (e = .returned (.bool false) ∧ MetP w' db ks c ∧ Keep (fun i => i = db) w w') := fun e w' q => ⟨q.1, hM.on q.2, Keep.of q.2⟩
      by_cases h1 : f = 1
      · exact (within_n1 _ f g db (nbeq n2) (by rw [h1] at n3; exact nbeq n3) h1 w).mono fin
      have h2 : g = 0 := by omega
      exact (within_n2 _ f g db (nbeq n1) (nbeq h1) h2 w).mono fin
    rw [if_neg t2] at W_ ⊢
    have n4 : f ≠ 1 := fun e => t2 (Or.inl e)
    have n5 : g ≠ 0 := fun e => t2 (Or.inr e)
    obtain ⟨l, hkey⟩ := key_w2 (f, g) (by show f ≤ _; omega) (by show g ≤ _; omega)
    obtain ⟨m, hm, hv⟩ := hM
    have hfew := hv.few
    have hfk := few_pairs hn (fun x q => (hx x q).lt)
    have hsq : ns.length * ns.length ≤ 262144 * 262144 := Nat.mul_le_mul hlen hlen
    have ukv : wkv (f, g) = .agg #[.int .i64 (f : Nat), .int .i64 (g : Nat)] := rfl
    by_cases t3 : (f, g) ∈ ks
    · rw [if_pos t3]
      obtain ⟨⟨fg, u⟩, hp, e⟩ := List.mem_map.1 ((hv.key (f, g)).2 t3)
      simp only at e
      subst e
      have hu := hv.val _ hp
      simp only at hu
      refine (within_known _ f g db w u (by omega) (by omega) (nbeq n1) (nbeq n2) (nbeq n3) (nbeq n4) (nbeq n5) (fun w' => MapV Try.prog 94 wkv ikv w' db m) (fun w' => MetP w' db ks (c + 1)) (Lib.hid (fun _ _ h hb => h.on hb)) (Lib.hid hm) (Lib.hid hB.dlt) (Lib.hid (fun w' h => ?_))).mono ?_
      · have l1 := mapV_some keyedW2 Try.underlying95 zeroInt wkv_inj false h hkey hp hv.one
        obtain ⟨st, w1, w2, k1, k2, k3, k4, k5, k6⟩ := mapV_entry (m' := putP m (f, g) (u + 1)) (v := u + 1) lawW2 Try.underlying95 zeroInt wkv_inj h hkey hv.one (Or.inl hp) (by unfold maxLen; omega) (fun p => putP_mem p)
        have l2 := mapV_some keyedW2 Try.underlying95 zeroInt wkv_inj false k4 hkey ((putP_mem _).2 (Or.inl rfl)) (putP_one hv.one)
        exact ⟨l1, st, w1, w2, k1, k2, k3, ⟨_, k4, hv.put (f, g) (u + 1) (by omega) (by omega) (fun k => ⟨Or.inr, fun s => s.elim (fun e => by rw [e]; exact t3) id⟩)⟩, k5, k6, l2⟩
      · rintro e w' ⟨rfl, h1, h2⟩
        exact ⟨rfl, h1, h2⟩
    rw [if_neg t3] at W_ ⊢
    have hp : PairOk ns (f, g) := ⟨hf, hg, t1, n4, n5⟩
    have hl := hp.lv hw
    obtain ⟨i, hi⟩ : ∃ i, min (lv ns f) (lv ns g) = i := ⟨_, rfl⟩
    simp only [hi] at W_ ⊢
    rw [hi] at hl hk
    have a0 := pt_ok hw hf (i := i) (by omega) hl false
    have a1 := pt_ok hw hf (i := i) (by omega) hl true
    have b0 := pt_ok hw hg (i := i) (by omega) hl false
    have b1 := pt_ok hw hg (i := i) (by omega) hl true
    simp only [sd, Bool.false_eq_true, if_false, if_true] at a0 a1 b0 b1
    have hn1 : ((f, g) :: ks).Nodup := List.nodup_cons.2 ⟨t3, hn⟩
    have hx1 : ∀ x ∈ (f, g) :: ks, PairOk ns x := fun x q => by rcases List.mem_cons.1 q with rfl | q; exact hp; exact hx x q
    have A := wiF_ok hw k ((f, g) :: ks) (c + 1) (ptF ns f i).1 (ptF ns g i).1 a0.1 b0.1 (by omega)
    have cA := fun (w' : World) (h : Bs p most db w.heap.size ns w' ∧ MetP w' db ((f, g) :: ks) (c + 1)) => ih ((f, g) :: ks) (c + 1) (ptF ns f i).1 (ptF ns g i).1 w' a0.1 b0.1 (by omega) h.1.here h.2 hn1 hx1 (by simp only [List.length_cons]; have := few_pairs hn1 (fun x q => (hx1 x q).lt); simp only [List.length_cons] at this; omega)
    obtain ⟨R, hR⟩ : ∃ R, wiF ns k ((f, g) :: ks) (c + 1) (ptF ns f i).1 (ptF ns g i).1 = R := ⟨_, rfl⟩
    simp only [hR] at A cA ⊢
    have A1 := A.one hn1
    have A2 := A.ok hx1
    have A3 := A.len
    have A4 := A.cnt
    have A5 := few_pairs A1 (fun x q => (A2 x q).lt)
    simp only [List.length_cons] at A3 A4
    obtain ⟨T, hT⟩ : ∃ T, wiF ns k R.2.1 R.2.2 (ptF ns f i).2 (ptF ns g i).2 = T := ⟨_, rfl⟩
    have cB := fun (w' : World) (h : Bs p most db w.heap.size ns w' ∧ MetP w' db R.2.1 R.2.2) => ih R.2.1 R.2.2 (ptF ns f i).2 (ptF ns g i).2 w' a1.1 b1.1 (by omega) h.1.here h.2 A1 A2 (by omega)
    simp only [hT] at cB ⊢
    have LK : Hid (∀ w', (Bs p most db w.heap.size ns w' ∧ MapV Try.prog 94 wkv ikv w' db m) → _) := Lib.hid (fun w' h => by
      have hno : (f, g) ∉ m.map (·.1) := fun e => t3 ((hv.key _).1 e)
      have l1 := mapV_none keyedW2 Try.underlying95 zeroInt wkv_inj false h.2 hkey hno
      obtain ⟨st, w1, w2, k1, k2, k3, k4, k5, k6⟩ := mapV_entry (m' := putP m (f, g) 1) (u := 0) (v := 1) lawW2 Try.underlying95 zeroInt wkv_inj h.2 hkey hv.one (Or.inr ⟨hno, rfl⟩) (by unfold maxLen; omega) (fun p => putP_mem p)
      have l2 := mapV_some keyedW2 Try.underlying95 zeroInt wkv_inj false k4 hkey ((putP_mem _).2 (Or.inl rfl)) (putP_one hv.one)
      have hq : Bs p most db w.heap.size ns w2 ∧ MetP w2 db ((f, g) :: ks) (c + 1) := ⟨h.1.kept ((Keep.refl _ _).only k6 (fun _ => rfl)), _, k4, hv.put (f, g) 1 (by omega) (by omega) (fun k => List.mem_cons)⟩
      exact (⟨l1, st, w1, w2, k1, k2, k3, hq, k5, k6, l2⟩ : (Instr.lookup 95 (.map (some db)) (.agg #[.int .i64 (f : Nat), .int .i64 (g : Nat)]) false).run Try.prog w' = .ok (.int .i64 0) w' ∧ ∃ (st : Nat) (w1 w2 : World), (Instr.mapEntry 95 (.map (some db)) (.agg #[.int .i64 (f : Nat), .int .i64 (g : Nat)])).run Try.prog w' = .ok (.tuple #[.int .i64 0, .int .i64 (st : Nat)]) w1 ∧ (Instr.lookup 95 (.map (some db)) (.agg #[.int .i64 (f : Nat), .int .i64 (g : Nat)]) false).run Try.prog w1 = .ok (.int .i64 0) w1 ∧ (Instr.entryStore 95 (.map (some db)) (.int .i64 (st : Nat)) (.int .i64 1)).run Try.prog w1 = .ok () w2 ∧ (Bs p most db w.heap.size ns w2 ∧ MetP w2 db ((f, g) :: ks) (c + 1)) ∧ Only db w' w1 ∧ Only db w' w2 ∧ (Instr.lookup 95 (.map (some db)) (.agg #[.int .i64 (f : Nat), .int .i64 (g : Nat)]) false).run Try.prog w2 = .ok (.int .i64 1) w2))
    have C1 : Hid (∀ w', (Bs p most db w.heap.size ns w' ∧ MetP w' db ((f, g) :: ks) (c + 1)) → _) := Lib.hid (fun w' h => slevel h.1.sta f hf)
    have C2 : Hid (∀ w', (Bs p most db w.heap.size ns w' ∧ MetP w' db ((f, g) :: ks) (c + 1)) → _) := Lib.hid (fun w' h => slevel h.1.sta g hg)
    have C3 : Hid (∀ w', (Bs p most db w.heap.size ns w' ∧ MetP w' db ((f, g) :: ks) (c + 1)) → _) := Lib.hid (fun w' h => sparts h.1.sta f i hf)
    have C4 : Hid (∀ w', (Bs p most db w.heap.size ns w' ∧ MetP w' db ((f, g) :: ks) (c + 1)) → _) := Lib.hid (fun w' h => sparts h.1.sta g i hg)
    have D1 : Hid (∀ w', (Bs p most db w.heap.size ns w' ∧ MetP w' db ((f, g) :: ks) (c + 1)) → Calls Try.prog 50 #[.pointer (some ⟨p, 0, none⟩), .agg #[.int .i64 ((ptF ns f i).1 : Nat), .int .i64 ((ptF ns g i).1 : Nat)], .map (some db)] w' fun e w'' => e = .returned (.bool R.1) ∧ (Bs p most db w.heap.size ns w'' ∧ MetP w'' db R.2.1 R.2.2) ∧ Keep (fun i => i = db) w' w'') := Lib.hid (fun w' h => (cA w' h).mono (by rintro e w'' ⟨rfl, h1, h2⟩; exact ⟨rfl, ⟨h.1.kept h2, h1⟩, h2⟩))
    have D2 : Hid (R.1 = true → ∀ w', (Bs p most db w.heap.size ns w' ∧ MetP w' db R.2.1 R.2.2) → Calls Try.prog 50 #[.pointer (some ⟨p, 0, none⟩), .agg #[.int .i64 ((ptF ns f i).2 : Nat), .int .i64 ((ptF ns g i).2 : Nat)], .map (some db)] w' fun e w'' => e = .returned (.bool T.1) ∧ MetP w'' db T.2.1 T.2.2 ∧ Keep (fun i => i = db) w' w'') := Lib.hid (fun _ w' h => cB w' h)
    have fin : ∀ (e : Ending) (w' : World), (e = .returned (.bool (R.1 && T.1)) ∧ Keep (fun i => i = db) w w' ∧ (R.1 = false → Bs p most db w.heap.size ns w' ∧ MetP w' db R.2.1 R.2.2) ∧ (R.1 = true → MetP w' db T.2.1 T.2.2)) → (e = .returned (.bool (if R.1 = true then T else R).1) ∧ MetP w' db (if R.1 = true then T else R).2.1 (if R.1 = true then T else R).2.2 ∧ Keep (fun i => i = db) w w') := fun e w' q => by
      obtain ⟨q1, q2, q3, q4⟩ := q
      cases h : R.1 with
      | false => rw [h] at q1; simp only [Bool.false_eq_true, if_false, h]; exact ⟨q1, (q3 h).2, q2⟩
      | true => rw [h] at q1; simp only [if_true]; exact ⟨q1, q4 h, q2⟩
    by_cases hab : lv ns f ≤ lv ns g
    · exact (within_new1 _ f g db w (lv ns f) (lv ns g) i _ _ _ _ R.1 T.1 _ _ (by omega) (by omega) (nbeq n1) (nbeq n2) (nbeq n3) (nbeq n4) (nbeq n5) _ _ (Lib.hid (fun _ _ h hb => ⟨h.1.on hb, h.2.on hb⟩)) (Lib.hid ⟨hB, hm⟩) (Lib.hid hB.dlt) LK (Lib.hid (fun _ _ h hb => ⟨h.1.on hb, h.2.on hb⟩)) (Lib.hid (fun _ _ h hb => ⟨h.1.on hb, h.2.on hb⟩)) C1 C2 C3 C4 D1 D2).mono fin
    · exact (within_new2 _ f g db w (lv ns f) (lv ns g) i _ _ _ _ R.1 T.1 _ _ (by omega) (by omega) (nbeq n1) (nbeq n2) (nbeq n3) (nbeq n4) (nbeq n5) _ _ (Lib.hid (fun _ _ h hb => ⟨h.1.on hb, h.2.on hb⟩)) (Lib.hid ⟨hB, hm⟩) (Lib.hid hB.dlt) LK (Lib.hid (fun _ _ h hb => ⟨h.1.on hb, h.2.on hb⟩)) (Lib.hid (fun _ _ h hb => ⟨h.1.on hb, h.2.on hb⟩)) C1 C2 C3 C4 D1 D2).mono fin
set_option maxRecDepth 100000 in
set_option maxHeartbeats 1000000 in
theorem within_core (p : Value) (f g : Nat) (r : Bool) (W : World) (C1 : Hid (Calls Try.prog 29 #[p, .int .i64 (f : Nat)] W fun e w' => e = .returned (.bool true) ∧ W = w')) (C2 : Hid (Calls Try.prog 29 #[p, .int .i64 (g : Nat)] W fun e w' => e = .returned (.bool true) ∧ W = w'))
    (C3 : Hid (Calls Try.prog 50 #[p, .agg #[.int .i64 (f : Nat), .int .i64 (g : Nat)], .map (some W.heap.size)] (W.alloc (.map #[] 0)) fun e w' => e = .returned (.bool r) ∧ Below W.heap.size W w')) :
    Calls Try.prog 22 #[p, .int .i64 (f : Nat), .int .i64 (g : Nat)] W fun e w' => e = .returned (.bool r) ∧ Below W.heap.size W w' := by
  have hmm := @run_makeMap Try.prog
  go_enter Try.func22, Try.ntmps22
  go_wp2_with fail
  refine C1.out.mono ?_
  rintro e w' ⟨rfl, rfl⟩
  go_wp2_with fail
  refine C2.out.mono ?_
  rintro e w' ⟨rfl, rfl⟩
  go_wp2_with fail
  refine C3.out.mono ?_
  rintro e w' ⟨rfl, hb⟩
  have B := Lib.hid hb
  clear hb C1 C2 C3
  go_wp2
  go_ret
  exact ⟨rfl, B.out⟩
theorem sWithin {Z : Nat → Prop} {p most : Nat} {W : World} {ns : List Nd} (h : Sta Z p W most ns) (f g : Nat) (hf : f < ns.length) (hg : g < ns.length) :
    ∃ r, (r = true ↔ Sub ns f g) ∧ Calls Try.prog 22 #[.pointer (some ⟨p, 0, none⟩), .int .i64 (f : Nat), .int .i64 (g : Nat)] W fun e w' => e = .returned (.bool r) ∧ Below W.heap.size W w' := by
  refine ⟨(wiF ns 105 [] 0 f g).1, wi_any h.wf hf hg, within_core _ f g _ W (Lib.hid ?_) (Lib.hid ?_) (Lib.hid ?_)⟩
  · have := sHas h f; rw [hasB_lt hf] at this; exact this
  · have := sHas h g; rw [hasB_lt hg] at this; exact this
  · have hl := h.len
    have hsq : ns.length * ns.length ≤ 262144 * 262144 := Nat.mul_le_mul hl hl
    refine (swithin_f p most W.heap.size ns hl 105 [] 0 f g _ hf hg (by omega) (Bs.of h (Below.refl _ _)).here ⟨[], MapV.made W, ⟨fun k => by simp, List.nodup_nil, fun p hp => (by cases hp)⟩⟩ List.nodup_nil (fun x hx => by cases hx) (by simp only [List.length_nil]; omega)).mono ?_
    rintro e w' ⟨rfl, -, hk⟩
    exact ⟨rfl, al_kept (Below.refl _ _) hk⟩
end Go.Proofs.Yteiemcnjcdjglaa
/- Sums of sets' counts; what is within what: for SatSums. -/
namespace Go.Proofs.Yteiemcnjcdjglaa
open Go.RowKit Wd
set_option linter.unusedVariables false
set_option linter.unusedSimpArgs false

theorem many_lt (φ : (Nat → Bool) → Bool) : many φ < MM := lt_MM (many_le φ) (by omega)
theorem many_st {ns : List Nd} {q : Nat} {φ : Env → Bool} (h : St ns q φ) : many (fun e => ev ns e q) = many φ := many_eq h.2
theorem many_sum (φ ψ : (Nat → Bool) → Bool) : many (fun e => φ e && ψ e) + many (fun e => φ e || ψ e) = many φ + many ψ := kd_add φ ψ 104 _
theorem many_rest (φ : (Nat → Bool) → Bool) : many φ + many (fun e => !φ e) = 2 ^ 104 := kd_not φ 104 _
theorem sadd (a b s : Nat) (ha : a < MM) (hb : b < MM) (h : a + b = s) (hs : s < MM) (w : World) : Calls Try.prog 20 #[cn a, cn b] w fun e w' => e = .returned (cn s) ∧ Below w.heap.size w w' := by
  have := Wd.add_any a b ha hb w
  rw [h, Nat.mod_eq_of_lt hs] at this
  exact this
theorem two_lt : 2 ^ 105 < MM := by decide
theorem spow104 (w : World) : Calls Try.prog 21 #[.int .i64 104] w fun e w' => e = .returned (cn (2 ^ 104)) ∧ Below w.heap.size w w' := by
  have := Wd.pow_any ((104 : Nat) : Int) w
  rw [upI_in 1 104 (by omega), up_pow 104 (by omega)] at this
  exact this
section
variable {Z : Nat → Prop} {p most : Nat} {W : World} {ns : List Nd} {f g : Nat} {φ ψ : Env → Bool}
theorem sWithin_yes (h : Sta Z p W most ns) (hf : St ns f φ) (hg : St ns g ψ) (hs : ∀ e, φ e = true → ψ e = true) :
    Calls Try.prog 22 #[.pointer (some ⟨p, 0, none⟩), .int .i64 (f : Nat), .int .i64 (g : Nat)] W fun e w' => e = .returned (.bool true) ∧ Below W.heap.size W w' := by
  obtain ⟨r, h1, h2⟩ := sWithin h f g hf.1 hg.1
  have : r = true := h1.2 (fun e he => by rw [hg.2]; exact hs e (by rw [← hf.2]; exact he))
  rw [this] at h2
  exact h2
theorem sWithin_is (h : Sta Z p W most ns) (hf : St ns f φ) (hg : St ns g ψ) (x : Bool) (hs : x = true ↔ ∀ e, φ e = true → ψ e = true) :
    Calls Try.prog 22 #[.pointer (some ⟨p, 0, none⟩), .int .i64 (f : Nat), .int .i64 (g : Nat)] W fun e w' => e = .returned (.bool x) ∧ Below W.heap.size W w' := by
  obtain ⟨r, h1, h2⟩ := sWithin h f g hf.1 hg.1
  have e1 : r = true ↔ x = true := by
    rw [h1, hs]
    exact ⟨fun q e he => by have := q e (by rw [hf.2]; exact he); rwa [hg.2] at this, fun q e he => by rw [hg.2]; exact q e (by rw [← hf.2]; exact he)⟩
  have : r = x := by cases r <;> cases x <;> simp at e1 ⊢
  rw [this] at h2
  exact h2
end
end Go.Proofs.Yteiemcnjcdjglaa
/- Rows of bits that a cube is made of (out of enc, typed by gen/mksl.py). -/
namespace Go.Proofs.Yteiemcnjcdjglaa
open Go.RowKit
set_option linter.unusedVariables false
set_option linter.unusedSimpArgs false

/-- The cells of bits. -/
def litCells (l : List (Int × Bool)) : List Value := l.flatMap fun p => [.int .i64 p.1, .bool p.2]
theorem litCells_append (a b : List (Int × Bool)) : litCells (a ++ b) = litCells a ++ litCells b := by unfold litCells; rw [List.flatMap_append]
theorem litCells_get : ∀ (L : List (Int × Bool)) (i : Nat) (x : Int × Bool), L[i]? = some x → (litCells L)[i * 2]? = some (.int .i64 x.1) ∧ (litCells L)[i * 2 + 1]? = some (.bool x.2)
  | [], i, x, h => by simp at h
  | y :: r, 0, x, h => by simp at h; subst h; simp [litCells]
  | y :: r, i + 1, x, h => by
    have := litCells_get r i x (by simpa using h)
    rw [show (i + 1) * 2 = i * 2 + 1 + 1 by omega, show i * 2 + 1 + 1 + 1 = (i * 2 + 1) + 1 + 1 by omega]
    simpa [litCells] using this
theorem natL_append (a b : List (Nat × Bool)) : natL (a ++ b) = natL a ++ natL b := by simp [natL]
/-- What lies in a row lies as bits. -/
theorem litC_of {w : World} {base : Nat} {v : Value} {l : List (Int × Bool)} {n : Nat} (h : w.ownsRow base 65 2 v n (litCells l)) (hn : n = l.length) (h0 : 0 < n) : ∃ g cap, v = .slice (some ⟨g, 0, none⟩) n cap ∧ base ≤ g ∧ g < w.heap.size ∧ LitC w g l := by
  subst hn
  rcases h.2 with ⟨e, q⟩ | ⟨g, cap, cur, e, q1, q2, q3⟩
  · omega
  · refine ⟨g, cap, e, q1, ?_, fun i x hx => ?_⟩
    · rcases Nat.lt_or_ge g w.heap.size with r | r
      · exact r
      · rw [Array.getElem?_eq_none r] at q2; cases q2
    · subst e
      have hi := lt_of_get hx
      obtain ⟨c1, c2⟩ := litCells_get l i x hx
      exact ⟨(World.ownsRow.cellAt h (i * 2) (by omega)).trans c1, (World.ownsRow.cellAt h (i * 2 + 1) (by omega)).trans c2⟩
theorem erow_on {w w' : World} {base : Nat} {t : TypeId} {sz n : Nat} {v : Value} {xs : List Value} (h : w.ownsRow base t sz v n xs) (hb : Below w.heap.size w w') : w'.ownsRow base t sz v n xs := by
  refine ⟨h.1, ?_⟩
  rcases h.2 with q | ⟨g, cap, cur, e, q1, q2, q3⟩
  · exact Or.inl q
  · have hg : g < w.heap.size := by
      rcases Nat.lt_or_ge g w.heap.size with r | r
      · exact r
      · rw [Array.getElem?_eq_none r] at q2; cases q2
    exact Or.inr ⟨g, cap, cur, e, q1, (hb.block g hg).trans q2, q3⟩
theorem erow_drew {w : World} {base : Nat} {t : TypeId} {sz n : Nat} {v : Value} {xs : List Value} (h : w.ownsRow base t sz v n xs) : w.drew.ownsRow base t sz v n xs := h
theorem infoLit : (Try.prog.info? 65).map (fun i => (i.zero, i.size, i.bytes)) = some (some (.agg #[.int .i64 0, .bool false]), 2, 16) := by kernel_rfl
theorem einfo_parts {o : Option TypeInfo} {z : Option Value} {s b : Nat} (h : o.map (fun i => (i.zero, i.size, i.bytes)) = some (z, s, b)) : ∃ i, o = some i ∧ i.zero = z ∧ i.size = s ∧ i.bytes = b := by
  cases o with
  | none => cases h
  | some i => simp at h; exact ⟨i, rfl, h.1, h.2.1, h.2.2⟩
set_option maxHeartbeats 1000000 in
theorem cube_none (a : AL) (most : Nat) (ns : List Nd) (w : World) (h : Ar w a most ns) :
    Calls Try.prog 58 #[.pointer (some ⟨a.p, 0, none⟩), .slice none 0 0] w (Ans most (some 1, ns) w a) := by
  unfold Ans
  go_enter Try.func58, Try.ntmps58
  go_wp2_with fail
  go_loopw [6, 7] (fun fv iv wr => fv = .int .i64 1 ∧ iv = .int .i64 (-1) ∧ w = wr) (fun _ iv _ => 0)
  case atStart => exact ⟨rfl, rfl, rfl⟩
  case round =>
    obtain ⟨rfl, rfl, rfl⟩ := hrel
    go_wp2
    go_ret2
    exact ⟨rfl, a, h, Tr.refl _ _ _⟩
set_option maxRecDepth 100000 in
set_option maxHeartbeats 2000000 in
theorem cubeJ_none (a : AL) (most : Nat) (ns : List Nd) (w : World) (h : Ar w a most ns) (hw : WF ns) :
    Calls Try.prog 31 #[.pointer (some ⟨a.p, 0, none⟩), .slice none 0 0] w (Ans most (some 1, ns) w a) := by
  have HH : Hid (∀ W, Below w.heap.size w W → W.cell? ⟨w.heap.size, 0, none⟩ = some (.pointer (some ⟨a.p, 0, none⟩)) → W.cell? ⟨w.heap.size + 1, 0, none⟩ = some (.slice none 0 0) → Calls Try.prog 46 #[.pointer (some ⟨a.p, 0, none⟩), .func (.func 57) #[] #[.pointer (some ⟨w.heap.size, 0, none⟩), .pointer (some ⟨w.heap.size + 1, 0, none⟩)]] W (Ans most (some 1, ns) w a)) := fun W hB c0 c1 => by
    have hA := h.on hB
    have C := whole_core most ns ns (some 1) 57 _ W a hA hw hw (Ext.refl _) Try.call57 (cubeL_any most (some 1, ns) W a _ _ _ c0 c1 (Lib.hid (cube_none a most ns W hA)))
    exact C.mono fun _ _ q => ans_of (of_ans hB q)
  unfold Ans at HH ⊢
  clear h hw
  have hmf : ∀ (fn : Fn) (first cap : Array Value) (w : World), (Instr.makeFunc fn first cap).run Try.prog w = .ok (.func fn first cap) w := fun _ _ _ _ => rfl
  go_enter Try.func31, Try.ntmps31
  go_upto_region 1 with fail
  refine at_code (S := fun W => Blk W w.heap.size [.pointer (some ⟨a.p, 0, none⟩)] ∧ Blk W (w.heap.size + 1) [.slice none 0 0] ∧ Below w.heap.size w W) ⟨?_, ?_, bel_al (bel_al (Below.refl _ _) _) _⟩ (fun W0 hW => ?_)
  · exact (Blk.new w _ [.pointer (some ⟨a.p, 0, none⟩)]).on (bel_al (Below.refl _ _) _)
  · have k := Blk.new (w.alloc (.cells #[.pointer (some ⟨a.p, 0, none⟩)] 25)) 62 [.slice none 0 0]
    rw [World.size_alloc] at k
    exact k
  obtain ⟨hp, hs, hb⟩ := hW
  have B0 := Lib.hid hb
  have p_0 := hp.1 0 _ rfl
  have s_0 := hs.1 0 _ rfl
  clear hp hs hb
  go_wp2_with fail
  go_loopw [12] (fun iv wr => iv = .int .i64 0 ∧ W0 = wr) (fun _ _ => 0)
  case atStart => exact ⟨rfl, rfl⟩
  case round =>
    obtain ⟨rfl, rfl⟩ := hrel
    have CC := Lib.hid (HH.out W0 B0.out p_0 s_0)
    go_wp2_with fail
    refine CC.out.mono ?_
    rintro e w3 ⟨rfl, hP⟩
    have HP := Lib.hid hP
    clear hP
    go_wp2
    go_ret2
    exact ⟨rfl, HP.out⟩
theorem sCubeNone {Z : Nat → Prop} {p most : Nat} {W : World} {ns : List Nd} (h : Sta Z p W most ns) : Calls Try.prog 31 #[.pointer (some ⟨p, 0, none⟩), .slice none 0 0] W (Got2 Z p most (some 1, ns) W) := by
  obtain ⟨a, rfl, h2, h3, h4, h5⟩ := h
  exact (cubeJ_none a most ns W h2 h3).mono fun _ _ => got2_of h4 h5 h3
/-- Bits as first leaves them: none, or in a new block. -/
def LitAt (w : World) (base : Nat) (v : Value) (l : List (Nat × Bool)) : Prop := (l = [] ∧ v = .slice none 0 0) ∨ ∃ g cap, v = .slice (some ⟨g, 0, none⟩) l.length cap ∧ base ≤ g ∧ g < w.heap.size ∧ LitC w g (natL l)
theorem LitAt.on {w w' : World} {base : Nat} {v : Value} {l : List (Nat × Bool)} (h : LitAt w base v l) (hb : Below w.heap.size w w') : LitAt w' base v l := by
  rcases h with h | ⟨g, cap, h1, h2, h3, h4⟩
  · exact Or.inl h
  · exact Or.inr ⟨g, cap, h1, h2, by have := hb.size; omega, h4.on hb⟩
theorem LitAt.base {w : World} {base base' : Nat} {v : Value} {l : List (Nat × Bool)} (h : LitAt w base v l) (hb : base' ≤ base) : LitAt w base' v l := by
  rcases h with h | ⟨g, cap, h1, h2, h3, h4⟩
  · exact Or.inl h
  · exact Or.inr ⟨g, cap, h1, by omega, h3, h4⟩
theorem LitAt.slice {w : World} {base : Nat} {v : Value} {l : List (Nat × Bool)} (h : LitAt w base v l) : ∃ a n c, v = .slice a n c := by
  rcases h with ⟨-, h⟩ | ⟨g, cap, h, -⟩
  · exact ⟨_, _, _, h⟩
  · exact ⟨_, _, _, h⟩
theorem LitC.hold {Z : Nat → Prop} {W w' : World} {g : Nat} {l : List (Int × Bool)} (h : LitC W g l) (hH : Hold Z W w') (hz : Z g) : LitC w' g l := fun i x hx => by
  obtain ⟨a, b⟩ := h i x hx
  exact ⟨hH.cell hz a, hH.cell hz b⟩
theorem cF_nil (most : Nat) (ns : List Nd) : cF most ns [] = (some 1, ns) := rfl
theorem sCubeAt {Z : Nat → Prop} {p most : Nat} {V W : World} {ns : List Nd} {l : List (Nat × Bool)} {v : Value} {base : Nat} (hS : Sta Z p W most ns) (hr : Rise l) (hL : LitAt V base v l) (hH : Hold Z V W) (hz : ∀ g, base ≤ g → g < V.heap.size → Z g) :
    Calls Try.prog 31 #[.pointer (some ⟨p, 0, none⟩), v] W (Got2 Z p most (cF most ns l) W) := by
  rcases hL with ⟨rfl, rfl⟩ | ⟨g, cap, rfl, h2, h3, h4⟩
  · rw [cF_nil]; exact sCubeNone hS
  · exact sCube hS l hr g cap (h4.hold hH (hz g h2 h3)) (hz g h2 h3)
end Go.Proofs.Yteiemcnjcdjglaa
/- SatCubes's walk (typed by gen/mktc.py). -/
namespace Go.Proofs.Yteiemcnjcdjglaa
open Go.RowKit Wd Hw
set_option linter.unusedVariables false
set_option linter.unusedSimpArgs false

/-- Bits from one on, as they are listed. -/
def lits (s : Nat) (B : Nat → Bool) (k : Nat) : List (Nat × Bool) := (List.range k).map (fun i => (s + i, B i))
theorem lits_len (s : Nat) (B : Nat → Bool) (k : Nat) : (lits s B k).length = k := by simp [lits]
theorem lits_succ (s : Nat) (B : Nat → Bool) (k : Nat) : lits s B (k + 1) = lits s B k ++ [(s + k, B k)] := by simp [lits, List.range_succ]
theorem lits_rise (s : Nat) (B : Nat → Bool) (k : Nat) (h : s + k ≤ 104) : Rise (lits s B k) := by
  constructor
  · unfold lits
    rw [List.pairwise_map]
    exact List.pairwise_lt_range.imp (fun {i j} q => by show s + i < s + j; omega)
  · intro q hq
    unfold lits at hq
    obtain ⟨i, hi, rfl⟩ := List.mem_map.1 hq
    rw [List.mem_range] at hi
    show s + i < 104
    omega
theorem lits_all {s : Nat} {B : Nat → Bool} {k : Nat} {e : Nat → Bool} (h : allB (lits s B k) e = true) (i : Nat) (hi : i < k) : e (s + i) = B i := by
  unfold allB at h
  rw [List.all_eq_true] at h
  have := h (s + i, B i) (List.mem_map.2 ⟨i, List.mem_range.2 hi, rfl⟩)
  simpa using this
/-- A cube in a new arena of room enough. -/
theorem cube_new {l : List (Nat × Bool)} (h : Rise l) : ∃ q ns, cF 1024 [bot, top] l = (some q, ns) ∧ WF ns ∧ St ns q (allB l) := by
  obtain ⟨q, ns, e, o, s⟩ := cF_big (most := 1024) wf_new h.1 h.2 (bits_new (fun _ => true)) (fun _ _ => rfl) (k := l.length) (Nat.le_refl _) (by have := h.len; simp; omega)
  exact ⟨q, ns, e, o.wf, s⟩
theorem spow (n : Nat) (hn : n ≤ 104) (w : World) : Calls Try.prog 21 #[.int .i64 (n : Nat)] w fun e w' => e = .returned (cn (2 ^ n)) ∧ Below w.heap.size w w' := by
  have := Wd.pow_any ((n : Nat) : Int) w
  rw [upI_in 1 n (by omega), up_pow n (by omega)] at this
  exact this
set_option maxRecDepth 100000 in
set_option maxHeartbeats 8000000 in
theorem scubes_any (B : Nat → Bool) (n : Nat) (la : Option Addr) (lc fr : Nat) (hfr : fr < 256) (W : World) (hL : ∀ b off, la = some ⟨b, off, none⟩ → True) (hR : ∀ i, i < n → ∃ b off, la = some ⟨b, off, none⟩ ∧ W.cell? ⟨b, off + i, none⟩ = some (.bool (B i))) (hlen : n ≤ maxLen) :
    Calls Try.prog 8 #[.slice la n lc, .int .u8 (fr : Nat)] W fun e w' => e = .returned (.bool true) ∧ Below W.heap.size W w' := by
  have CA := Lib.hid (fun w => sawake_any w)
  have CN := Lib.hid (fun w => sNew 1024 (by omega) (by omega) w)
  have HR := Lib.hid hR
  clear hR hL
  go_enter Try.func8, Try.ntmps8
  by_cases hn : n ≤ 104
  · have hn' : ¬ (104 : Int) < (n : Int) := by omega
    go_wp2_with fail
    refine (CN.out _).mono ?_
    rintro e w1 ⟨p, rfl, hS, hb⟩
    have S1 := Lib.hid hS
    have B1 := Lib.hid hb
    clear hS hb CN
    obtain ⟨Z, hZ⟩ : ∃ Z : Nat → Prop, (fun k => k < W.heap.size) = Z := ⟨_, rfl⟩
    rw [hZ] at S1
    have HZ := Lib.hid hZ
    clear hZ
    obtain ⟨st, hst⟩ : ∃ st, fr % (104 - n + 1) = st := ⟨_, rfl⟩
    have hst2 : st + n ≤ 104 := by have := Nat.mod_lt fr (show 0 < 104 - n + 1 by omega); omega
    have hst' : (fr : Int) % (104 - (n : Int) + 1) = (st : Int) := by
      rw [← hst]; rw [show (104 : Int) - (n : Int) + 1 = ((104 - n + 1 : Nat) : Int) by omega]; rfl
    go_upto_region 8 with fail
    rw [hst']
    have HS2 := Lib.hid hst2
    clear hst' hst hst2
    go_wp2_with fail
    go_loopw [8, 36] (fun sv iv' wr => ∃ (v : Value) (k : Nat), sv = v ∧ iv' = .int .i64 (k : Nat) ∧ k ≤ n ∧ Hid (Below w1.heap.size w1 wr) ∧ Hid (wr.ownsRow w1.heap.size 65 2 v k (litCells (natL (lits st B k)))) ∧ Hid (k = 0 → v = .slice none 0 0)) (fun _ iv' _ => n - (intOf iv').toNat)
    case atStart => exact ⟨.slice none 0 0, 0, rfl, rfl, Nat.zero_le _, Lib.hid (Below.refl _ _), Lib.hid (World.ownsRow_nil _ _ _ _), Lib.hid (fun _ => rfl)⟩
    case round =>
      obtain ⟨v, k, rfl, rfl, hk, hB, hO, hV⟩ := hrel
      by_cases hkn : k < n
      · obtain ⟨gb, off, rfl, hc⟩ := HR.out k hkn
        have c_k : wr.cell? ⟨gb, off + k, none⟩ = some (.bool (B k)) := ((bel_on' B1.out hB.out).cell (p := ⟨gb, off + k, none⟩) (cell_lt (o := off + k) (by rw [hc]; rfl))).trans hc
        have hwa : IntKind.i64.wrap ((st : Int) + (k : Int)) = ((st + k : Nat) : Int) := by rw [IntKind.wrap_i64]; have := HS2.out; omega
        have hwk : IntKind.i64.wrap ((k : Int) + 1) = ((k + 1 : Nat) : Int) := by rw [IntKind.wrap_i64]; omega
        have hki : (k : Int) < (n : Int) := by omega
        have hst3 : st ≤ 104 := by have := HS2.out; omega
        obtain ⟨i0, hi0, hz0, hz1, hz2⟩ := einfo_parts infoLit
        have hz : w1.heap.size ≤ wr.heap.size := hB.out.size
        have hown := hO.out
        go_wp2_with (at_builtin; refine wpList_append_own _ rfl _ _ 62 rfl w1.heap.size 65 i0 (.agg #[.int .i64 0, .bool false]) 2 16 Try.underlying62 hi0 hz0 hz1 hz2 rfl (by decide) _ _ _ rfl (hown.alloc _) ⟨wr.heap.size, 0, none⟩ 1 1 [.int .i64 ((st : Int) + (k : Int)), .bool (B k)] rfl rfl ?c1 ?c2 ?c3 ?c4 ?c5 ?_)
        case c1 =>
          intro j x hj
          match j, hj with
          | 0, hj => simp at hj; subst hj; simp [Addr.add, go_sem]
          | 1, hj => simp at hj; subst hj; simp [Addr.add, go_sem]
        case c2 => intro x hx; simp at hx; rcases hx with rfl | rfl <;> rfl
        case c3 => unfold maxLen; omega
        case c4 => omega
        case c5 => simp; omega
        · intro v' w3 hown' hgrow _
          have HO' := Lib.hid hown'
          have HG := Lib.hid hgrow
          clear hown' hgrow hown
          go_wp2_with fail
          have hB2 : Below w1.heap.size w1 w3 := (bel_al hB.out _).grown HG.out (by have := hB.out.size; simp; omega) (fun g e => by have := (World.ownsRow.lt hO.out g e).1; omega)
          refine ⟨⟨v', k + 1, rfl, by first | rfl | rw [hwk], by omega, Lib.hid hB2, Lib.hid ?_, Lib.hid (fun e => by omega)⟩, by simp [intOf] <;> omega⟩
          rw [lits_succ, natL_append, litCells_append]
          exact HO'.out
      · have hkn' : k = n := by omega
        subst hkn'
        have hrise := lits_rise st B k HS2.out
        obtain ⟨q, ns, hcf, hw, hq⟩ := cube_new hrise
        have LA : Hid (LitAt wr w1.heap.size u8 (lits st B k)) := Lib.hid (by
          by_cases h0 : k = 0
          · exact Or.inl ⟨List.eq_nil_of_length_eq_zero (by rw [lits_len]; exact h0), hV.out h0⟩
          · obtain ⟨g, cap, h1, h2, h3, h4⟩ := litC_of hO.out (by rw [natL_len, lits_len]) (by omega)
            exact Or.inr ⟨g, cap, by rw [lits_len]; exact h1, h2, h3, h4⟩)
        obtain ⟨va, vn, vc, hvs⟩ := LA.out.slice
        have SZ := Lib.hid (S1.out.grow hB.out (Y := fun i => w1.heap.size ≤ i ∧ i < wr.heap.size) (fun i h => h))
        have CC := Lib.hid (sCubeAt SZ.out hrise LA.out (Hold.of (Below.refl _ _)) (fun g h1 h2 => Or.inr ⟨h1, h2⟩))
        rw [hcf] at CC
        have HQ := Lib.hid hq
        have HWf := Lib.hid hw
        have BW := Lib.hid (bel_on' B1.out hB.out)
        have LN := Lib.hid (lits_len st B k)
        have hq0 : q ≠ 0 := by
          intro e
          have m1 := many_all hrise.1 hrise.2
          have m2 := (many_zero hw hq.1).2 e
          rw [many_st hq] at m2
          have m3 : many (allB (lits st B k)) = 2 ^ (104 - (lits st B k).length) := m1.2
          rw [m2] at m3
          have := Nat.pow_pos (n := 104 - (lits st B k).length) (show 0 < 2 by omega)
          omega
        have HQ0 := Lib.hid hq0
        have HRi := Lib.hid hrise
        clear hcf hw hq hq0 hrise S1 B1 hB hO hV
        subst hvs
        clear LA SZ
        replace CC : Hid (Calls Try.prog 31 #[.pointer (some ⟨p, 0, none⟩), .slice va vn vc] wr fun e w' => e = .returned (.tuple #[.int .i64 (q : Nat), .int .i64 0]) ∧ Sta (fun i => Z i ∨ (w1.heap.size ≤ i ∧ i < wr.heap.size)) p w' 1024 ns ∧ Hold (fun i => Z i ∨ (w1.heap.size ≤ i ∧ i < wr.heap.size)) wr w') := CC
        go_wp2_with fail
        refine CC.out.mono ?_
        rintro e w2 ⟨rfl, hS, hH⟩
        have S2 := Lib.hid hS
        have B2 := Lib.hid (show Below W.heap.size W w2 from BW.out.trans (hH.below BW.out.size (fun i hi => Or.inl (by rw [← HZ.out]; exact hi))))
        clear hS hH CC BW
        obtain ⟨ZZ, hZZ⟩ : ∃ ZZ : Nat → Prop, (fun i => Z i ∨ (w1.heap.size ≤ i ∧ i < wr.heap.size)) = ZZ := ⟨_, rfl⟩
        rw [hZZ] at S2
        clear hZZ
        have LF := Lib.hid HQ.out.1
        have U1 := Lib.hid (utm_of HWf.out false LF.out HQ0.out)
        have CLe := Lib.hid (fun w (h : Sta ZZ p w 1024 ns) => sLeast h q LF.out HQ0.out)
        obtain ⟨a1, ha1⟩ : ∃ x, (uW ns false q 104).1 = x := ⟨_, rfl⟩
        obtain ⟨b1, hb1⟩ : ∃ x, (uW ns false q 104).2 = x := ⟨_, rfl⟩
        rw [ha1, hb1] at U1 CLe
        clear ha1 hb1
        have CCo := Lib.hid (fun w (h : Sta ZZ p w 1024 ns) => sCount h q LF.out)
        rw [many_st HQ.out] at CCo
        have hma : many (allB (lits st B k)) = 2 ^ (104 - k) := by have := (many_all HRi.out.1 HRi.out.2).2; rw [LN.out] at this; exact this
        rw [hma] at CCo
        obtain ⟨rn, r1, r2, r3⟩ := cube_nodes HWf.out (lits st B k) q HRi.out.1 HRi.out.2 LF.out HQ.out.2
        rw [LN.out] at r2
        have hmt : Mt ns [q] rn := ⟨fun x => by rw [r3]; simp, r1⟩
        have CNo := Lib.hid (fun w (h : Sta ZZ p w 1024 ns) (cap : Nat) => sNodes1 h LF.out hmt cap)
        rw [r2] at CNo
        have CPo : Hid (∀ w, Calls Try.prog 21 #[.int .i64 (104 - (k : Int))] w fun e w' => e = .returned (cn (2 ^ (104 - k))) ∧ Below w.heap.size w w') := Lib.hid (fun w => by
          have := spow (104 - k) (by omega) w
          rw [show ((104 - k : Nat) : Int) = 104 - (k : Int) by omega] at this
          exact this)
        have KB : Hid (∀ i w, i < k → Calls Try.prog 30 #[hw a1 b1, .int .i64 ((st : Int) + (i : Int))] w fun e w' => e = .returned (.bool (B i)) ∧ Below w.heap.size w w') := Lib.hid (fun i w hi => by
          have h1 := bits_w a1 b1 ((st : Int) + (i : Int)) U1.out.wb w
          have h2 := U1.out.mem
          rw [HQ.out.2] at h2
          have h3 := lits_all h2 i hi
          have h4 : (decide ((a1 &&& ma ((st : Int) + (i : Int))) ≠ 0) || decide ((b1 &&& mb ((st : Int) + (i : Int))) ≠ 0)) = B i := by
            rw [← h3]; unfold tE tb; rw [show ((st + i : Nat) : Int) = (st : Int) + (i : Int) by omega]
          rw [h4] at h1
          exact h1)
        obtain ⟨cc, hcc⟩ : ∃ c, (2 : Nat) ^ (104 - k) = c := ⟨_, rfl⟩
        rw [hcc] at CCo CPo
        have HST := Lib.hid (show st ≤ 104 by have := HS2.out; omega)
        clear hcc hma r1 r2 r3 hmt U1 HQ HQ0 HRi LN HWf LF
        as_aux_lemma =>
          go_wp2_with fail
          refine (CLe.out w2 S2.out).mono ?_
          rintro e w3 ⟨rfl, hb⟩
          have S3 := Lib.hid (S2.out.on hb)
          have B3 := Lib.hid (bel_on' B2.out hb)
          clear hb S2 B2 
          go_upto_region 15 with fail
          refine at_code (S := fun w => Blk w w3.heap.size [.int .u32 (fd (a1) : Nat), .int .u32 (fs (a1) : Nat), .int .u8 (fd (b1) : Nat), .int .u16 (fx (b1) : Nat), .int .u16 (fy (b1) : Nat)] ∧ Below w3.heap.size w3 w) ⟨Blk.new _ _ _, bel_al (Below.refl _ _) _⟩ (fun w4 hW => ?_)
          obtain ⟨hX, hb⟩ := hW
          have X4 := Lib.hid hX
          have S4 := Lib.hid (S3.out.on hb)
          have B4 := Lib.hid (bel_on' B3.out hb)
          clear hX hb S3 B3 
          go_wp2_with fail
          refine (CCo.out w4 S4.out).mono ?_
          rintro e w5 ⟨rfl, hb⟩
          have S5 := Lib.hid (S4.out.on hb)
          have B5 := Lib.hid (bel_on' B4.out hb)
          have X5 := Lib.hid (X4.out.on hb)
          clear hb S4 B4 X4
          go_wp2_with fail
          refine (CPo.out w5).mono ?_
          rintro e w6 ⟨rfl, hb⟩
          have S6 := Lib.hid (S5.out.on hb)
          have B6 := Lib.hid (bel_on' B5.out hb)
          have X6 := Lib.hid (X5.out.on hb)
          clear hb S5 B5 X5
          go_wp2_with fail
          refine (CNo.out w6 S6.out _).mono ?_
          rintro e w7 ⟨rfl, hb⟩
          have S7 := Lib.hid (S6.out.on hb)
          have B7 := Lib.hid (bel_on' B6.out hb)
          have X7 := Lib.hid (X6.out.on hb)
          clear hb S6 B6 X6
          clear CCo CPo CNo CLe
          go_wp2_with fail
          go_loopw [89] (fun iv' wr => ∃ (i : Nat), iv' = .int .i64 (i : Nat) ∧ i ≤ k ∧ Hid (Blk wr w3.heap.size [.int .u32 (fd (a1) : Nat), .int .u32 (fs (a1) : Nat), .int .u8 (fd (b1) : Nat), .int .u16 (fx (b1) : Nat), .int .u16 (fy (b1) : Nat)]) ∧ Hid (Below W.heap.size W wr)) (fun iv' _ => k - (intOf iv').toNat)
          case atStart => exact ⟨0, rfl, Nat.zero_le _, X7, B7⟩
          case round =>
            obtain ⟨i, rfl, hi, Xi, Bi⟩ := hrel
            clear X7 B7 S7
            by_cases hik : i < k
            · obtain ⟨gb, off, rfl, hc⟩ := HR.out i hik
              have c_k : wr.cell? ⟨gb, off + i, none⟩ = some (.bool (B i)) := (Bi.out.cell (p := ⟨gb, off + i, none⟩) (cell_lt (o := off + i) (by rw [hc]; rfl))).trans hc
              have hwi : IntKind.i64.wrap ((i : Int) + 1) = ((i + 1 : Nat) : Int) := by rw [IntKind.wrap_i64]; omega
              have hst3 : st ≤ 104 := HST.out
              have CB := Lib.hid (fun w => KB.out i w hik)
              generalize B i = bi at *
              obtain ⟨x_0, x_1, x_2, x_3, x_4⟩ : _ ∧ _ ∧ _ ∧ _ ∧ _ := ⟨Xi.out.1 0 _ rfl, Xi.out.1 1 _ rfl, Xi.out.1 2 _ rfl, Xi.out.1 3 _ rfl, Xi.out.1 4 _ rfl⟩
              go_wp2_with fail
              refine (CB.out _).mono ?_
              rintro e w8 ⟨rfl, hb⟩
              have X8 := Lib.hid (Xi.out.on hb)
              have B8 := Lib.hid (bel_on' Bi.out hb)
              clear hb Xi Bi CB x_0 x_1 x_2 x_3 x_4 c_k
              go_wp2_with fail
              refine ⟨⟨i + 1, ?_, by omega, X8, B8⟩, by simp [intOf] <;> omega⟩
              first | rfl | rw [hwi]
            · have hik' : i = k := by omega
              subst hik'
              go_wp2_with fail
              refine (CA.out _).mono ?_
              rintro e w8 ⟨rfl, hb⟩
              have B8 := Lib.hid (bel_on' Bi.out hb)
              clear hb
              go_wp2
              go_ret
              exact ⟨rfl, B8.out⟩

  · have hn' : (104 : Int) < (n : Int) := by omega
    go_wp2_with fail
    refine (CA.out _).mono ?_
    rintro e w2 ⟨rfl, hb⟩
    have B2 := Lib.hid hb
    clear hb
    go_wp2
    go_ret
    exact ⟨rfl, B2.out⟩
end Go.Proofs.Yteiemcnjcdjglaa
/- Expressions and small numbers that are handed in. -/
namespace Go.Proofs.Yteiemcnjcdjglaa
open Go.ChangeShapes Go.WideShapes Go.ChangeAt Go.RowKit Go.Joins Go.Deep Go.WideElems Go.Maps

set_option maxRecDepth 100000 in
theorem exs_open' {H : Type} {enc : TypeId × Value → H} {w : World} {sp : Nat → Bool} {held : Bool} {b0 : Nat} {v : Value} {d : DataW H} {p : List MemPlace} (hv : Value.okWide Try.prog w .any b0 22 v) (h : DataW.Trod enc Try.prog w 0 sp held 22 v d p) : ∃ L la lc, Exs w v L la lc := by
  obtain ⟨a, len, cap, rfl⟩ := okWide_slice Try.underlying22 hv
  exact exs_open h ⟨_, by simp [Value.cells], rfl⟩
theorem nat_u8 {x : Int} (h : (Lit.int .u8 x).wf = true) : ∃ i : Nat, i < 256 ∧ x = (i : Nat) := by
  rw [Lit.wf, Bool.and_eq_true, decide_eq_true_eq, decide_eq_true_eq, show IntKind.u8.min = 0 from rfl, show IntKind.u8.max = 255 from rfl] at h
  exact ⟨x.toNat, by omega, by omega⟩
end Go.Proofs.Yteiemcnjcdjglaa
/- Truth values that are handed in as a row. -/
namespace Go.Proofs.Yteiemcnjcdjglaa
open Go.ChangeShapes Go.WideShapes Go.ChangeAt Go.RowKit Go.Joins Go.Deep Go.WideElems Go.Maps
set_option linter.unusedVariables false

theorem flat_bool : ∀ (L : List Bool) (i : Nat), i < L.length → (L.flatMap (fun b => [Value.bool b]))[i]? = some (.bool (L.getD i false))
  | [], i, h => by simp at h
  | x :: r, 0, h => by simp
  | x :: r, i + 1, h => by
    have := flat_bool r i (by simpa using h)
    simpa using this
set_option maxRecDepth 100000 in
theorem bools_open {H : Type} {enc : TypeId × Value → H} {w : World} {sp : Nat → Bool} {held : Bool} {b0 : Nat} {v : Value} {d : DataW H} {p : List MemPlace} (hv : Value.okWide Try.prog w .any b0 34 v) (h : DataW.Trod enc Try.prog w 0 sp held 34 v d p) :
    ∃ (B : Nat → Bool) (n : Nat) (la : Option Addr) (lc : Nat), v = .slice la n lc ∧ n ≤ maxLen ∧ ∀ i, i < n → ∃ b off, la = some ⟨b, off, none⟩ ∧ w.cell? ⟨b, off + i, none⟩ = some (.bool (B i)) := by
  obtain ⟨a, len, cap, rfl⟩ := okWide_slice Try.underlying34 hv
  obtain ⟨fuel, hf⟩ := h
  rw [show (Value.slice a len cap).cells.toList = [.slice a len cap] by simp [Value.cells]] at hf
  obtain ⟨la, lc, L, e0, r0, o0, l0, c0⟩ := slice_rows (fun b : Bool => [Value.bool b]) (fun _ => True) 0 Try.underlying34 cellsBool' (fun _ => rfl) (fun m cs y hl h => by
    match cs, hl with
    | [c], _ =>
      obtain ⟨x, rfl⟩ := bool_cell Try.underlying4 h
      exact ⟨x, rfl, trivial⟩) hf
  simp at e0
  obtain ⟨rfl, rfl, rfl⟩ := e0
  refine ⟨fun i => L.getD i false, L.length, a, cap, rfl, l0, fun i hi => ?_⟩
  exact r0 i _ (flat_bool L i hi)
end Go.Proofs.Yteiemcnjcdjglaa
