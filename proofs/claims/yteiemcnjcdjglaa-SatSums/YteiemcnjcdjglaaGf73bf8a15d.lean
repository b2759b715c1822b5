/- Texts joined, in their order: SX, SY, TS, RE. -/
import Derived.Test.YteiemcnjcdjglaaGSW
import Derived.Test.YteiemcnjcdjglaaG2817d68fa6
import Derived.Test.YteiemcnjcdjglaaGfe77df2618
import Derived.Test.YteiemcnjcdjglaaG7d8162db53
import Derived.Test.YteiemcnjcdjglaaG402e4c2e9c
/- Whether all of a set is another one's: the calls' contracts. -/
namespace Go.Proofs.Yteiemcnjcdjglaa
open Go.RowKit Go.Maps Go.MapKept Go.ChangeMaps Go.WideElems Go.Joins
set_option linter.unusedVariables false
set_option linter.unusedSimpArgs false

theorem nbeq {a b : Nat} (h : a ≠ b) : ((a : Int) == (b : Int)) = false := beq_eq_false_iff_ne.2 (by omega)
theorem PairOk.lt {ns : List Nd} {p : Nat × Nat} (h : PairOk ns p) : p.1 < ns.length ∧ p.2 < ns.length := ⟨h.1, h.2.1⟩
theorem swithin_f (p most db : Nat) (ns : List Nd) (hlen : ns.length ≤ 262144) : ∀ (k : Nat) (ks : List (Nat × Nat)) (c f g : Nat) (w : World), f < ns.length → g < ns.length → 105 ≤ k + min (lv ns f) (lv ns g) → Bs p most db w.heap.size ns w → MetP w db ks c → ks.Nodup → (∀ x ∈ ks, PairOk ns x) → c + 1 + 2 * (ns.length * ns.length - ks.length) ≤ 900000000000 →
    Calls Try.prog 50 #[.pointer (some ⟨p, 0, none⟩), .agg #[.int .i64 (f : Nat), .int .i64 (g : Nat)], .map (some db)] w fun e w' => e = .returned (.bool (wiF ns k ks c f g).1) ∧ MetP w' db (wiF ns k ks c f g).2.1 (wiF ns k ks c f g).2.2 ∧ Keep (fun i => i = db) w w' := by
  intro k
  induction k with
  | zero => intro ks c f g w hf hg hk hB; have := lv_le hB.sta.wf (f := f); omega
  | succ k ih =>
    intro ks c f g w hf hg hk hB hM hn hx hc
    have hw := hB.sta.wf
    have W_ := wiF_ok hw (k + 1) ks c f g hf hg hk
    unfold wiF at W_ ⊢
    by_cases t1 : f = 0 ∨ g = 1 ∨ f = g
    · rw [if_pos t1]
      have fin : ∀ (e : Ending) (w' : World), (e = .returned (.bool true) ∧ Below w.heap.size w w') → (e = .returned (.bool true) ∧ MetP w' db ks c ∧ Keep (fun i => i = db) w w') := fun e w' q => ⟨q.1, hM.on q.2, Keep.of q.2⟩
      by_cases h1 : f = 0
      · exact (within_t1 _ f g db h1 w).mono fin
      by_cases h2 : g = 1
      · exact (within_t2 _ f g db (nbeq h1) h2 w).mono fin
      have h3 : g = f := by omega
      exact (within_t3 _ f g db (nbeq h1) (by rw [h3] at h2; exact nbeq h2) h3 w).mono fin
    rw [if_neg t1] at W_ ⊢
    have n1 : f ≠ 0 := fun e => t1 (Or.inl e)
    have n2 : g ≠ 1 := fun e => t1 (Or.inr (Or.inl e))
    have n3 : f ≠ g := fun e => t1 (Or.inr (Or.inr e))
    by_cases t2 : f = 1 ∨ g = 0
    · rw [if_pos t2]
      have fin : ∀ (e : Ending) (w' : World), (e = .returned (.bool false) ∧ Below w.heap.size w w') → (e = .returned (.bool false) ∧ MetP w' db ks c ∧ Keep (fun i => i = db) w w') := fun e w' q => ⟨q.1, hM.on q.2, Keep.of q.2⟩
      by_cases h1 : f = 1
      · exact (within_n1 _ f g db (nbeq n2) (by rw [h1] at n3; exact nbeq n3) h1 w).mono fin
      have h2 : g = 0 := by omega
      exact (within_n2 _ f g db (nbeq n1) (nbeq h1) h2 w).mono fin
    rw [if_neg t2] at W_ ⊢
    have n4 : f ≠ 1 := fun e => t2 (Or.inl e)
    have n5 : g ≠ 0 := fun e => t2 (Or.inr e)
    obtain ⟨l, hkey⟩ := key_w2 (f, g) (by show f ≤ _; omega) (by show g ≤ _; omega)
    obtain ⟨m, hm, hv⟩ := hM
    have hfew := hv.few
    have hfk := few_pairs hn (fun x q => (hx x q).lt)
    have hsq : ns.length * ns.length ≤ 262144 * 262144 := Nat.mul_le_mul hlen hlen
    have ukv : wkv (f, g) = .agg #[.int .i64 (f : Nat), .int .i64 (g : Nat)] := rfl
    by_cases t3 : (f, g) ∈ ks
    · rw [if_pos t3]
      obtain ⟨⟨fg, u⟩, hp, e⟩ := List.mem_map.1 ((hv.key (f, g)).2 t3)
      simp only at e
      subst e
      have hu := hv.val _ hp
      simp only at hu
      refine (within_known _ f g db w u (by omega) (by omega) (nbeq n1) (nbeq n2) (nbeq n3) (nbeq n4) (nbeq n5) (fun w' => MapV Try.prog 94 wkv ikv w' db m) (fun w' => MetP w' db ks (c + 1)) (Lib.hid (fun _ _ h hb => h.on hb)) (Lib.hid hm) (Lib.hid hB.dlt) (Lib.hid (fun w' h => ?_))).mono ?_
      · have l1 := mapV_some keyedW2 Try.underlying95 zeroInt wkv_inj false h hkey hp hv.one
        obtain ⟨st, w1, w2, k1, k2, k3, k4, k5, k6⟩ := mapV_entry (m' := putP m (f, g) (u + 1)) (v := u + 1) lawW2 Try.underlying95 zeroInt wkv_inj h hkey hv.one (Or.inl hp) (by unfold maxLen; omega) (fun p => putP_mem p)
        have l2 := mapV_some keyedW2 Try.underlying95 zeroInt wkv_inj false k4 hkey ((putP_mem _).2 (Or.inl rfl)) (putP_one hv.one)
        exact ⟨l1, st, w1, w2, k1, k2, k3, ⟨_, k4, hv.put (f, g) (u + 1) (by omega) (by omega) (fun k => ⟨Or.inr, fun s => s.elim (fun e => by rw [e]; exact t3) id⟩)⟩, k5, k6, l2⟩
      · rintro e w' ⟨rfl, h1, h2⟩
        exact ⟨rfl, h1, h2⟩
    rw [if_neg t3] at W_ ⊢
    have hp : PairOk ns (f, g) := ⟨hf, hg, t1, n4, n5⟩
    have hl := hp.lv hw
    obtain ⟨i, hi⟩ : ∃ i, min (lv ns f) (lv ns g) = i := ⟨_, rfl⟩
    simp only [hi] at W_ ⊢
    rw [hi] at hl hk
    have a0 := pt_ok hw hf (i := i) (by omega) hl false
    have a1 := pt_ok hw hf (i := i) (by omega) hl true
    have b0 := pt_ok hw hg (i := i) (by omega) hl false
    have b1 := pt_ok hw hg (i := i) (by omega) hl true
    simp only [sd, Bool.false_eq_true, if_false, if_true] at a0 a1 b0 b1
    have hn1 : ((f, g) :: ks).Nodup := List.nodup_cons.2 ⟨t3, hn⟩
    have hx1 : ∀ x ∈ (f, g) :: ks, PairOk ns x := fun x q => by rcases List.mem_cons.1 q with rfl | q; exact hp; exact hx x q
    have A := wiF_ok hw k ((f, g) :: ks) (c + 1) (ptF ns f i).1 (ptF ns g i).1 a0.1 b0.1 (by omega)
    have cA := fun (w' : World) (h : Bs p most db w.heap.size ns w' ∧ MetP w' db ((f, g) :: ks) (c + 1)) => ih ((f, g) :: ks) (c + 1) (ptF ns f i).1 (ptF ns g i).1 w' a0.1 b0.1 (by omega) h.1.here h.2 hn1 hx1 (by simp only [List.length_cons]; have := few_pairs hn1 (fun x q => (hx1 x q).lt); simp only [List.length_cons] at this; omega)
    obtain ⟨R, hR⟩ : ∃ R, wiF ns k ((f, g) :: ks) (c + 1) (ptF ns f i).1 (ptF ns g i).1 = R := ⟨_, rfl⟩
    simp only [hR] at A cA ⊢
    have A1 := A.one hn1
    have A2 := A.ok hx1
    have A3 := A.len
    have A4 := A.cnt
    have A5 := few_pairs A1 (fun x q => (A2 x q).lt)
    simp only [List.length_cons] at A3 A4
    obtain ⟨T, hT⟩ : ∃ T, wiF ns k R.2.1 R.2.2 (ptF ns f i).2 (ptF ns g i).2 = T := ⟨_, rfl⟩
    have cB := fun (w' : World) (h : Bs p most db w.heap.size ns w' ∧ MetP w' db R.2.1 R.2.2) => ih R.2.1 R.2.2 (ptF ns f i).2 (ptF ns g i).2 w' a1.1 b1.1 (by omega) h.1.here h.2 A1 A2 (by omega)
    simp only [hT] at cB ⊢
    have LK : Hid (∀ w', (Bs p most db w.heap.size ns w' ∧ MapV Try.prog 94 wkv ikv w' db m) → _) := Lib.hid (fun w' h => by
      have hno : (f, g) ∉ m.map (·.1) := fun e => t3 ((hv.key _).1 e)
      have l1 := mapV_none keyedW2 Try.underlying95 zeroInt wkv_inj false h.2 hkey hno
      obtain ⟨st, w1, w2, k1, k2, k3, k4, k5, k6⟩ := mapV_entry (m' := putP m (f, g) 1) (u := 0) (v := 1) lawW2 Try.underlying95 zeroInt wkv_inj h.2 hkey hv.one (Or.inr ⟨hno, rfl⟩) (by unfold maxLen; omega) (fun p => putP_mem p)
      have l2 := mapV_some keyedW2 Try.underlying95 zeroInt wkv_inj false k4 hkey ((putP_mem _).2 (Or.inl rfl)) (putP_one hv.one)
      have hq : Bs p most db w.heap.size ns w2 ∧ MetP w2 db ((f, g) :: ks) (c + 1) := ⟨h.1.kept ((Keep.refl _ _).only k6 (fun _ => rfl)), _, k4, hv.put (f, g) 1 (by omega) (by omega) (fun k => List.mem_cons)⟩
      exact (⟨l1, st, w1, w2, k1, k2, k3, hq, k5, k6, l2⟩ : (Instr.lookup 95 (.map (some db)) (.agg #[.int .i64 (f : Nat), .int .i64 (g : Nat)]) false).run Try.prog w' = .ok (.int .i64 0) w' ∧ ∃ (st : Nat) (w1 w2 : World), (Instr.mapEntry 95 (.map (some db)) (.agg #[.int .i64 (f : Nat), .int .i64 (g : Nat)])).run Try.prog w' = .ok (.tuple #[.int .i64 0, .int .i64 (st : Nat)]) w1 ∧ (Instr.lookup 95 (.map (some db)) (.agg #[.int .i64 (f : Nat), .int .i64 (g : Nat)]) false).run Try.prog w1 = .ok (.int .i64 0) w1 ∧ (Instr.entryStore 95 (.map (some db)) (.int .i64 (st : Nat)) (.int .i64 1)).run Try.prog w1 = .ok () w2 ∧ (Bs p most db w.heap.size ns w2 ∧ MetP w2 db ((f, g) :: ks) (c + 1)) ∧ Only db w' w1 ∧ Only db w' w2 ∧ (Instr.lookup 95 (.map (some db)) (.agg #[.int .i64 (f : Nat), .int .i64 (g : Nat)]) false).run Try.prog w2 = .ok (.int .i64 1) w2))
    have C1 : Hid (∀ w', (Bs p most db w.heap.size ns w' ∧ MetP w' db ((f, g) :: ks) (c + 1)) → _) := Lib.hid (fun w' h => slevel h.1.sta f hf)
    have C2 : Hid (∀ w', (Bs p most db w.heap.size ns w' ∧ MetP w' db ((f, g) :: ks) (c + 1)) → _) := Lib.hid (fun w' h => slevel h.1.sta g hg)
    have C3 : Hid (∀ w', (Bs p most db w.heap.size ns w' ∧ MetP w' db ((f, g) :: ks) (c + 1)) → _) := Lib.hid (fun w' h => sparts h.1.sta f i hf)
    have C4 : Hid (∀ w', (Bs p most db w.heap.size ns w' ∧ MetP w' db ((f, g) :: ks) (c + 1)) → _) := Lib.hid (fun w' h => sparts h.1.sta g i hg)
    have D1 : Hid (∀ w', (Bs p most db w.heap.size ns w' ∧ MetP w' db ((f, g) :: ks) (c + 1)) → Calls Try.prog 50 #[.pointer (some ⟨p, 0, none⟩), .agg #[.int .i64 ((ptF ns f i).1 : Nat), .int .i64 ((ptF ns g i).1 : Nat)], .map (some db)] w' fun e w'' => e = .returned (.bool R.1) ∧ (Bs p most db w.heap.size ns w'' ∧ MetP w'' db R.2.1 R.2.2) ∧ Keep (fun i => i = db) w' w'') := Lib.hid (fun w' h => (cA w' h).mono (by rintro e w'' ⟨rfl, h1, h2⟩; exact ⟨rfl, ⟨h.1.kept h2, h1⟩, h2⟩))
    have D2 : Hid (R.1 = true → ∀ w', (Bs p most db w.heap.size ns w' ∧ MetP w' db R.2.1 R.2.2) → Calls Try.prog 50 #[.pointer (some ⟨p, 0, none⟩), .agg #[.int .i64 ((ptF ns f i).2 : Nat), .int .i64 ((ptF ns g i).2 : Nat)], .map (some db)] w' fun e w'' => e = .returned (.bool T.1) ∧ MetP w'' db T.2.1 T.2.2 ∧ Keep (fun i => i = db) w' w'') := Lib.hid (fun _ w' h => cB w' h)
    have fin : ∀ (e : Ending) (w' : World), (e = .returned (.bool (R.1 && T.1)) ∧ Keep (fun i => i = db) w w' ∧ (R.1 = false → Bs p most db w.heap.size ns w' ∧ MetP w' db R.2.1 R.2.2) ∧ (R.1 = true → MetP w' db T.2.1 T.2.2)) → (e = .returned (.bool (if R.1 = true then T else R).1) ∧ MetP w' db (if R.1 = true then T else R).2.1 (if R.1 = true then T else R).2.2 ∧ Keep (fun i => i = db) w w') := fun e w' q => by
      obtain ⟨q1, q2, q3, q4⟩ := q
      cases h : R.1 with
      | false => rw [h] at q1; simp only [Bool.false_eq_true, if_false, h]; exact ⟨q1, (q3 h).2, q2⟩
      | true => rw [h] at q1; simp only [if_true]; exact ⟨q1, q4 h, q2⟩
    by_cases hab : lv ns f ≤ lv ns g
    · exact (within_new1 _ f g db w (lv ns f) (lv ns g) i _ _ _ _ R.1 T.1 _ _ (by omega) (by omega) (nbeq n1) (nbeq n2) (nbeq n3) (nbeq n4) (nbeq n5) _ _ (Lib.hid (fun _ _ h hb => ⟨h.1.on hb, h.2.on hb⟩)) (Lib.hid ⟨hB, hm⟩) (Lib.hid hB.dlt) LK (Lib.hid (fun _ _ h hb => ⟨h.1.on hb, h.2.on hb⟩)) (Lib.hid (fun _ _ h hb => ⟨h.1.on hb, h.2.on hb⟩)) C1 C2 C3 C4 D1 D2).mono fin
    · exact (within_new2 _ f g db w (lv ns f) (lv ns g) i _ _ _ _ R.1 T.1 _ _ (by omega) (by omega) (nbeq n1) (nbeq n2) (nbeq n3) (nbeq n4) (nbeq n5) _ _ (Lib.hid (fun _ _ h hb => ⟨h.1.on hb, h.2.on hb⟩)) (Lib.hid ⟨hB, hm⟩) (Lib.hid hB.dlt) LK (Lib.hid (fun _ _ h hb => ⟨h.1.on hb, h.2.on hb⟩)) (Lib.hid (fun _ _ h hb => ⟨h.1.on hb, h.2.on hb⟩)) C1 C2 C3 C4 D1 D2).mono fin
set_option maxRecDepth 100000 in
set_option maxHeartbeats 1000000 in
theorem within_core (p : Value) (f g : Nat) (r : Bool) (W : World) (C1 : Hid (Calls Try.prog 29 #[p, .int .i64 (f : Nat)] W fun e w' => e = .returned (.bool true) ∧ W = w')) (C2 : Hid (Calls Try.prog 29 #[p, .int .i64 (g : Nat)] W fun e w' => e = .returned (.bool true) ∧ W = w'))
    (C3 : Hid (Calls Try.prog 50 #[p, .agg #[.int .i64 (f : Nat), .int .i64 (g : Nat)], .map (some W.heap.size)] (W.alloc (.map #[] 0)) fun e w' => e = .returned (.bool r) ∧ Below W.heap.size W w')) :
    Calls Try.prog 22 #[p, .int .i64 (f : Nat), .int .i64 (g : Nat)] W fun e w' => e = .returned (.bool r) ∧ Below W.heap.size W w' := by
  have hmm := @run_makeMap Try.prog
  go_enter Try.func22, Try.ntmps22
  go_wp2_with fail
  refine C1.out.mono ?_
  rintro e w' ⟨rfl, rfl⟩
  go_wp2_with fail
  refine C2.out.mono ?_
  rintro e w' ⟨rfl, rfl⟩
  go_wp2_with fail
  refine C3.out.mono ?_
  rintro e w' ⟨rfl, hb⟩
  have B := Lib.hid hb
  clear hb C1 C2 C3
  go_wp2
  go_ret
  exact ⟨rfl, B.out⟩
theorem sWithin {Z : Nat → Prop} {p most : Nat} {W : World} {ns : List Nd} (h : Sta Z p W most ns) (f g : Nat) (hf : f < ns.length) (hg : g < ns.length) :
    ∃ r, (r = true ↔ Sub ns f g) ∧ Calls Try.prog 22 #[.pointer (some ⟨p, 0, none⟩), .int .i64 (f : Nat), .int .i64 (g : Nat)] W fun e w' => e = .returned (.bool r) ∧ Below W.heap.size W w' := by
  refine ⟨(wiF ns 105 [] 0 f g).1, wi_any h.wf hf hg, within_core _ f g _ W (Lib.hid ?_) (Lib.hid ?_) (Lib.hid ?_)⟩
  · have := sHas h f; rw [hasB_lt hf] at this; exact this
  · have := sHas h g; rw [hasB_lt hg] at this; exact this
  · have hl := h.len
    have hsq : ns.length * ns.length ≤ 262144 * 262144 := Nat.mul_le_mul hl hl
    refine (swithin_f p most W.heap.size ns hl 105 [] 0 f g _ hf hg (by omega) (Bs.of h (Below.refl _ _)).here ⟨[], MapV.made W, ⟨fun k => by simp, List.nodup_nil, fun p hp => (by cases hp)⟩⟩ List.nodup_nil (fun x hx => by cases hx) (by simp only [List.length_nil]; omega)).mono ?_
    rintro e w' ⟨rfl, -, hk⟩
    exact ⟨rfl, al_kept (Below.refl _ _) hk⟩
end Go.Proofs.Yteiemcnjcdjglaa
/- Sums of sets' counts; what is within what: for SatSums. -/
namespace Go.Proofs.Yteiemcnjcdjglaa
open Go.RowKit Wd
set_option linter.unusedVariables false
set_option linter.unusedSimpArgs false

theorem many_lt (φ : (Nat → Bool) → Bool) : many φ < MM := lt_MM (many_le φ) (by omega)
theorem many_st {ns : List Nd} {q : Nat} {φ : Env → Bool} (h : St ns q φ) : many (fun e => ev ns e q) = many φ := many_eq h.2
theorem many_sum (φ ψ : (Nat → Bool) → Bool) : many (fun e => φ e && ψ e) + many (fun e => φ e || ψ e) = many φ + many ψ := kd_add φ ψ 104 _
theorem many_rest (φ : (Nat → Bool) → Bool) : many φ + many (fun e => !φ e) = 2 ^ 104 := kd_not φ 104 _
theorem sadd (a b s : Nat) (ha : a < MM) (hb : b < MM) (h : a + b = s) (hs : s < MM) (w : World) : Calls Try.prog 20 #[cn a, cn b] w fun e w' => e = .returned (cn s) ∧ Below w.heap.size w w' := by
  have := Wd.add_any a b ha hb w
  rw [h, Nat.mod_eq_of_lt hs] at this
  exact this
theorem two_lt : 2 ^ 105 < MM := by decide
theorem spow104 (w : World) : Calls Try.prog 21 #[.int .i64 104] w fun e w' => e = .returned (cn (2 ^ 104)) ∧ Below w.heap.size w w' := by
  have := Wd.pow_any ((104 : Nat) : Int) w
  rw [upI_in 1 104 (by omega), up_pow 104 (by omega)] at this
  exact this
section
variable {Z : Nat → Prop} {p most : Nat} {W : World} {ns : List Nd} {f g : Nat} {φ ψ : Env → Bool}
theorem sWithin_yes (h : Sta Z p W most ns) (hf : St ns f φ) (hg : St ns g ψ) (hs : ∀ e, φ e = true → ψ e = true) :
    Calls Try.prog 22 #[.pointer (some ⟨p, 0, none⟩), .int .i64 (f : Nat), .int .i64 (g : Nat)] W fun e w' => e = .returned (.bool true) ∧ Below W.heap.size W w' := by
  obtain ⟨r, h1, h2⟩ := sWithin h f g hf.1 hg.1
  have : r = true := h1.2 (fun e he => by rw [hg.2]; exact hs e (by rw [← hf.2]; exact he))
  rw [this] at h2
  exact h2
theorem sWithin_is (h : Sta Z p W most ns) (hf : St ns f φ) (hg : St ns g ψ) (x : Bool) (hs : x = true ↔ ∀ e, φ e = true → ψ e = true) :
    Calls Try.prog 22 #[.pointer (some ⟨p, 0, none⟩), .int .i64 (f : Nat), .int .i64 (g : Nat)] W fun e w' => e = .returned (.bool x) ∧ Below W.heap.size W w' := by
  obtain ⟨r, h1, h2⟩ := sWithin h f g hf.1 hg.1
  have e1 : r = true ↔ x = true := by
    rw [h1, hs]
    exact ⟨fun q e he => by have := q e (by rw [hf.2]; exact he); rwa [hg.2] at this, fun q e he => by rw [hg.2]; exact q e (by rw [← hf.2]; exact he)⟩
  have : r = x := by cases r <;> cases x <;> simp at e1 ⊢
  rw [this] at h2
  exact h2
end
end Go.Proofs.Yteiemcnjcdjglaa
/- SatSums's walk (typed by gen/mkst.py). -/
namespace Go.Proofs.Yteiemcnjcdjglaa
open Go.RowKit Wd
set_option linter.unusedVariables false
set_option linter.unusedSimpArgs false

set_option maxRecDepth 100000 in
set_option maxHeartbeats 8000000 in
theorem ssums_any (L : List Ex) (la : Option Addr) (lc : Nat) (W : World) (hL : Rw W la (L.flatMap Ex.cells)) (hlen : L.length ≤ maxLen) (hrng : ∀ x ∈ L, -9223372036854775808 ≤ x.v ∧ x.v ≤ 9223372036854775807) :
    Calls Try.prog 4 #[.slice la L.length lc] W fun e w' => e = .returned (.bool true) ∧ Below W.heap.size W w' := by
  have CA := Lib.hid (fun w => sawake_any w)
  have CN := Lib.hid (fun w => sNew 262144 (by omega) (by omega) w)
  have CM := Lib.hid (fun (Z : Nat → Prop) (p : Nat) (w : World) (h : Sta Z p w 262144 [bot, top]) (hr : Rw w la (L.flatMap Ex.cells)) (hZ : ∀ b off, la = some ⟨b, off, none⟩ → 0 < L.length → Z b) (lt : Lt L) => make_big (lc := lc) h hr hZ lt)
  have CL := Lib.hid (fun (w : World) (hb : Below W.heap.size W w) => light_any L la lc w (hL.on hb) hlen hrng)
  have HL0 := Lib.hid hL
  obtain ⟨n, hn⟩ : ∃ n, L.length = n := ⟨_, rfl⟩
  rw [hn] at CL CM hlen ⊢
  have HN := Lib.hid hn
  clear hn hL hrng
  go_enter Try.func4, Try.ntmps4

  go_wp2_with fail
  refine (CL.out W (Below.refl _ _)).mono ?_
  rintro e w1 ⟨r, rfl, hr, hb⟩
  have B1 := Lib.hid (hb)
  clear hb CL
  cases r with
  | false =>
    clear hr
    go_wp2_with fail
    refine (CA.out _).mono ?_
    rintro e w2 ⟨rfl, hb⟩
    have B2 := Lib.hid (bel_on' B1.out hb)
    clear hb
    go_wp2
    go_ret
    exact ⟨rfl, B2.out⟩
  | true =>
    have LT := Lib.hid (hr rfl)
    clear hr
    have h60 : n ≤ 60 := by rw [← HN.out]; exact LT.out.len
    by_cases hfew : n < 2
    · have hfew' : (n : Int) < 2 := by omega
      go_wp2_with fail
      refine (CA.out _).mono ?_
      rintro e w2 ⟨rfl, hb⟩
      have B2 := Lib.hid (bel_on' B1.out hb)
      clear hb
      go_wp2
      go_ret
      exact ⟨rfl, B2.out⟩
    · have hfew' : ¬ (n : Int) < 2 := by first | omega | (rw [beq_eq_false_iff_ne]; omega)
      go_wp2_with fail
      refine (CN.out _).mono ?_
      rintro e w2 ⟨p, rfl, hS, hb⟩
      have S2 := Lib.hid hS
      have B2 := Lib.hid (bel_on' B1.out hb)
      clear hS CN
      have CM2 := Lib.hid (CM.out _ p w2 S2.out (HL0.out.on B2.out) (fun b off e hl => by show b < w1.heap.size; have := rw_z HL0.out b off e (by rw [HN.out]; exact hl); have := B1.out.size; omega) LT.out)
      clear CM S2
      go_wp2_with fail
      refine CM2.out.mono ?_
      rintro e w3 ⟨v, o, B, ns, rfl, hS, hH, hR, hF⟩
      have hon : o.length = n := by rw [hF.len]; exact HN.out
      obtain ⟨g, cap, hv, hg⟩ := row_form hR (by omega)
      rw [hon] at hg hv
      have B3 := Lib.hid (B2.out.trans (hH.below B2.out.size (fun k hk => by show k < w1.heap.size; have := B1.out.size; omega)))
      obtain ⟨Z, hZ⟩ : ∃ Z, Zv (fun k => k < w1.heap.size) v = Z := ⟨_, rfl⟩
      have hzl : ∀ k, k < w1.heap.size → Z k := by rw [← hZ]; exact Zv_lt (fun k hk => hk)
      have hzg : Z g := by rw [← hZ, hv]; exact Or.inr rfl
      rw [hZ] at hS
      have HZL := Lib.hid (And.intro hzl hzg)
      have HF := Lib.hid hF
      have HG := Lib.hid hg
      have S3 := Lib.hid hS
      have WN := Lib.hid hS.wf
      subst hv
      clear CM2 hR hZ hzl hzg hH hF hg hS hon hb B2
      obtain ⟨m, hm⟩ : ∃ m, n = m + 2 := ⟨n - 2, by omega⟩
      have hw1 : IntKind.i64.wrap ((n : Int) - 1) = ((m + 1 : Nat) : Int) := by rw [IntKind.wrap_i64]; omega
      have hw2 : IntKind.i64.wrap ((n : Int) - 2) = ((m : Nat) : Int) := by rw [IntKind.wrap_i64]; omega
      have hmn1 : m + 1 < n := by omega
      have hmn : m < n := by omega
      have Qf := Lib.hid (HF.out.at_ (i := m + 1) (by rw [HN.out]; exact hmn1))
      have Qg := Lib.hid (HF.out.at_ (i := m) (by rw [HN.out]; exact hmn))
      have g_1 := HG.out (m + 1) hmn1
      have g_2 := HG.out m hmn
      obtain ⟨m1, hm1⟩ : ∃ m1, m + 1 = m1 := ⟨_, rfl⟩
      rw [hm1] at g_1 hmn1 Qf hw1
      obtain ⟨f, hf⟩ : ∃ f, o.getD m1 0 = f := ⟨_, rfl⟩
      obtain ⟨φ, hφ⟩ : ∃ φ, (semL [] L).getD m1 (fun _ => false) = φ := ⟨_, rfl⟩
      obtain ⟨u, hu⟩ : ∃ f, o.getD m 0 = f := ⟨_, rfl⟩
      obtain ⟨ψ, hψ⟩ : ∃ φ, (semL [] L).getD m (fun _ => false) = φ := ⟨_, rfl⟩
      rw [hf] at Qf g_1
      rw [hφ] at Qf
      rw [hu] at Qg g_2
      rw [hψ] at Qg
      have hl3 := Lib.hid HF.out.most
      have hpw := Lib.hid HF.out.pw
      have HB4 := Lib.hid HF.out.bits
      clear hf hφ hu hψ HF HG hm hm1
      go_upto_region 9 with fail
      refine wp_region_noPanic ?_
      refine wp_region_along (S := fun w' => w' = w3.drew) ([(0, true), (1, true), (2, true), (3, true), (4, true), (5, true), (6, true), (7, true), (8, true), (9, true), (10, true), (11, true), (12, true), (13, true)]) (by kernel_rfl) (by as_aux_lemma => kernel_rfl) (by kernel_rfl) (by kernel_rfl) (by as_aux_lemma => kernel_rfl) (by as_aux_lemma => kernel_rfl) (fun _ _ _ _ _ h => h) rfl (fun hH => ?_)
      simp only [stepsOf, pickOp]
      iterate 14 (first | (refine along_skip (by rfl) ?_; try simp only [Act.put, List.setIfInBounds_toArray, List.set_cons_zero, List.set_cons_succ]) | (refine along_pure ?_ (by rfl) (fun w hSw => ?_) ?_; rotate_left; (obtain rfl := hSw; go_simp; try with_reducible rfl); try simp only [Act.put, List.setIfInBounds_toArray, List.set_cons_zero, List.set_cons_succ]))
      refine along_end (NoPanic.normal ?_)
      clear hH g_1 g_2
      obtain ⟨w4, hw4⟩ : ∃ x, x = w3.drew := ⟨_, rfl⟩
      have S4 := Lib.hid (show Sta Z p w4 262144 ns by rw [hw4]; exact S3.out.on (Below.refl _ _).drew)
      have B4 := Lib.hid (show Below W.heap.size W w4 by rw [hw4]; exact bel_on' B3.out (Below.refl _ _).drew)
      rw [← hw4]
      clear hw4 S3 B3
      obtain ⟨ns4, h4⟩ : ∃ x, ns = x := ⟨_, rfl⟩
      rw [h4] at S4 Qf Qg WN hl3 HB4
      have WN4 := WN
      clear h4 WN
      go_wp2_with fail
      refine (bJoin S4.out HB4.out 0 (by omega) Qf.out Qg.out hpw.out (by have := hl3.out; omega)).mono ?_
      rintro e w5 ⟨b, ns5, rfl, hS, hH, hO, hT⟩
      have S5 := Lib.hid hS
      have B5 := Lib.hid (B4.out.trans (hH.below B4.out.size (fun k hk => HZL.out.1 k (by have := B1.out.size; omega))))
      have Qb := Lib.hid hT
      have LN5 := Lib.hid hO.len
      have WN5 := Lib.hid hO.wf
      have HB5 := Lib.hid hO.bits
      have Qf_ := Lib.hid (hO.st WN4.out Qf.out)
      clear Qf
      have Qf := Qf_
      clear Qf_
      have Qg_ := Lib.hid (hO.st WN4.out Qg.out)
      clear Qg
      have Qg := Qg_
      clear Qg_
      clear hS hH hO hT S4 B4
      go_wp2_with fail
      refine (bJoin S5.out HB5.out 1 (by omega) Qf.out Qg.out hpw.out (by have := hl3.out; have := LN5.out; omega)).mono ?_
      rintro e w6 ⟨c, ns6, rfl, hS, hH, hO, hT⟩
      have S6 := Lib.hid hS
      have B6 := Lib.hid (B5.out.trans (hH.below B5.out.size (fun k hk => HZL.out.1 k (by have := B1.out.size; omega))))
      have Qc := Lib.hid hT
      have LN6 := Lib.hid hO.len
      have WN6 := Lib.hid hO.wf
      have HB6 := Lib.hid hO.bits
      have Qf_ := Lib.hid (hO.st WN5.out Qf.out)
      clear Qf
      have Qf := Qf_
      clear Qf_
      have Qg_ := Lib.hid (hO.st WN5.out Qg.out)
      clear Qg
      have Qg := Qg_
      clear Qg_
      have Qb_ := Lib.hid (hO.st WN5.out Qb.out)
      clear Qb
      have Qb := Qb_
      clear Qb_
      clear hS hH hO hT S5 B5
      go_wp2_with fail
      refine (bNot S6.out HB6.out Qf.out hpw.out (by have := hl3.out; have := LN5.out; have := LN6.out; omega)).mono ?_
      rintro e w7 ⟨d, ns7, rfl, hS, hH, hO, hT⟩
      have S7 := Lib.hid hS
      have B7 := Lib.hid (B6.out.trans (hH.below B6.out.size (fun k hk => HZL.out.1 k (by have := B1.out.size; omega))))
      have Qd := Lib.hid hT
      have LN7 := Lib.hid hO.len
      have WN7 := Lib.hid hO.wf
      have HB7 := Lib.hid hO.bits
      have Qf_ := Lib.hid (hO.st WN6.out Qf.out)
      clear Qf
      have Qf := Qf_
      clear Qf_
      have Qg_ := Lib.hid (hO.st WN6.out Qg.out)
      clear Qg
      have Qg := Qg_
      clear Qg_
      have Qb_ := Lib.hid (hO.st WN6.out Qb.out)
      clear Qb
      have Qb := Qb_
      clear Qb_
      have Qc_ := Lib.hid (hO.st WN6.out Qc.out)
      clear Qc
      have Qc := Qc_
      clear Qc_
      clear hS hH hO hT S6 B6
      have Nf := Lib.hid (fun w (h : Sta Z p w 262144 ns7) => sCount h f Qf.out.1)
      have Ng := Lib.hid (fun w (h : Sta Z p w 262144 ns7) => sCount h u Qg.out.1)
      have Nb := Lib.hid (fun w (h : Sta Z p w 262144 ns7) => sCount h b Qb.out.1)
      have Nc := Lib.hid (fun w (h : Sta Z p w 262144 ns7) => sCount h c Qc.out.1)
      have Nd := Lib.hid (fun w (h : Sta Z p w 262144 ns7) => sCount h d Qd.out.1)
      rw [many_st Qf.out] at Nf
      rw [many_st Qg.out] at Ng
      rw [many_st Qb.out] at Nb
      rw [many_st Qc.out] at Nc
      rw [many_st Qd.out] at Nd
      have s1 := many_sum φ ψ
      have s2 := many_rest φ
      have eb : many (fun e => opB 0 (φ e) (ψ e)) = many (fun e => φ e && ψ e) := many_eq (fun e => rfl)
      have ec : many (fun e => opB 1 (φ e) (ψ e)) = many (fun e => φ e || ψ e) := many_eq (fun e => rfl)
      rw [eb] at Nb
      rw [ec] at Nc
      have lf := many_le φ
      have lg := many_le ψ
      have lb := many_le (fun e => φ e && ψ e)
      have lc := many_le (fun e => φ e || ψ e)
      have ld := many_le (fun e => !φ e)
      have t5 := two_lt
      generalize many φ = nf at *
      generalize many ψ = ng at *
      generalize many (fun e => φ e && ψ e) = nb at *
      generalize many (fun e => φ e || ψ e) = nc at *
      generalize many (fun e => !φ e) = nd at *
      have p4 : (2 : Nat) ^ 105 = 2 ^ 104 + 2 ^ 104 := by decide
      obtain ⟨T, hT⟩ : ∃ T, (2 : Nat) ^ 104 = T := ⟨_, rfl⟩
      have PW := Lib.hid (fun w => spow104 w)
      rw [hT] at PW s2 lf lg lb lc ld p4
      have A1 := Lib.hid (fun w => sadd nb nc (nf + ng) (by omega) (by omega) s1 (by omega) w)
      have A2 := Lib.hid (fun w => sadd nf ng (nf + ng) (by omega) (by omega) rfl (by omega) w)
      have A3 := Lib.hid (fun w => sadd nf nd T (by omega) (by omega) s2 (by omega) w)
      have W1 := Lib.hid (fun w (h : Sta Z p w 262144 ns7) => sWithin_yes h Qb.out Qf.out (fun e he => by have h' : (φ e && ψ e) = true := he; simp at h'; exact h'.1))
      have W2 := Lib.hid (fun w (h : Sta Z p w 262144 ns7) => sWithin_yes h Qf.out Qc.out (fun e he => by show (φ e || ψ e) = true; simp [he]))
      have hbf : b = f ↔ ∀ e, φ e = true → ψ e = true := by
        constructor
        · intro e x hx
          have h1 := Qb.out.2 x
          rw [e, Qf.out.2] at h1
          have h2 : φ x = (φ x && ψ x) := h1
          rw [hx] at h2
          simpa using h2.symm
        · intro h
          refine Qb.out.one WN7.out Qf.out (fun e => ?_)
          show (φ e && ψ e) = φ e
          cases q : φ e with
          | false => rfl
          | true => rw [h e q]; rfl
      have W3 := Lib.hid (fun w (h : Sta Z p w 262144 ns7) => sWithin_is h Qf.out Qg.out (decide (b = f)) (by rw [decide_eq_true_eq]; exact hbf))
      clear s1 s2 lf lg lb lc ld p4 t5 hT hbf Qf Qg Qb Qc Qd eb ec
      obtain ⟨sv, hsv⟩ : ∃ s, nf + ng = s := ⟨_, rfl⟩
      rw [hsv] at A1 A2
      clear hsv HZL hpw hl3 LN5 LN6 LN7 WN4 WN5 WN6 WN7 HB4 HB5 HB6 HB7 h60 hmn hmn1 hfew hfew' hw1 hw2
      as_aux_lemma =>
        go_wp2_with fail
        refine (CA.out w7).mono ?_
        rintro e w8 ⟨rfl, hb⟩
        have S8 := Lib.hid (S7.out.on hb)
        have B8 := Lib.hid (bel_on' B7.out hb)
        clear hb S7 B7
        go_wp2_with fail
        refine (Nb.out w8 S8.out).mono ?_
        rintro e w9 ⟨rfl, hb⟩
        have S9 := Lib.hid (S8.out.on hb)
        have B9 := Lib.hid (bel_on' B8.out hb)
        clear hb S8 B8
        go_wp2_with fail
        refine (Nc.out w9 S9.out).mono ?_
        rintro e w10 ⟨rfl, hb⟩
        have S10 := Lib.hid (S9.out.on hb)
        have B10 := Lib.hid (bel_on' B9.out hb)
        clear hb S9 B9
        go_wp2_with fail
        refine (A1.out w10).mono ?_
        rintro e w11 ⟨rfl, hb⟩
        have S11 := Lib.hid (S10.out.on hb)
        have B11 := Lib.hid (bel_on' B10.out hb)
        clear hb S10 B10
        go_wp2_with fail
        refine (Nf.out w11 S11.out).mono ?_
        rintro e w12 ⟨rfl, hb⟩
        have S12 := Lib.hid (S11.out.on hb)
        have B12 := Lib.hid (bel_on' B11.out hb)
        clear hb S11 B11
        go_wp2_with fail
        refine (Ng.out w12 S12.out).mono ?_
        rintro e w13 ⟨rfl, hb⟩
        have S13 := Lib.hid (S12.out.on hb)
        have B13 := Lib.hid (bel_on' B12.out hb)
        clear hb S12 B12
        go_wp2_with fail
        refine (A2.out w13).mono ?_
        rintro e w14 ⟨rfl, hb⟩
        have S14 := Lib.hid (S13.out.on hb)
        have B14 := Lib.hid (bel_on' B13.out hb)
        clear hb S13 B13
        go_wp2_with fail
        refine (Nf.out w14 S14.out).mono ?_
        rintro e w15 ⟨rfl, hb⟩
        have S15 := Lib.hid (S14.out.on hb)
        have B15 := Lib.hid (bel_on' B14.out hb)
        clear hb S14 B14
        go_wp2_with fail
        refine (Nd.out w15 S15.out).mono ?_
        rintro e w16 ⟨rfl, hb⟩
        have S16 := Lib.hid (S15.out.on hb)
        have B16 := Lib.hid (bel_on' B15.out hb)
        clear hb S15 B15
        go_wp2_with fail
        refine (A3.out w16).mono ?_
        rintro e w17 ⟨rfl, hb⟩
        have S17 := Lib.hid (S16.out.on hb)
        have B17 := Lib.hid (bel_on' B16.out hb)
        clear hb S16 B16
        go_wp2_with fail
        refine (PW.out w17).mono ?_
        rintro e w18 ⟨rfl, hb⟩
        have S18 := Lib.hid (S17.out.on hb)
        have B18 := Lib.hid (bel_on' B17.out hb)
        clear hb S17 B17
        go_wp2_with fail
        refine (W1.out w18 S18.out).mono ?_
        rintro e w19 ⟨rfl, hb⟩
        have S19 := Lib.hid (S18.out.on hb)
        have B19 := Lib.hid (bel_on' B18.out hb)
        clear hb S18 B18
        go_wp2_with fail
        refine (W2.out w19 S19.out).mono ?_
        rintro e w20 ⟨rfl, hb⟩
        have S20 := Lib.hid (S19.out.on hb)
        have B20 := Lib.hid (bel_on' B19.out hb)
        clear hb S19 B19
        clear Nb Nc A1 Nf Ng A2 Nd A3 PW W1 W2
        by_cases hbf : b = f
        · have hbf' : ((b : Int) == (f : Int)) = true := by rw [hbf]; simp
          rw [decide_eq_true hbf] at W3
          go_wp2_with fail
          refine (W3.out w20 S20.out).mono ?_
          rintro e w21 ⟨rfl, hb⟩
          have S21 := Lib.hid (S20.out.on hb)
          have B21 := Lib.hid (bel_on' B20.out hb)
          clear hb S20 B20
          go_wp2
          go_ret
          exact ⟨rfl, B21.out⟩
        · have hbf' : ((b : Int) == (f : Int)) = false := beq_eq_false_iff_ne.2 (by omega)
          rw [decide_eq_false hbf] at W3
          go_wp2_with fail
          refine (W3.out w20 S20.out).mono ?_
          rintro e w21 ⟨rfl, hb⟩
          have S21 := Lib.hid (S20.out.on hb)
          have B21 := Lib.hid (bel_on' B20.out hb)
          clear hb S20 B20
          go_wp2
          go_ret
          exact ⟨rfl, B21.out⟩
end Go.Proofs.Yteiemcnjcdjglaa
/- Expressions and small numbers that are handed in. -/
namespace Go.Proofs.Yteiemcnjcdjglaa
open Go.ChangeShapes Go.WideShapes Go.ChangeAt Go.RowKit Go.Joins Go.Deep Go.WideElems Go.Maps

set_option maxRecDepth 100000 in
theorem exs_open' {H : Type} {enc : TypeId × Value → H} {w : World} {sp : Nat → Bool} {held : Bool} {b0 : Nat} {v : Value} {d : DataW H} {p : List MemPlace} (hv : Value.okWide Try.prog w .any b0 22 v) (h : DataW.Trod enc Try.prog w 0 sp held 22 v d p) : ∃ L la lc, Exs w v L la lc := by
  obtain ⟨a, len, cap, rfl⟩ := okWide_slice Try.underlying22 hv
  exact exs_open h ⟨_, by simp [Value.cells], rfl⟩
theorem nat_u8 {x : Int} (h : (Lit.int .u8 x).wf = true) : ∃ i : Nat, i < 256 ∧ x = (i : Nat) := by
  rw [Lit.wf, Bool.and_eq_true, decide_eq_true_eq, decide_eq_true_eq, show IntKind.u8.min = 0 from rfl, show IntKind.u8.max = 255 from rfl] at h
  exact ⟨x.toNat, by omega, by omega⟩
end Go.Proofs.Yteiemcnjcdjglaa
