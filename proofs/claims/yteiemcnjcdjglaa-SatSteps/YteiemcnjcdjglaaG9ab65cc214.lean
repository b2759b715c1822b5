/- Texts joined, in their order: SX, SY, SM, SL. -/
import Derived.Test.YteiemcnjcdjglaaGSW
import Derived.Test.YteiemcnjcdjglaaG2817d68fa6
import Derived.Test.YteiemcnjcdjglaaGfe77df2618
import Derived.Test.YteiemcnjcdjglaaG99bdff5f4b
import Derived.Test.YteiemcnjcdjglaaGe274724a83
import Derived.Laws.OwnMore
/- Whether all of a set is another one's: the calls' contracts. -/
namespace Go.Proofs.Yteiemcnjcdjglaa
open Go.RowKit Go.Maps Go.MapKept Go.ChangeMaps Go.WideElems Go.Joins
set_option linter.unusedVariables false
set_option linter.unusedSimpArgs false

theorem nbeq {a b : Nat} (h : a ≠ b) : ((a : Int) == (b : Int)) = false := beq_eq_false_iff_ne.2 (by omega)
theorem PairOk.lt {ns : List Nd} {p : Nat × Nat} (h : PairOk ns p) : p.1 < ns.length ∧ p.2 < ns.length := ⟨h.1, h.2.1⟩
theorem swithin_f (p most db : Nat) (ns : List Nd) (hlen : ns.length ≤ 262144) : ∀ (k : Nat) (ks : List (Nat × Nat)) (c f g : Nat) (w : World), f < ns.length → g < ns.length → 105 ≤ k + min (lv ns f) (lv ns g) → Bs p most db w.heap.size ns w → MetP w db ks c → ks.Nodup → (∀ x ∈ ks, PairOk ns x) → c + 1 + 2 * (ns.length * ns.length - ks.length) ≤ 900000000000 →
    Calls Try.prog 50 #[.pointer (some ⟨p, 0, none⟩), .agg #[.int .i64 (f : Nat), .int .i64 (g : Nat)], .map (some db)] w fun e w' => e = .returned (.bool (wiF ns k ks c f g).1) ∧ MetP w' db (wiF ns k ks c f g).2.1 (wiF ns k ks c f g).2.2 ∧ Keep (fun i => i = db) w w' := by
  intro k
  induction k with
  | zero => intro ks c f g w hf hg hk hB; have := lv_le hB.sta.wf (f := f); omega
  | succ k ih =>
    intro ks c f g w hf hg hk hB hM hn hx hc
    have hw := hB.sta.wf
    have W_ := wiF_ok hw (k + 1) ks c f g hf hg hk
    unfold wiF at W_ ⊢
    by_cases t1 : f = 0 ∨ g = 1 ∨ f = g
    · rw [if_pos t1]
      have fin : ∀ (e : Ending) (w' : World), (e = .returned (.bool true) ∧ Below w.heap.size w w') → (e = .returned (.bool true) ∧ MetP w' db ks c ∧ Keep (fun i => i = db) w w') := fun e w' q => ⟨q.1, hM.on q.2, Keep.of q.2⟩
      by_cases h1 : f = 0
      · exact (within_t1 _ f g db h1 w).mono fin
      by_cases h2 : g = 1
      · exact (within_t2 _ f g db (nbeq h1) h2 w).mono fin
      have h3 : g = f := by omega
      exact (within_t3 _ f g db (nbeq h1) (by rw [h3] at h2; exact nbeq h2) h3 w).mono fin
    rw [if_neg t1] at W_ ⊢
    have n1 : f ≠ 0 := fun e => t1 (Or.inl e)
    have n2 : g ≠ 1 := fun e => t1 (Or.inr (Or.inl e))
    have n3 : f ≠ g := fun e => t1 (Or.inr (Or.inr e))
    by_cases t2 : f = 1 ∨ g = 0
    · rw [if_pos t2]
      have fin : ∀ (e : Ending) (w' : World), (e = .returned (.bool false) ∧ Below w.heap.size w w') → (e = .returned (.bool false) ∧ MetP w' db ks c ∧ Keep (fun i => i = db) w w') := fun e w' q => ⟨q.1, hM.on q.2, Keep.of q.2⟩
      by_cases h1 : f = 1
      · exact (within_n1 _ f g db (nbeq n2) (by rw [h1] at n3; exact nbeq n3) h1 w).mono fin
      have h2 : g = 0 := by omega
      exact (within_n2 _ f g db (nbeq n1) (nbeq h1) h2 w).mono fin
    rw [if_neg t2] at W_ ⊢
    have n4 : f ≠ 1 := fun e => t2 (Or.inl e)
    have n5 : g ≠ 0 := fun e => t2 (Or.inr e)
    obtain ⟨l, hkey⟩ := key_w2 (f, g) (by show f ≤ _; omega) (by show g ≤ _; omega)
    obtain ⟨m, hm, hv⟩ := hM
    have hfew := hv.few
    have hfk := few_pairs hn (fun x q => (hx x q).lt)
    have hsq : ns.length * ns.length ≤ 262144 * 262144 := Nat.mul_le_mul hlen hlen
    have ukv : wkv (f, g) = .agg #[.int .i64 (f : Nat), .int .i64 (g : Nat)] := rfl
    by_cases t3 : (f, g) ∈ ks
    · rw [if_pos t3]
      obtain ⟨⟨fg, u⟩, hp, e⟩ := List.mem_map.1 ((hv.key (f, g)).2 t3)
      simp only at e
      subst e
      have hu := hv.val _ hp
      simp only at hu
      refine (within_known _ f g db w u (by omega) (by omega) (nbeq n1) (nbeq n2) (nbeq n3) (nbeq n4) (nbeq n5) (fun w' => MapV Try.prog 94 wkv ikv w' db m) (fun w' => MetP w' db ks (c + 1)) (Lib.hid (fun _ _ h hb => h.on hb)) (Lib.hid hm) (Lib.hid hB.dlt) (Lib.hid (fun w' h => ?_))).mono ?_
      · have l1 := mapV_some keyedW2 Try.underlying95 zeroInt wkv_inj false h hkey hp hv.one
        obtain ⟨st, w1, w2, k1, k2, k3, k4, k5, k6⟩ := mapV_entry (m' := putP m (f, g) (u + 1)) (v := u + 1) lawW2 Try.underlying95 zeroInt wkv_inj h hkey hv.one (Or.inl hp) (by unfold maxLen; omega) (fun p => putP_mem p)
        have l2 := mapV_some keyedW2 Try.underlying95 zeroInt wkv_inj false k4 hkey ((putP_mem _).2 (Or.inl rfl)) (putP_one hv.one)
        exact ⟨l1, st, w1, w2, k1, k2, k3, ⟨_, k4, hv.put (f, g) (u + 1) (by omega) (by omega) (fun k => ⟨Or.inr, fun s => s.elim (fun e => by rw [e]; exact t3) id⟩)⟩, k5, k6, l2⟩
      · rintro e w' ⟨rfl, h1, h2⟩
        exact ⟨rfl, h1, h2⟩
    rw [if_neg t3] at W_ ⊢
    have hp : PairOk ns (f, g) := ⟨hf, hg, t1, n4, n5⟩
    have hl := hp.lv hw
    obtain ⟨i, hi⟩ : ∃ i, min (lv ns f) (lv ns g) = i := ⟨_, rfl⟩
    simp only [hi] at W_ ⊢
    rw [hi] at hl hk
    have a0 := pt_ok hw hf (i := i) (by omega) hl false
    have a1 := pt_ok hw hf (i := i) (by omega) hl true
    have b0 := pt_ok hw hg (i := i) (by omega) hl false
    have b1 := pt_ok hw hg (i := i) (by omega) hl true
    simp only [sd, Bool.false_eq_true, if_false, if_true] at a0 a1 b0 b1
    have hn1 : ((f, g) :: ks).Nodup := List.nodup_cons.2 ⟨t3, hn⟩
    have hx1 : ∀ x ∈ (f, g) :: ks, PairOk ns x := fun x q => by rcases List.mem_cons.1 q with rfl | q; exact hp; exact hx x q
    have A := wiF_ok hw k ((f, g) :: ks) (c + 1) (ptF ns f i).1 (ptF ns g i).1 a0.1 b0.1 (by omega)
    have cA := fun (w' : World) (h : Bs p most db w.heap.size ns w' ∧ MetP w' db ((f, g) :: ks) (c + 1)) => ih ((f, g) :: ks) (c + 1) (ptF ns f i).1 (ptF ns g i).1 w' a0.1 b0.1 (by omega) h.1.here h.2 hn1 hx1 (by simp only [List.length_cons]; have := few_pairs hn1 (fun x q => (hx1 x q).lt); simp only [List.length_cons] at this; omega)
    obtain ⟨R, hR⟩ : ∃ R, wiF ns k ((f, g) :: ks) (c + 1) (ptF ns f i).1 (ptF ns g i).1 = R := ⟨_, rfl⟩
    simp only [hR] at A cA ⊢
    have A1 := A.one hn1
    have A2 := A.ok hx1
    have A3 := A.len
    have A4 := A.cnt
    have A5 := few_pairs A1 (fun x q => (A2 x q).lt)
    simp only [List.length_cons] at A3 A4
    obtain ⟨T, hT⟩ : ∃ T, wiF ns k R.2.1 R.2.2 (ptF ns f i).2 (ptF ns g i).2 = T := ⟨_, rfl⟩
    have cB := fun (w' : World) (h : Bs p most db w.heap.size ns w' ∧ MetP w' db R.2.1 R.2.2) => ih R.2.1 R.2.2 (ptF ns f i).2 (ptF ns g i).2 w' a1.1 b1.1 (by omega) h.1.here h.2 A1 A2 (by omega)
    simp only [hT] at cB ⊢
    have LK : Hid (∀ w', (Bs p most db w.heap.size ns w' ∧ MapV Try.prog 94 wkv ikv w' db m) → _) := Lib.hid (fun w' h => by
      have hno : (f, g) ∉ m.map (·.1) := fun e => t3 ((hv.key _).1 e)
      have l1 := mapV_none keyedW2 Try.underlying95 zeroInt wkv_inj false h.2 hkey hno
      obtain ⟨st, w1, w2, k1, k2, k3, k4, k5, k6⟩ := mapV_entry (m' := putP m (f, g) 1) (u := 0) (v := 1) lawW2 Try.underlying95 zeroInt wkv_inj h.2 hkey hv.one (Or.inr ⟨hno, rfl⟩) (by unfold maxLen; omega) (fun p => putP_mem p)
      have l2 := mapV_some keyedW2 Try.underlying95 zeroInt wkv_inj false k4 hkey ((putP_mem _).2 (Or.inl rfl)) (putP_one hv.one)
      have hq : Bs p most db w.heap.size ns w2 ∧ MetP w2 db ((f, g) :: ks) (c + 1) := ⟨h.1.kept ((Keep.refl _ _).only k6 (fun _ => rfl)), _, k4, hv.put (f, g) 1 (by omega) (by omega) (fun k => List.mem_cons)⟩
      exact (⟨l1, st, w1, w2, k1, k2, k3, hq, k5, k6, l2⟩ : (Instr.lookup 95 (.map (some db)) (.agg #[.int .i64 (f : Nat), .int .i64 (g : Nat)]) false).run Try.prog w' = .ok (.int .i64 0) w' ∧ ∃ (st : Nat) (w1 w2 : World), (Instr.mapEntry 95 (.map (some db)) (.agg #[.int .i64 (f : Nat), .int .i64 (g : Nat)])).run Try.prog w' = .ok (.tuple #[.int .i64 0, .int .i64 (st : Nat)]) w1 ∧ (Instr.lookup 95 (.map (some db)) (.agg #[.int .i64 (f : Nat), .int .i64 (g : Nat)]) false).run Try.prog w1 = .ok (.int .i64 0) w1 ∧ (Instr.entryStore 95 (.map (some db)) (.int .i64 (st : Nat)) (.int .i64 1)).run Try.prog w1 = .ok () w2 ∧ (Bs p most db w.heap.size ns w2 ∧ MetP w2 db ((f, g) :: ks) (c + 1)) ∧ Only db w' w1 ∧ Only db w' w2 ∧ (Instr.lookup 95 (.map (some db)) (.agg #[.int .i64 (f : Nat), .int .i64 (g : Nat)]) false).run Try.prog w2 = .ok (.int .i64 1) w2))
    have C1 : Hid (∀ w', (Bs p most db w.heap.size ns w' ∧ MetP w' db ((f, g) :: ks) (c + 1)) → _) := Lib.hid (fun w' h => slevel h.1.sta f hf)
    have C2 : Hid (∀ w', (Bs p most db w.heap.size ns w' ∧ MetP w' db ((f, g) :: ks) (c + 1)) → _) := Lib.hid (fun w' h => slevel h.1.sta g hg)
    have C3 : Hid (∀ w', (Bs p most db w.heap.size ns w' ∧ MetP w' db ((f, g) :: ks) (c + 1)) → _) := Lib.hid (fun w' h => sparts h.1.sta f i hf)
    have C4 : Hid (∀ w', (Bs p most db w.heap.size ns w' ∧ MetP w' db ((f, g) :: ks) (c + 1)) → _) := Lib.hid (fun w' h => sparts h.1.sta g i hg)
    have D1 : Hid (∀ w', (Bs p most db w.heap.size ns w' ∧ MetP w' db ((f, g) :: ks) (c + 1)) → Calls Try.prog 50 #[.pointer (some ⟨p, 0, none⟩), .agg #[.int .i64 ((ptF ns f i).1 : Nat), .int .i64 ((ptF ns g i).1 : Nat)], .map (some db)] w' fun e w'' => e = .returned (.bool R.1) ∧ (Bs p most db w.heap.size ns w'' ∧ MetP w'' db R.2.1 R.2.2) ∧ Keep (fun i => i = db) w' w'') := Lib.hid (fun w' h => (cA w' h).mono (by rintro e w'' ⟨rfl, h1, h2⟩; exact ⟨rfl, ⟨h.1.kept h2, h1⟩, h2⟩))
    have D2 : Hid (R.1 = true → ∀ w', (Bs p most db w.heap.size ns w' ∧ MetP w' db R.2.1 R.2.2) → Calls Try.prog 50 #[.pointer (some ⟨p, 0, none⟩), .agg #[.int .i64 ((ptF ns f i).2 : Nat), .int .i64 ((ptF ns g i).2 : Nat)], .map (some db)] w' fun e w'' => e = .returned (.bool T.1) ∧ MetP w'' db T.2.1 T.2.2 ∧ Keep (fun i => i = db) w' w'') := Lib.hid (fun _ w' h => cB w' h)
    have fin : ∀ (e : Ending) (w' : World), (e = .returned (.bool (R.1 && T.1)) ∧ Keep (fun i => i = db) w w' ∧ (R.1 = false → Bs p most db w.heap.size ns w' ∧ MetP w' db R.2.1 R.2.2) ∧ (R.1 = true → MetP w' db T.2.1 T.2.2)) → (e = .returned (.bool (if R.1 = true then T else R).1) ∧ MetP w' db (if R.1 = true then T else R).2.1 (if R.1 = true then T else R).2.2 ∧ Keep (fun i => i = db) w w') := fun e w' q => by
      obtain ⟨q1, q2, q3, q4⟩ := q
      cases h : R.1 with
      | false => rw [h] at q1; simp only [Bool.false_eq_true, if_false, h]; exact ⟨q1, (q3 h).2, q2⟩
      | true => rw [h] at q1; simp only [if_true]; exact ⟨q1, q4 h, q2⟩
    by_cases hab : lv ns f ≤ lv ns g
    · exact (within_new1 _ f g db w (lv ns f) (lv ns g) i _ _ _ _ R.1 T.1 _ _ (by omega) (by omega) (nbeq n1) (nbeq n2) (nbeq n3) (nbeq n4) (nbeq n5) _ _ (Lib.hid (fun _ _ h hb => ⟨h.1.on hb, h.2.on hb⟩)) (Lib.hid ⟨hB, hm⟩) (Lib.hid hB.dlt) LK (Lib.hid (fun _ _ h hb => ⟨h.1.on hb, h.2.on hb⟩)) (Lib.hid (fun _ _ h hb => ⟨h.1.on hb, h.2.on hb⟩)) C1 C2 C3 C4 D1 D2).mono fin
    · exact (within_new2 _ f g db w (lv ns f) (lv ns g) i _ _ _ _ R.1 T.1 _ _ (by omega) (by omega) (nbeq n1) (nbeq n2) (nbeq n3) (nbeq n4) (nbeq n5) _ _ (Lib.hid (fun _ _ h hb => ⟨h.1.on hb, h.2.on hb⟩)) (Lib.hid ⟨hB, hm⟩) (Lib.hid hB.dlt) LK (Lib.hid (fun _ _ h hb => ⟨h.1.on hb, h.2.on hb⟩)) (Lib.hid (fun _ _ h hb => ⟨h.1.on hb, h.2.on hb⟩)) C1 C2 C3 C4 D1 D2).mono fin
set_option maxRecDepth 100000 in
set_option maxHeartbeats 1000000 in
theorem within_core (p : Value) (f g : Nat) (r : Bool) (W : World) (C1 : Hid (Calls Try.prog 29 #[p, .int .i64 (f : Nat)] W fun e w' => e = .returned (.bool true) ∧ W = w')) (C2 : Hid (Calls Try.prog 29 #[p, .int .i64 (g : Nat)] W fun e w' => e = .returned (.bool true) ∧ W = w'))
    (C3 : Hid (Calls Try.prog 50 #[p, .agg #[.int .i64 (f : Nat), .int .i64 (g : Nat)], .map (some W.heap.size)] (W.alloc (.map #[] 0)) fun e w' => e = .returned (.bool r) ∧ Below W.heap.size W w')) :
    Calls Try.prog 22 #[p, .int .i64 (f : Nat), .int .i64 (g : Nat)] W fun e w' => e = .returned (.bool r) ∧ Below W.heap.size W w' := by
  have hmm := @run_makeMap Try.prog
  go_enter Try.func22, Try.ntmps22
  go_wp2_with fail
  refine C1.out.mono ?_
  rintro e w' ⟨rfl, rfl⟩
  go_wp2_with fail
  refine C2.out.mono ?_
  rintro e w' ⟨rfl, rfl⟩
  go_wp2_with fail
  refine C3.out.mono ?_
  rintro e w' ⟨rfl, hb⟩
  have B := Lib.hid hb
  clear hb C1 C2 C3
  go_wp2
  go_ret
  exact ⟨rfl, B.out⟩
theorem sWithin {Z : Nat → Prop} {p most : Nat} {W : World} {ns : List Nd} (h : Sta Z p W most ns) (f g : Nat) (hf : f < ns.length) (hg : g < ns.length) :
    ∃ r, (r = true ↔ Sub ns f g) ∧ Calls Try.prog 22 #[.pointer (some ⟨p, 0, none⟩), .int .i64 (f : Nat), .int .i64 (g : Nat)] W fun e w' => e = .returned (.bool r) ∧ Below W.heap.size W w' := by
  refine ⟨(wiF ns 105 [] 0 f g).1, wi_any h.wf hf hg, within_core _ f g _ W (Lib.hid ?_) (Lib.hid ?_) (Lib.hid ?_)⟩
  · have := sHas h f; rw [hasB_lt hf] at this; exact this
  · have := sHas h g; rw [hasB_lt hg] at this; exact this
  · have hl := h.len
    have hsq : ns.length * ns.length ≤ 262144 * 262144 := Nat.mul_le_mul hl hl
    refine (swithin_f p most W.heap.size ns hl 105 [] 0 f g _ hf hg (by omega) (Bs.of h (Below.refl _ _)).here ⟨[], MapV.made W, ⟨fun k => by simp, List.nodup_nil, fun p hp => (by cases hp)⟩⟩ List.nodup_nil (fun x hx => by cases hx) (by simp only [List.length_nil]; omega)).mono ?_
    rintro e w' ⟨rfl, -, hk⟩
    exact ⟨rfl, al_kept (Below.refl _ _) hk⟩
end Go.Proofs.Yteiemcnjcdjglaa
/- Sums of sets' counts; what is within what: for SatSums. -/
namespace Go.Proofs.Yteiemcnjcdjglaa
open Go.RowKit Wd
set_option linter.unusedVariables false
set_option linter.unusedSimpArgs false

theorem many_lt (φ : (Nat → Bool) → Bool) : many φ < MM := lt_MM (many_le φ) (by omega)
theorem many_st {ns : List Nd} {q : Nat} {φ : Env → Bool} (h : St ns q φ) : many (fun e => ev ns e q) = many φ := many_eq h.2
theorem many_sum (φ ψ : (Nat → Bool) → Bool) : many (fun e => φ e && ψ e) + many (fun e => φ e || ψ e) = many φ + many ψ := kd_add φ ψ 104 _
theorem many_rest (φ : (Nat → Bool) → Bool) : many φ + many (fun e => !φ e) = 2 ^ 104 := kd_not φ 104 _
theorem sadd (a b s : Nat) (ha : a < MM) (hb : b < MM) (h : a + b = s) (hs : s < MM) (w : World) : Calls Try.prog 20 #[cn a, cn b] w fun e w' => e = .returned (cn s) ∧ Below w.heap.size w w' := by
  have := Wd.add_any a b ha hb w
  rw [h, Nat.mod_eq_of_lt hs] at this
  exact this
theorem two_lt : 2 ^ 105 < MM := by decide
theorem spow104 (w : World) : Calls Try.prog 21 #[.int .i64 104] w fun e w' => e = .returned (cn (2 ^ 104)) ∧ Below w.heap.size w w' := by
  have := Wd.pow_any ((104 : Nat) : Int) w
  rw [upI_in 1 104 (by omega), up_pow 104 (by omega)] at this
  exact this
section
variable {Z : Nat → Prop} {p most : Nat} {W : World} {ns : List Nd} {f g : Nat} {φ ψ : Env → Bool}
theorem sWithin_yes (h : Sta Z p W most ns) (hf : St ns f φ) (hg : St ns g ψ) (hs : ∀ e, φ e = true → ψ e = true) :
    Calls Try.prog 22 #[.pointer (some ⟨p, 0, none⟩), .int .i64 (f : Nat), .int .i64 (g : Nat)] W fun e w' => e = .returned (.bool true) ∧ Below W.heap.size W w' := by
  obtain ⟨r, h1, h2⟩ := sWithin h f g hf.1 hg.1
  have : r = true := h1.2 (fun e he => by rw [hg.2]; exact hs e (by rw [← hf.2]; exact he))
  rw [this] at h2
  exact h2
theorem sWithin_is (h : Sta Z p W most ns) (hf : St ns f φ) (hg : St ns g ψ) (x : Bool) (hs : x = true ↔ ∀ e, φ e = true → ψ e = true) :
    Calls Try.prog 22 #[.pointer (some ⟨p, 0, none⟩), .int .i64 (f : Nat), .int .i64 (g : Nat)] W fun e w' => e = .returned (.bool x) ∧ Below W.heap.size W w' := by
  obtain ⟨r, h1, h2⟩ := sWithin h f g hf.1 hg.1
  have e1 : r = true ↔ x = true := by
    rw [h1, hs]
    exact ⟨fun q e he => by have := q e (by rw [hf.2]; exact he); rwa [hg.2] at this, fun q e he => by rw [hg.2]; exact q e (by rw [← hf.2]; exact he)⟩
  have : r = x := by cases r <;> cases x <;> simp at e1 ⊢
  rw [this] at h2
  exact h2
end
end Go.Proofs.Yteiemcnjcdjglaa
/- Nodes of sets, by what is reached; numbers that are no set's. -/
namespace Go.Proofs.Yteiemcnjcdjglaa
open Go.RowKit
set_option linter.unusedVariables false
set_option linter.unusedSimpArgs false

theorem mt_more {ns : List Nd} (h : WF ns) : ∀ (fs pre m : List Nat), Mt ns pre m → (∀ f ∈ fs, f < ns.length) → ∃ m', Mt ns (pre ++ fs) m'
  | [], pre, m, hm, _ => ⟨m, by rw [List.append_nil]; exact hm⟩
  | f :: r, pre, m, hm, hf => by
    obtain ⟨m', hm'⟩ := mt_more h r (pre ++ [f]) _ (hm.step h (hf f (List.mem_cons_self ..)) (f + 1) 0 (by omega)) (fun x hx => hf x (List.mem_cons_of_mem _ hx))
    exact ⟨m', by rw [List.append_assoc] at hm'; exact hm'⟩
theorem mt_any {ns : List Nd} (h : WF ns) (fs : List Nat) (hf : ∀ f ∈ fs, f < ns.length) : ∃ m, Mt ns fs m := mt_more h fs [] [] (Mt.nil ns) hf
section
variable {Z : Nat → Prop} {p most : Nat} {W : World} {ns : List Nd}
/-- Nodes of one set, of two: the sets stand in a new row. -/
theorem sNodes1 (h : Sta Z p W most ns) {f : Nat} (hf : f < ns.length) {m : List Nat} (hm : Mt ns [f] m) (cap : Nat) :
    Calls Try.prog 27 #[.pointer (some ⟨p, 0, none⟩), .slice (some ⟨W.heap.size, 0, none⟩) 1 cap] (W.alloc (.cells #[.int .i64 (f : Nat)] 3)) fun e w' => e = .returned (.int .i64 (m.length : Nat)) ∧ Below W.heap.size W w' := by
  obtain ⟨N, ⟨m', h1, rfl⟩, hc⟩ := sNodes (h.on (bel_al (Below.refl _ _) (.cells #[.int .i64 (f : Nat)] 3))) [f] (fun x hx => by rw [List.mem_singleton.1 hx]; exact hf) (by simp) W.heap.size cap (fun i hi => by
    have : i = 0 := by simpa using hi
    subst this
    simp [go_sem]) (fun _ => by simp)
  rw [h1.same hm (fun _ => Iff.rfl)] at hc
  exact hc.mono (fun e w' q => ⟨q.1, bel_on' (bel_al (Below.refl _ _) _) q.2⟩)
theorem sNodes2 (h : Sta Z p W most ns) {f g : Nat} (hf : f < ns.length) (hg : g < ns.length) {m : List Nat} (hm : Mt ns [f, g] m) (cap : Nat) :
    Calls Try.prog 27 #[.pointer (some ⟨p, 0, none⟩), .slice (some ⟨W.heap.size, 0, none⟩) 2 cap] (W.alloc (.cells #[.int .i64 (f : Nat), .int .i64 (g : Nat)] 3)) fun e w' => e = .returned (.int .i64 (m.length : Nat)) ∧ Below W.heap.size W w' := by
  obtain ⟨N, ⟨m', h1, rfl⟩, hc⟩ := sNodes (h.on (bel_al (Below.refl _ _) (.cells #[.int .i64 (f : Nat), .int .i64 (g : Nat)] 3))) [f, g] (fun x hx => by
    rcases List.mem_cons.1 hx with rfl | hx
    · exact hf
    · rw [List.mem_singleton.1 hx]; exact hg) (by simp) W.heap.size cap (fun i hi => by
    have : i = 0 ∨ i = 1 := by simp at hi; omega
    rcases this with rfl | rfl <;> simp [go_sem]) (fun _ => by simp)
  rw [h1.same hm (fun _ => Iff.rfl)] at hc
  exact hc.mono (fun e w' q => ⟨q.1, bel_on' (bel_al (Below.refl _ _) _) q.2⟩)
/-- Of a number that visits pass by: none. -/
theorem nodes_zero (p : Value) (f : Int) (W : World) (cap : Nat) (HV : ∀ w m, Below W.heap.size W w → Calls Try.prog 54 #[p, .int .i64 f, m] w fun e w' => e = .returned (.tuple #[]) ∧ w = w') :
    Calls Try.prog 27 #[p, .slice (some ⟨W.heap.size, 0, none⟩) 1 cap] (W.alloc (.cells #[.int .i64 f] 3)) fun e w' => e = .returned (.int .i64 0) ∧ Below W.heap.size W w' := by
  refine (nodes_core p (fun _ => f) 1 W.heap.size cap 0 (by omega) (fun db k w => Met w db [] 0 ∧ Below W.heap.size W w) (W.alloc (.cells #[.int .i64 f] 3)) (Lib.hid (fun i hi => ?_)) (Lib.hid (fun _ => by simp)) (Lib.hid (fun w1 hb => ?_)) (Lib.hid (fun db k w hk hq => ?_)) (Lib.hid (fun db w hq ty => ?_))).mono (fun e w' q => ⟨q.1, bel_on' (bel_al (Below.refl _ _) _) q.2⟩)
  · have : i = 0 := by omega
    subst this
    simp [go_sem]
  · exact ⟨⟨[], MapV.made w1, ⟨fun k => by simp, List.nodup_nil, fun p hp => (by cases hp)⟩⟩, bel_al (bel_on' (bel_al (Below.refl _ _) _) hb) _⟩
  · refine (HV w _ hq.2).mono ?_
    rintro e w' ⟨rfl, rfl⟩
    exact ⟨rfl, hq, Keep.refl _ _⟩
  · obtain ⟨m, hm, hv⟩ := hq.1
    have := mapV_len Try.underlying101 ikv_inj hm hv.one ty
    rw [hv.same List.nodup_nil] at this
    exact this
theorem sNodes_not (h : Sta Z p W most ns) (f : Int) (hf : hasB ns.length f = false) (cap : Nat) :
    Calls Try.prog 27 #[.pointer (some ⟨p, 0, none⟩), .slice (some ⟨W.heap.size, 0, none⟩) 1 cap] (W.alloc (.cells #[.int .i64 f] 3)) fun e w' => e = .returned (.int .i64 0) ∧ Below W.heap.size W w' :=
  nodes_zero _ f W cap (fun w m hb => visit_not _ m f w (Lib.hid (by have := sHas (h.on hb) f; rw [hf] at this; exact this)))
theorem nodes_nil (p : Value) (W : World) (cap : Nat) :
    Calls Try.prog 27 #[p, .slice (some ⟨W.heap.size, 0, none⟩) 1 cap] (W.alloc (.cells #[.int .i64 1] 3)) fun e w' => e = .returned (.int .i64 0) ∧ Below W.heap.size W w' :=
  nodes_zero _ 1 W cap (fun w m _ => visit_end _ m 1 (by omega) w)
end
set_option maxRecDepth 100000 in
theorem within_no (p : Value) (f g : Int) (x : Bool) (W : World) (C1 : Hid (Calls Try.prog 29 #[p, .int .i64 f] W fun e w' => e = .returned (.bool x) ∧ W = w')) (C2 : Hid (x = true → Calls Try.prog 29 #[p, .int .i64 g] W fun e w' => e = .returned (.bool false) ∧ W = w')) :
    Calls Try.prog 22 #[p, .int .i64 f, .int .i64 g] W fun e w' => e = .returned (.bool false) ∧ W = w' := by
  go_enter Try.func22, Try.ntmps22
  go_wp2_with fail
  refine C1.out.mono ?_
  rintro e w' ⟨rfl, rfl⟩
  cases x with
  | false =>
    clear C1 C2
    go_wp2
    go_ret
    exact ⟨rfl, rfl⟩
  | true =>
    have C3 := Lib.hid (C2.out rfl)
    clear C1 C2
    go_wp2_with fail
    refine C3.out.mono ?_
    rintro e w' ⟨rfl, rfl⟩
    clear C3
    go_wp2
    go_ret
    exact ⟨rfl, rfl⟩
/-- A number that is no set's, on either side. -/
theorem sWithin_not {Z : Nat → Prop} {p most : Nat} {W : World} {ns : List Nd} (h : Sta Z p W most ns) (f g : Int) (hf : hasB ns.length f = true → hasB ns.length g = false) :
    Calls Try.prog 22 #[.pointer (some ⟨p, 0, none⟩), .int .i64 f, .int .i64 g] W fun e w' => e = .returned (.bool false) ∧ W = w' :=
  within_no _ f g _ W (Lib.hid (sHas h f)) (Lib.hid (fun q => by have := sHas h g; rw [hf q] at this; exact this))
end Go.Proofs.Yteiemcnjcdjglaa
/- Rows of bits that a cube is made of (out of enc, typed by gen/mksl.py). -/
namespace Go.Proofs.Yteiemcnjcdjglaa
open Go.RowKit
set_option linter.unusedVariables false
set_option linter.unusedSimpArgs false

/-- The cells of bits. -/
def litCells (l : List (Int × Bool)) : List Value := l.flatMap fun p => [.int .i64 p.1, .bool p.2]
theorem litCells_append (a b : List (Int × Bool)) : litCells (a ++ b) = litCells a ++ litCells b := by unfold litCells; rw [List.flatMap_append]
theorem litCells_get : ∀ (L : List (Int × Bool)) (i : Nat) (x : Int × Bool), L[i]? = some x → (litCells L)[i * 2]? = some (.int .i64 x.1) ∧ (litCells L)[i * 2 + 1]? = some (.bool x.2)
  | [], i, x, h => by simp at h
  | y :: r, 0, x, h => by simp at h; subst h; simp [litCells]
  | y :: r, i + 1, x, h => by
    have := litCells_get r i x (by simpa using h)
    rw [show (i + 1) * 2 = i * 2 + 1 + 1 by omega, show i * 2 + 1 + 1 + 1 = (i * 2 + 1) + 1 + 1 by omega]
    simpa [litCells] using this
theorem natL_append (a b : List (Nat × Bool)) : natL (a ++ b) = natL a ++ natL b := by simp [natL]
/-- What lies in a row lies as bits. -/
theorem litC_of {w : World} {base : Nat} {v : Value} {l : List (Int × Bool)} {n : Nat} (h : w.ownsRow base 65 2 v n (litCells l)) (hn : n = l.length) (h0 : 0 < n) : ∃ g cap, v = .slice (some ⟨g, 0, none⟩) n cap ∧ base ≤ g ∧ g < w.heap.size ∧ LitC w g l := by
  subst hn
  rcases h.2 with ⟨e, q⟩ | ⟨g, cap, cur, e, q1, q2, q3⟩
  · omega
  · refine ⟨g, cap, e, q1, ?_, fun i x hx => ?_⟩
    · rcases Nat.lt_or_ge g w.heap.size with r | r
      · exact r
      · rw [Array.getElem?_eq_none r] at q2; cases q2
    · subst e
      have hi := lt_of_get hx
      obtain ⟨c1, c2⟩ := litCells_get l i x hx
      exact ⟨(World.ownsRow.cellAt h (i * 2) (by omega)).trans c1, (World.ownsRow.cellAt h (i * 2 + 1) (by omega)).trans c2⟩
theorem erow_on {w w' : World} {base : Nat} {t : TypeId} {sz n : Nat} {v : Value} {xs : List Value} (h : w.ownsRow base t sz v n xs) (hb : Below w.heap.size w w') : w'.ownsRow base t sz v n xs := by
  refine ⟨h.1, ?_⟩
  rcases h.2 with q | ⟨g, cap, cur, e, q1, q2, q3⟩
  · exact Or.inl q
  · have hg : g < w.heap.size := by
      rcases Nat.lt_or_ge g w.heap.size with r | r
      · exact r
      · rw [Array.getElem?_eq_none r] at q2; cases q2
    exact Or.inr ⟨g, cap, cur, e, q1, (hb.block g hg).trans q2, q3⟩
theorem erow_drew {w : World} {base : Nat} {t : TypeId} {sz n : Nat} {v : Value} {xs : List Value} (h : w.ownsRow base t sz v n xs) : w.drew.ownsRow base t sz v n xs := h
theorem infoLit : (Try.prog.info? 65).map (fun i => (i.zero, i.size, i.bytes)) = some (some (.agg #[.int .i64 0, .bool false]), 2, 16) := by kernel_rfl
theorem einfo_parts {o : Option TypeInfo} {z : Option Value} {s b : Nat} (h : o.map (fun i => (i.zero, i.size, i.bytes)) = some (z, s, b)) : ∃ i, o = some i ∧ i.zero = z ∧ i.size = s ∧ i.bytes = b := by
  cases o with
  | none => cases h
  | some i => simp at h; exact ⟨i, rfl, h.1, h.2.1, h.2.2⟩
set_option maxHeartbeats 1000000 in
theorem cube_none (a : AL) (most : Nat) (ns : List Nd) (w : World) (h : Ar w a most ns) :
    Calls Try.prog 58 #[.pointer (some ⟨a.p, 0, none⟩), .slice none 0 0] w (Ans most (some 1, ns) w a) := by
  unfold Ans
  go_enter Try.func58, Try.ntmps58
  go_wp2_with fail
  go_loopw [6, 7] (fun fv iv wr => fv = .int .i64 1 ∧ iv = .int .i64 (-1) ∧ w = wr) (fun _ iv _ => 0)
  case atStart => exact ⟨rfl, rfl, rfl⟩
  case round =>
    obtain ⟨rfl, rfl, rfl⟩ := hrel
    go_wp2
    go_ret2
    exact ⟨rfl, a, h, Tr.refl _ _ _⟩
set_option maxRecDepth 100000 in
set_option maxHeartbeats 2000000 in
theorem cubeJ_none (a : AL) (most : Nat) (ns : List Nd) (w : World) (h : Ar w a most ns) (hw : WF ns) :
    Calls Try.prog 31 #[.pointer (some ⟨a.p, 0, none⟩), .slice none 0 0] w (Ans most (some 1, ns) w a) := by
  have HH : Hid (∀ W, Below w.heap.size w W → W.cell? ⟨w.heap.size, 0, none⟩ = some (.pointer (some ⟨a.p, 0, none⟩)) → W.cell? ⟨w.heap.size + 1, 0, none⟩ = some (.slice none 0 0) → Calls Try.prog 46 #[.pointer (some ⟨a.p, 0, none⟩), .func (.func 57) #[] #[.pointer (some ⟨w.heap.size, 0, none⟩), .pointer (some ⟨w.heap.size + 1, 0, none⟩)]] W (Ans most (some 1, ns) w a)) := fun W hB c0 c1 => by
    have hA := h.on hB
    have C := whole_core most ns ns (some 1) 57 _ W a hA hw hw (Ext.refl _) Try.call57 (cubeL_any most (some 1, ns) W a _ _ _ c0 c1 (Lib.hid (cube_none a most ns W hA)))
    exact C.mono fun _ _ q => ans_of (of_ans hB q)
  unfold Ans at HH ⊢
  clear h hw
  have hmf : ∀ (fn : Fn) (first cap : Array Value) (w : World), (Instr.makeFunc fn first cap).run Try.prog w = .ok (.func fn first cap) w := fun _ _ _ _ => rfl
  go_enter Try.func31, Try.ntmps31
  go_upto_region 1 with fail
  refine at_code (S := fun W => Blk W w.heap.size [.pointer (some ⟨a.p, 0, none⟩)] ∧ Blk W (w.heap.size + 1) [.slice none 0 0] ∧ Below w.heap.size w W) ⟨?_, ?_, bel_al (bel_al (Below.refl _ _) _) _⟩ (fun W0 hW => ?_)
  · exact (Blk.new w _ [.pointer (some ⟨a.p, 0, none⟩)]).on (bel_al (Below.refl _ _) _)
  · have k := Blk.new (w.alloc (.cells #[.pointer (some ⟨a.p, 0, none⟩)] 25)) 62 [.slice none 0 0]
    rw [World.size_alloc] at k
    exact k
  obtain ⟨hp, hs, hb⟩ := hW
  have B0 := Lib.hid hb
  have p_0 := hp.1 0 _ rfl
  have s_0 := hs.1 0 _ rfl
  clear hp hs hb
  go_wp2_with fail
  go_loopw [12] (fun iv wr => iv = .int .i64 0 ∧ W0 = wr) (fun _ _ => 0)
  case atStart => exact ⟨rfl, rfl⟩
  case round =>
    obtain ⟨rfl, rfl⟩ := hrel
    have CC := Lib.hid (HH.out W0 B0.out p_0 s_0)
    go_wp2_with fail
    refine CC.out.mono ?_
    rintro e w3 ⟨rfl, hP⟩
    have HP := Lib.hid hP
    clear hP
    go_wp2
    go_ret2
    exact ⟨rfl, HP.out⟩
theorem sCubeNone {Z : Nat → Prop} {p most : Nat} {W : World} {ns : List Nd} (h : Sta Z p W most ns) : Calls Try.prog 31 #[.pointer (some ⟨p, 0, none⟩), .slice none 0 0] W (Got2 Z p most (some 1, ns) W) := by
  obtain ⟨a, rfl, h2, h3, h4, h5⟩ := h
  exact (cubeJ_none a most ns W h2 h3).mono fun _ _ => got2_of h4 h5 h3
/-- Bits as first leaves them: none, or in a new block. -/
def LitAt (w : World) (base : Nat) (v : Value) (l : List (Nat × Bool)) : Prop := (l = [] ∧ v = .slice none 0 0) ∨ ∃ g cap, v = .slice (some ⟨g, 0, none⟩) l.length cap ∧ base ≤ g ∧ g < w.heap.size ∧ LitC w g (natL l)
theorem LitAt.on {w w' : World} {base : Nat} {v : Value} {l : List (Nat × Bool)} (h : LitAt w base v l) (hb : Below w.heap.size w w') : LitAt w' base v l := by
  rcases h with h | ⟨g, cap, h1, h2, h3, h4⟩
  · exact Or.inl h
  · exact Or.inr ⟨g, cap, h1, h2, by have := hb.size; omega, h4.on hb⟩
theorem LitAt.base {w : World} {base base' : Nat} {v : Value} {l : List (Nat × Bool)} (h : LitAt w base v l) (hb : base' ≤ base) : LitAt w base' v l := by
  rcases h with h | ⟨g, cap, h1, h2, h3, h4⟩
  · exact Or.inl h
  · exact Or.inr ⟨g, cap, h1, by omega, h3, h4⟩
theorem LitAt.slice {w : World} {base : Nat} {v : Value} {l : List (Nat × Bool)} (h : LitAt w base v l) : ∃ a n c, v = .slice a n c := by
  rcases h with ⟨-, h⟩ | ⟨g, cap, h, -⟩
  · exact ⟨_, _, _, h⟩
  · exact ⟨_, _, _, h⟩
theorem LitC.hold {Z : Nat → Prop} {W w' : World} {g : Nat} {l : List (Int × Bool)} (h : LitC W g l) (hH : Hold Z W w') (hz : Z g) : LitC w' g l := fun i x hx => by
  obtain ⟨a, b⟩ := h i x hx
  exact ⟨hH.cell hz a, hH.cell hz b⟩
theorem cF_nil (most : Nat) (ns : List Nd) : cF most ns [] = (some 1, ns) := rfl
theorem sCubeAt {Z : Nat → Prop} {p most : Nat} {V W : World} {ns : List Nd} {l : List (Nat × Bool)} {v : Value} {base : Nat} (hS : Sta Z p W most ns) (hr : Rise l) (hL : LitAt V base v l) (hH : Hold Z V W) (hz : ∀ g, base ≤ g → g < V.heap.size → Z g) :
    Calls Try.prog 31 #[.pointer (some ⟨p, 0, none⟩), v] W (Got2 Z p most (cF most ns l) W) := by
  rcases hL with ⟨rfl, rfl⟩ | ⟨g, cap, rfl, h2, h3, h4⟩
  · rw [cF_nil]; exact sCubeNone hS
  · exact sCube hS l hr g cap (h4.hold hH (hz g h2 h3)) (hz g h2 h3)
end Go.Proofs.Yteiemcnjcdjglaa
