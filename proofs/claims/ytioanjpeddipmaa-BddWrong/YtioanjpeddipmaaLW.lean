/- BddWrong: what is refused. -/
import Derived.Test.YtioanjpeddipmaaLA
namespace Go.Proofs.Ytioanjpeddipmaa
open Go.RowKit
set_option linter.unusedVariables false

def m3 : List Nd := [bot, top, ⟨5, 0, 1⟩]
theorem wr1 : cF 100 [bot, top] [(5, true)] = (some 2, m3) := by decide
def badB (n : Nat) (f : Int) : Bool := decide (f < 0) || decide ((n : Int) ≤ f)
theorem badB_has (n : Nat) (f : Int) : hasB n f = !badB n f := by
  unfold hasB badB
  by_cases a : 0 ≤ f <;> by_cases b : f < (n : Int) <;> simp [a, b] <;> omega
def bitBad (i : Int) : Bool := decide (i < 0) || decide (104 ≤ i)
theorem bitBad_bit (i : Int) : bitB i = !bitBad i := by
  unfold bitB bitBad
  by_cases a : 0 ≤ i <;> by_cases b : i < 104 <;> simp [a, b] <;> omega
def kindBad (k : Int) : Bool := decide (k < 0) || decide (3 < k)
/-- Two numbers, the second one 1 just if. -/
def Told (Z : Nat → Prop) (p : Nat) (b : Bool) (ns : List Nd) (W : World) (e : Ending) (w' : World) : Prop := ∃ (r x : Int) (ns' : List Nd), e = .returned (.tuple #[.int .i64 r, .int .i64 x]) ∧ (x == 1) = b ∧ (b = true → ns' = ns) ∧ ns.length ≤ ns'.length ∧ Sta Z p w' 100 ns' ∧ Hold Z W w'
theorem told_good {Z : Nat → Prop} {p : Nat} {R : Option Nat × List Nd} {ns : List Nd} {W : World} {e : Ending} {w' : World} (hx : Ext ns R.2) (h : Got2 Z p 100 R W e w') : Told Z p false ns W e w' := by
  obtain ⟨rfl, hS, hH⟩ := h
  refine ⟨_, _, R.2, rfl, ?_, fun q => (by cases q), hx.len, hS, hH⟩
  unfold er
  split <;> decide
theorem told_bad {Z : Nat → Prop} {p : Nat} {ns : List Nd} {W : World} {e : Ending} {w' : World} (hS : Sta Z p W 100 ns) (h : e = .returned (.tuple #[.int .i64 0, .int .i64 1]) ∧ Below W.heap.size W w') : Told Z p true ns W e w' := by
  obtain ⟨rfl, hb⟩ := h
  exact ⟨0, 1, ns, rfl, by decide, fun _ => rfl, Nat.le_refl _, hS.on hb, Hold.of hb⟩
theorem toldJ {Z : Nat → Prop} {p : Nat} {W : World} {ns : List Nd} (h : Sta Z p W 100 ns) (kind f g : Int) : Calls Try.prog 16 #[.pointer (some ⟨p, 0, none⟩), .int .i64 kind, .int .i64 f, .int .i64 g] W (Told Z p (badB ns.length f || badB ns.length g || kindBad kind) ns W) := by
  by_cases hb : kind < 0 ∨ 3 < kind ∨ hasB ns.length f = false ∨ hasB ns.length g = false
  · have e1 : (badB ns.length f || badB ns.length g || kindBad kind) = true := by
      rw [badB_has, badB_has] at hb
      unfold kindBad
      rcases hb with q | q | q | q <;> (try simp at q) <;> simp [q]
    rw [e1]
    obtain ⟨a, rfl, h2, h3, h4, h5⟩ := h
    exact (joinJ_bad 100 ns kind f g W a h2 hb).mono fun _ _ => told_bad ⟨a, rfl, h2, h3, h4, h5⟩
  · have hb' : ¬ kind < 0 ∧ ¬ 3 < kind ∧ hasB ns.length f = true ∧ hasB ns.length g = true := by
      refine ⟨fun q => hb (Or.inl q), fun q => hb (Or.inr (Or.inl q)), ?_, ?_⟩
      · cases q : hasB ns.length f
        · exact absurd (Or.inr (Or.inr (Or.inl q))) hb
        · rfl
      · cases q : hasB ns.length g
        · exact absurd (Or.inr (Or.inr (Or.inr q))) hb
        · rfl
    obtain ⟨k0, k3, hf, hg⟩ := hb'
    have e1 : (badB ns.length f || badB ns.length g || kindBad kind) = false := by
      rw [badB_has] at hf hg
      simp at hf hg
      unfold kindBad
      simp [hf, hg]; omega
    rw [e1]
    unfold hasB at hf hg
    simp at hf hg
    obtain ⟨kn, rfl⟩ : ∃ n : Nat, kind = n := ⟨kind.toNat, by omega⟩
    obtain ⟨fn, rfl⟩ : ∃ n : Nat, f = n := ⟨f.toNat, by omega⟩
    obtain ⟨gn, rfl⟩ : ∃ n : Nat, g = n := ⟨g.toNat, by omega⟩
    exact (sJoin h kn fn gn (by omega) (by omega) (by omega)).mono fun _ _ => told_good (got_join kn 100 h.wf (by omega) (by omega)).ext
theorem toldR {Z : Nat → Prop} {p : Nat} {W : World} {ns : List Nd} (h : Sta Z p W 100 ns) (f i : Int) (on : Bool) : Calls Try.prog 21 #[.pointer (some ⟨p, 0, none⟩), .int .i64 f, .int .i64 i, .bool on] W (Told Z p (badB ns.length f || bitBad i) ns W) := by
  by_cases hb : hasB ns.length f = false ∨ bitB i = false
  · have e1 : (badB ns.length f || bitBad i) = true := by
      rw [badB_has, bitBad_bit] at hb
      rcases hb with q | q <;> simp at q <;> simp [q]
    rw [e1]
    obtain ⟨a, rfl, h2, h3, h4, h5⟩ := h
    exact (resJ_bad 100 ns f i on W a h2 hb).mono fun _ _ => told_bad ⟨a, rfl, h2, h3, h4, h5⟩
  · have hf : hasB ns.length f = true := by
      cases q : hasB ns.length f
      · exact absurd (Or.inl q) hb
      · rfl
    have hi : bitB i = true := by
      cases q : bitB i
      · exact absurd (Or.inr q) hb
      · rfl
    have e1 : (badB ns.length f || bitBad i) = false := by
      rw [badB_has] at hf
      rw [bitBad_bit] at hi
      simp at hf hi
      simp [hf, hi]
    rw [e1]
    unfold hasB at hf
    unfold bitB at hi
    simp at hf hi
    obtain ⟨fn, rfl⟩ : ∃ n : Nat, f = n := ⟨f.toNat, by omega⟩
    obtain ⟨im, rfl⟩ : ∃ n : Nat, i = n := ⟨i.toNat, by omega⟩
    exact (sRes h fn im on (by omega) (by omega)).mono fun _ _ => told_good (got_held im on 100 (by omega) h.wf (by omega)).ext
theorem toldV {Z : Nat → Prop} {p : Nat} {W : World} {ns : List Nd} (h : Sta Z p W 100 ns) (i : Int) : Calls Try.prog 20 #[.pointer (some ⟨p, 0, none⟩), .int .i64 i] W (Told Z p (bitBad i) ns W) := by
  cases hb : bitBad i
  · have hi := bitBad_bit i
    rw [hb] at hi
    unfold bitB at hi
    simp at hi
    obtain ⟨im, rfl⟩ : ∃ n : Nat, i = n := ⟨i.toNat, by omega⟩
    exact (sVar h im (by omega)).mono fun _ _ => told_good (got_cube 100 h.wf _ (rise_one (by omega) true).1 (rise_one (by omega) true).2).ext
  · obtain ⟨a, rfl, h2, h3, h4, h5⟩ := h
    exact (var_bad a 100 ns i (by rw [bitBad_bit, hb]; rfl) W h2).mono fun _ _ => told_bad ⟨a, rfl, h2, h3, h4, h5⟩
set_option maxHeartbeats 1000000 in
theorem cut_nil (n : Int) (w : World) : Calls Try.prog 17 #[.pointer none, .int .i64 n] w fun e w' => e = .returned (.tuple #[]) ∧ w = w' := by
  have C := Lib.hid (len_nil w)
  go_enter Try.func17, Try.ntmps17
  go_wp2_with fail
  refine C.out.mono ?_
  rintro e w' ⟨rfl, rfl⟩
  go_wp2_with fail
  go_loopw [4] (fun iv wr => iv = .int .i64 (-1) ∧ w = wr) (fun _ _ => 0)
  case atStart => exact ⟨rfl, by first | rfl | trivial⟩
  case round =>
    obtain ⟨rfl, rfl⟩ := hrel
    by_cases hn : n < 2
    · have hn' : n ≤ 2 := by omega
      go_wp2
      refine bodyPost_end (v := .tuple #[]) (by simp [results, Try.results17, go_sem]) rfl ⟨rfl, rfl⟩
    · have hn' : 2 ≤ n := by omega
      have hn2 : ¬ n ≤ -1 := by omega
      go_wp2
      refine bodyPost_end (v := .tuple #[]) (by simp [results, Try.results17, go_sem]) rfl ⟨rfl, rfl⟩
set_option maxRecDepth 100000 in
set_option maxHeartbeats 4000000 in
theorem wrong_core (f g kind i : Int) (w : World) (bf bg bk bi c : Bool) (hbf : badB 3 f = bf) (hbg : badB 3 g = bg) (hbk : kindBad kind = bk) (hbi : bitBad i = bi) (hc : (bf || bg) = c) :
    Calls Try.prog 6 #[.int .i64 f, .int .i64 g, .int .i64 kind, .int .i64 i] w fun e w' => e = .returned (.bool true) ∧ Below w.heap.size w w' := by
  have C1 := Lib.hid (sNew 100 (by omega) (by omega) w)
  have C2 : Hid (∀ p W, Sta (fun k => k < w.heap.size) p W 100 [bot, top] → Calls Try.prog 20 #[.pointer (some ⟨p, 0, none⟩), .int .i64 5] W fun e w' => e = .returned (.tuple #[.int .i64 2, .int .i64 0]) ∧ Sta (fun k => k < w.heap.size) p w' 100 m3 ∧ Hold (fun k => k < w.heap.size) W w') := fun p W h => by have k := sVar h 5 (by omega); rw [wr1] at k; exact k
  have C3 : Hid (∀ p W, Sta (fun k => k < w.heap.size) p W 100 m3 → Calls Try.prog _ #[.pointer (some ⟨p, 0, none⟩)] W fun e w' => e = .returned (.int .i64 3) ∧ W = w') := fun p W h => sLen h
  have C4 : Hid (∀ p W, Sta (fun k => k < w.heap.size) p W 100 m3 → Calls Try.prog 16 #[.pointer (some ⟨p, 0, none⟩), .int .i64 kind, .int .i64 f, .int .i64 g] W (Told (fun k => k < w.heap.size) p (c || bk) m3 W)) := fun p W h => by have k := toldJ h kind f g; rw [show m3.length = 3 from rfl, hbf, hbg, hbk, hc] at k; exact k
  have C5 : Hid (∀ p W ns, Sta (fun k => k < w.heap.size) p W 100 ns → badB ns.length f = bf → Calls Try.prog 21 #[.pointer (some ⟨p, 0, none⟩), .int .i64 f, .int .i64 i, .bool true] W (Told (fun k => k < w.heap.size) p (bf || bi) ns W)) := fun p W ns h q => by have k := toldR h f i true; rw [q, hbi] at k; exact k
  have C6 : Hid (∀ p W ns, Sta (fun k => k < w.heap.size) p W 100 ns → Calls Try.prog 20 #[.pointer (some ⟨p, 0, none⟩), .int .i64 i] W (Told (fun k => k < w.heap.size) p bi ns W)) := fun p W ns h => by have k := toldV h i; rw [hbi] at k; exact k
  have HF := Lib.hid hbf
  have HC := Lib.hid (And.intro hbf (And.intro hbg (And.intro hbk (And.intro hbi hc))))
  clear hbf hbg hbk hbi hc
  go_enter Try.func6, Try.ntmps6
  go_wp2_with fail
  refine C1.out.mono ?_
  rintro e w1 ⟨p, rfl, hS, hb⟩
  have S1 := Lib.hid hS
  have B1 := Lib.hid hb
  clear hS hb C1
  go_wp2_with fail
  refine (C2.out p w1 S1.out).mono ?_
  rintro e w2 ⟨rfl, hS, hH⟩
  have S2 := Lib.hid hS
  have H2 := Lib.hid hH
  clear hS hH C2 S1
  go_wp2_with fail
  refine (C3.out p w2 S2.out).mono ?_
  rintro e w' ⟨rfl, rfl⟩
  clear C3
  go_upto_region 6 with fail
  go_cut [14] (fun u wx => u = .bool c ∧ w2 = wx)
  case first =>
    have h1 := HC.out.1
    have h2 := HC.out.2.1
    have h5 := HC.out.2.2.2.2
    rw [← h1, ← h2] at h5
    unfold badB at h5
    clear HF HC C4 C5 C6 S2 H2 B1 h1 h2
    subst h5
    by_cases a1 : f < 0
    · go_wp2
      go_meet
      exact ⟨by simp [a1], rfl⟩
    · by_cases a2 : 3 ≤ f
      · go_wp2
        go_meet
        exact ⟨by simp [a2], rfl⟩
      · by_cases a3 : g < 0
        · go_wp2
          go_meet
          exact ⟨by simp [a3], rfl⟩
        · by_cases a4 : 3 ≤ g
          · go_wp2
            go_meet
            exact ⟨by simp [a4], rfl⟩
          · go_wp2
            go_meet
            exact ⟨by simp [a1, a2, a3, a4], rfl⟩
  case rest =>
    obtain ⟨rfl, rfl⟩ := hcut
    go_wp2_with fail
    refine (C4.out p w2 S2.out).mono ?_
    rintro e w3 ⟨r1, x1, ns1, rfl, hx1, hz1, hl1, hS, hH⟩
    have hb3 : badB ns1.length f = bf := by
      cases hbf : bf with
      | true =>
        have : c = true := by rw [← HC.out.2.2.2.2, hbf]; rfl
        rw [this] at hz1
        rw [hz1 rfl, ← hbf]; exact HF.out
      | false =>
        have k := HF.out
        rw [hbf] at k
        unfold badB at k ⊢
        simp at k ⊢
        have : m3.length = 3 := rfl
        omega
    have S3 := Lib.hid hS
    have H3 := Lib.hid (H2.out.trans hH)
    have D5 := Lib.hid (C5.out p w3 ns1 hS hb3)
    have X1 := Lib.hid hx1
    clear hS hH C4 C5 S2 H2 hz1 hl1 hx1 hb3
    go_wp2_with fail
    refine D5.out.mono ?_
    rintro e w4 ⟨r2, x2, ns2, rfl, hx2, -, -, hS, hH⟩
    have S4 := Lib.hid hS
    have H4 := Lib.hid (H3.out.trans hH)
    have D6 := Lib.hid (C6.out p w4 ns2 hS)
    have X2 := Lib.hid hx2
    clear hS hH D5 C6 S3 H3 hx2
    go_wp2_with fail
    refine D6.out.mono ?_
    rintro e w5 ⟨r3, x3, ns3, rfl, hx3, -, -, hS, hH⟩
    have S5 := Lib.hid hS
    have H5 := Lib.hid (H4.out.trans hH)
    have X3 := Lib.hid hx3
    clear hS hH D6 S4 H4 hx3
    go_upto_region 10 with fail
    go_cut [122] (fun u wx => u = .bool false ∧ w5 = wx)
    case first =>
      have h1 := HC.out.1
      have h3 := HC.out.2.2.1
      have h4 := HC.out.2.2.2.1
      have g1 := X1.out
      have g2 := X2.out
      have g3 := X3.out
      unfold badB at h1
      unfold kindBad at h3
      unfold bitBad at h4
      clear HF HC S5 H5 B1 X1 X2 X3
      subst h1
      subst h3
      subst h4
      cases c with
      | true =>
        by_cases a2 : f < 0
        · by_cases a3 : i < 0
          · have x1' : (x1 == 1) = true := by rw [g1]; simp
            have x2' : (x2 == 1) = true := by rw [g2]; simp [a2, a3]
            have x3' : (x3 == 1) = true := by rw [g3]; simp [a3]
            clear g1 g2 g3
            as_aux_lemma =>
              go_wp2
              go_meet
              exact ⟨rfl, rfl⟩
          · by_cases a3o : 104 ≤ i
            · have x1' : (x1 == 1) = true := by rw [g1]; simp
              have x2' : (x2 == 1) = true := by rw [g2]; simp [a2, a3, a3o]
              have x3' : (x3 == 1) = true := by rw [g3]; simp [a3, a3o]
              clear g1 g2 g3
              as_aux_lemma =>
                go_wp2
                go_meet
                exact ⟨rfl, rfl⟩
            · have x1' : (x1 == 1) = true := by rw [g1]; simp
              have x2' : (x2 == 1) = true := by rw [g2]; simp [a2, a3, a3o]
              have x3' : (x3 == 1) = false := by rw [g3]; simp [a3, a3o]
              clear g1 g2 g3
              as_aux_lemma =>
                go_wp2
                go_meet
                exact ⟨rfl, rfl⟩
        · by_cases a2o : 3 ≤ f
          · by_cases a3 : i < 0
            · have x1' : (x1 == 1) = true := by rw [g1]; simp
              have x2' : (x2 == 1) = true := by rw [g2]; simp [a2, a2o, a3]
              have x3' : (x3 == 1) = true := by rw [g3]; simp [a3]
              clear g1 g2 g3
              as_aux_lemma =>
                go_wp2
                go_meet
                exact ⟨rfl, rfl⟩
            · by_cases a3o : 104 ≤ i
              · have x1' : (x1 == 1) = true := by rw [g1]; simp
                have x2' : (x2 == 1) = true := by rw [g2]; simp [a2, a2o, a3, a3o]
                have x3' : (x3 == 1) = true := by rw [g3]; simp [a3, a3o]
                clear g1 g2 g3
                as_aux_lemma =>
                  go_wp2
                  go_meet
                  exact ⟨rfl, rfl⟩
              · have x1' : (x1 == 1) = true := by rw [g1]; simp
                have x2' : (x2 == 1) = true := by rw [g2]; simp [a2, a2o, a3, a3o]
                have x3' : (x3 == 1) = false := by rw [g3]; simp [a3, a3o]
                clear g1 g2 g3
                as_aux_lemma =>
                  go_wp2
                  go_meet
                  exact ⟨rfl, rfl⟩
          · by_cases a3 : i < 0
            · have x1' : (x1 == 1) = true := by rw [g1]; simp
              have x2' : (x2 == 1) = true := by rw [g2]; simp [a2, a2o, a3]
              have x3' : (x3 == 1) = true := by rw [g3]; simp [a3]
              clear g1 g2 g3
              as_aux_lemma =>
                go_wp2
                go_meet
                exact ⟨rfl, rfl⟩
            · by_cases a3o : 104 ≤ i
              · have x1' : (x1 == 1) = true := by rw [g1]; simp
                have x2' : (x2 == 1) = true := by rw [g2]; simp [a2, a2o, a3, a3o]
                have x3' : (x3 == 1) = true := by rw [g3]; simp [a3, a3o]
                clear g1 g2 g3
                as_aux_lemma =>
                  go_wp2
                  go_meet
                  exact ⟨rfl, rfl⟩
              · have x1' : (x1 == 1) = true := by rw [g1]; simp
                have x2' : (x2 == 1) = false := by rw [g2]; simp [a2, a2o, a3, a3o]
                have x3' : (x3 == 1) = false := by rw [g3]; simp [a3, a3o]
                clear g1 g2 g3
                as_aux_lemma =>
                  go_wp2
                  go_meet
                  exact ⟨rfl, rfl⟩
      | false =>
        by_cases a1 : kind < 0
        · by_cases a2 : f < 0
          · by_cases a3 : i < 0
            · have x1' : (x1 == 1) = true := by rw [g1]; simp [a1]
              have x2' : (x2 == 1) = true := by rw [g2]; simp [a2, a3]
              have x3' : (x3 == 1) = true := by rw [g3]; simp [a3]
              clear g1 g2 g3
              as_aux_lemma =>
                go_wp2
                go_meet
                exact ⟨rfl, rfl⟩
            · by_cases a3o : 104 ≤ i
              · have x1' : (x1 == 1) = true := by rw [g1]; simp [a1]
                have x2' : (x2 == 1) = true := by rw [g2]; simp [a2, a3, a3o]
                have x3' : (x3 == 1) = true := by rw [g3]; simp [a3, a3o]
                clear g1 g2 g3
                as_aux_lemma =>
                  go_wp2
                  go_meet
                  exact ⟨rfl, rfl⟩
              · have x1' : (x1 == 1) = true := by rw [g1]; simp [a1]
                have x2' : (x2 == 1) = true := by rw [g2]; simp [a2, a3, a3o]
                have x3' : (x3 == 1) = false := by rw [g3]; simp [a3, a3o]
                clear g1 g2 g3
                as_aux_lemma =>
                  go_wp2
                  go_meet
                  exact ⟨rfl, rfl⟩
          · by_cases a2o : 3 ≤ f
            · by_cases a3 : i < 0
              · have x1' : (x1 == 1) = true := by rw [g1]; simp [a1]
                have x2' : (x2 == 1) = true := by rw [g2]; simp [a2, a2o, a3]
                have x3' : (x3 == 1) = true := by rw [g3]; simp [a3]
                clear g1 g2 g3
                as_aux_lemma =>
                  go_wp2
                  go_meet
                  exact ⟨rfl, rfl⟩
              · by_cases a3o : 104 ≤ i
                · have x1' : (x1 == 1) = true := by rw [g1]; simp [a1]
                  have x2' : (x2 == 1) = true := by rw [g2]; simp [a2, a2o, a3, a3o]
                  have x3' : (x3 == 1) = true := by rw [g3]; simp [a3, a3o]
                  clear g1 g2 g3
                  as_aux_lemma =>
                    go_wp2
                    go_meet
                    exact ⟨rfl, rfl⟩
                · have x1' : (x1 == 1) = true := by rw [g1]; simp [a1]
                  have x2' : (x2 == 1) = true := by rw [g2]; simp [a2, a2o, a3, a3o]
                  have x3' : (x3 == 1) = false := by rw [g3]; simp [a3, a3o]
                  clear g1 g2 g3
                  as_aux_lemma =>
                    go_wp2
                    go_meet
                    exact ⟨rfl, rfl⟩
            · by_cases a3 : i < 0
              · have x1' : (x1 == 1) = true := by rw [g1]; simp [a1]
                have x2' : (x2 == 1) = true := by rw [g2]; simp [a2, a2o, a3]
                have x3' : (x3 == 1) = true := by rw [g3]; simp [a3]
                clear g1 g2 g3
                as_aux_lemma =>
                  go_wp2
                  go_meet
                  exact ⟨rfl, rfl⟩
              · by_cases a3o : 104 ≤ i
                · have x1' : (x1 == 1) = true := by rw [g1]; simp [a1]
                  have x2' : (x2 == 1) = true := by rw [g2]; simp [a2, a2o, a3, a3o]
                  have x3' : (x3 == 1) = true := by rw [g3]; simp [a3, a3o]
                  clear g1 g2 g3
                  as_aux_lemma =>
                    go_wp2
                    go_meet
                    exact ⟨rfl, rfl⟩
                · have x1' : (x1 == 1) = true := by rw [g1]; simp [a1]
                  have x2' : (x2 == 1) = false := by rw [g2]; simp [a2, a2o, a3, a3o]
                  have x3' : (x3 == 1) = false := by rw [g3]; simp [a3, a3o]
                  clear g1 g2 g3
                  as_aux_lemma =>
                    go_wp2
                    go_meet
                    exact ⟨rfl, rfl⟩
        · by_cases a1' : 3 < kind
          · by_cases a2 : f < 0
            · by_cases a3 : i < 0
              · have x1' : (x1 == 1) = true := by rw [g1]; simp [a1']
                have x2' : (x2 == 1) = true := by rw [g2]; simp [a2, a3]
                have x3' : (x3 == 1) = true := by rw [g3]; simp [a3]
                clear g1 g2 g3
                as_aux_lemma =>
                  go_wp2
                  go_meet
                  exact ⟨rfl, rfl⟩
              · by_cases a3o : 104 ≤ i
                · have x1' : (x1 == 1) = true := by rw [g1]; simp [a1']
                  have x2' : (x2 == 1) = true := by rw [g2]; simp [a2, a3, a3o]
                  have x3' : (x3 == 1) = true := by rw [g3]; simp [a3, a3o]
                  clear g1 g2 g3
                  as_aux_lemma =>
                    go_wp2
                    go_meet
                    exact ⟨rfl, rfl⟩
                · have x1' : (x1 == 1) = true := by rw [g1]; simp [a1']
                  have x2' : (x2 == 1) = true := by rw [g2]; simp [a2, a3, a3o]
                  have x3' : (x3 == 1) = false := by rw [g3]; simp [a3, a3o]
                  clear g1 g2 g3
                  as_aux_lemma =>
                    go_wp2
                    go_meet
                    exact ⟨rfl, rfl⟩
            · by_cases a2o : 3 ≤ f
              · by_cases a3 : i < 0
                · have x1' : (x1 == 1) = true := by rw [g1]; simp [a1']
                  have x2' : (x2 == 1) = true := by rw [g2]; simp [a2, a2o, a3]
                  have x3' : (x3 == 1) = true := by rw [g3]; simp [a3]
                  clear g1 g2 g3
                  as_aux_lemma =>
                    go_wp2
                    go_meet
                    exact ⟨rfl, rfl⟩
                · by_cases a3o : 104 ≤ i
                  · have x1' : (x1 == 1) = true := by rw [g1]; simp [a1']
                    have x2' : (x2 == 1) = true := by rw [g2]; simp [a2, a2o, a3, a3o]
                    have x3' : (x3 == 1) = true := by rw [g3]; simp [a3, a3o]
                    clear g1 g2 g3
                    as_aux_lemma =>
                      go_wp2
                      go_meet
                      exact ⟨rfl, rfl⟩
                  · have x1' : (x1 == 1) = true := by rw [g1]; simp [a1']
                    have x2' : (x2 == 1) = true := by rw [g2]; simp [a2, a2o, a3, a3o]
                    have x3' : (x3 == 1) = false := by rw [g3]; simp [a3, a3o]
                    clear g1 g2 g3
                    as_aux_lemma =>
                      go_wp2
                      go_meet
                      exact ⟨rfl, rfl⟩
              · by_cases a3 : i < 0
                · have x1' : (x1 == 1) = true := by rw [g1]; simp [a1']
                  have x2' : (x2 == 1) = true := by rw [g2]; simp [a2, a2o, a3]
                  have x3' : (x3 == 1) = true := by rw [g3]; simp [a3]
                  clear g1 g2 g3
                  as_aux_lemma =>
                    go_wp2
                    go_meet
                    exact ⟨rfl, rfl⟩
                · by_cases a3o : 104 ≤ i
                  · have x1' : (x1 == 1) = true := by rw [g1]; simp [a1']
                    have x2' : (x2 == 1) = true := by rw [g2]; simp [a2, a2o, a3, a3o]
                    have x3' : (x3 == 1) = true := by rw [g3]; simp [a3, a3o]
                    clear g1 g2 g3
                    as_aux_lemma =>
                      go_wp2
                      go_meet
                      exact ⟨rfl, rfl⟩
                  · have x1' : (x1 == 1) = true := by rw [g1]; simp [a1']
                    have x2' : (x2 == 1) = false := by rw [g2]; simp [a2, a2o, a3, a3o]
                    have x3' : (x3 == 1) = false := by rw [g3]; simp [a3, a3o]
                    clear g1 g2 g3
                    as_aux_lemma =>
                      go_wp2
                      go_meet
                      exact ⟨rfl, rfl⟩
          · by_cases a2 : f < 0
            · by_cases a3 : i < 0
              · have x1' : (x1 == 1) = false := by rw [g1]; simp [a1, a1']
                have x2' : (x2 == 1) = true := by rw [g2]; simp [a2, a3]
                have x3' : (x3 == 1) = true := by rw [g3]; simp [a3]
                clear g1 g2 g3
                as_aux_lemma =>
                  go_wp2
                  go_meet
                  exact ⟨rfl, rfl⟩
              · by_cases a3o : 104 ≤ i
                · have x1' : (x1 == 1) = false := by rw [g1]; simp [a1, a1']
                  have x2' : (x2 == 1) = true := by rw [g2]; simp [a2, a3, a3o]
                  have x3' : (x3 == 1) = true := by rw [g3]; simp [a3, a3o]
                  clear g1 g2 g3
                  as_aux_lemma =>
                    go_wp2
                    go_meet
                    exact ⟨rfl, rfl⟩
                · have x1' : (x1 == 1) = false := by rw [g1]; simp [a1, a1']
                  have x2' : (x2 == 1) = true := by rw [g2]; simp [a2, a3, a3o]
                  have x3' : (x3 == 1) = false := by rw [g3]; simp [a3, a3o]
                  clear g1 g2 g3
                  as_aux_lemma =>
                    go_wp2
                    go_meet
                    exact ⟨rfl, rfl⟩
            · by_cases a2o : 3 ≤ f
              · by_cases a3 : i < 0
                · have x1' : (x1 == 1) = false := by rw [g1]; simp [a1, a1']
                  have x2' : (x2 == 1) = true := by rw [g2]; simp [a2, a2o, a3]
                  have x3' : (x3 == 1) = true := by rw [g3]; simp [a3]
                  clear g1 g2 g3
                  as_aux_lemma =>
                    go_wp2
                    go_meet
                    exact ⟨rfl, rfl⟩
                · by_cases a3o : 104 ≤ i
                  · have x1' : (x1 == 1) = false := by rw [g1]; simp [a1, a1']
                    have x2' : (x2 == 1) = true := by rw [g2]; simp [a2, a2o, a3, a3o]
                    have x3' : (x3 == 1) = true := by rw [g3]; simp [a3, a3o]
                    clear g1 g2 g3
                    as_aux_lemma =>
                      go_wp2
                      go_meet
                      exact ⟨rfl, rfl⟩
                  · have x1' : (x1 == 1) = false := by rw [g1]; simp [a1, a1']
                    have x2' : (x2 == 1) = true := by rw [g2]; simp [a2, a2o, a3, a3o]
                    have x3' : (x3 == 1) = false := by rw [g3]; simp [a3, a3o]
                    clear g1 g2 g3
                    as_aux_lemma =>
                      go_wp2
                      go_meet
                      exact ⟨rfl, rfl⟩
              · by_cases a3 : i < 0
                · have x1' : (x1 == 1) = false := by rw [g1]; simp [a1, a1']
                  have x2' : (x2 == 1) = true := by rw [g2]; simp [a2, a2o, a3]
                  have x3' : (x3 == 1) = true := by rw [g3]; simp [a3]
                  clear g1 g2 g3
                  as_aux_lemma =>
                    go_wp2
                    go_meet
                    exact ⟨rfl, rfl⟩
                · by_cases a3o : 104 ≤ i
                  · have x1' : (x1 == 1) = false := by rw [g1]; simp [a1, a1']
                    have x2' : (x2 == 1) = true := by rw [g2]; simp [a2, a2o, a3, a3o]
                    have x3' : (x3 == 1) = true := by rw [g3]; simp [a3, a3o]
                    clear g1 g2 g3
                    as_aux_lemma =>
                      go_wp2
                      go_meet
                      exact ⟨rfl, rfl⟩
                  · have x1' : (x1 == 1) = false := by rw [g1]; simp [a1, a1']
                    have x2' : (x2 == 1) = false := by rw [g2]; simp [a2, a2o, a3, a3o]
                    have x3' : (x3 == 1) = false := by rw [g3]; simp [a3, a3o]
                    clear g1 g2 g3
                    as_aux_lemma =>
                      go_wp2
                      go_meet
                      exact ⟨rfl, rfl⟩
    case rest =>
      obtain ⟨rfl, rfl⟩ := hcut
      have D7 := Lib.hid (fun (W : World) (b : Nat) (hS : Sta (fun k => k < w.heap.size) p W 100 ns3) (hl : LitC W b [(3, false), (3, false)]) => (show Calls Try.prog 22 #[.pointer (some ⟨p, 0, none⟩), .slice (some ⟨b, 0, none⟩) 2 2] W fun e w' => e = .returned (.tuple #[.int .i64 0, .int .i64 1]) ∧ Below W.heap.size W w' by
        obtain ⟨a, rfl, q2, -⟩ := hS
        exact cubeJ_bad a 100 ns3 [(3, false), (3, false)] W q2 b 2 hl (by simp) (by decide)))
      have D8 := Lib.hid (fun (W : World) (hS : Sta (fun k => k < w.heap.size) p W 100 ns3) => (show Calls Try.prog 23 #[.pointer (some ⟨p, 0, none⟩), .int .i64 2, .int .i64 2, .int .i64 (-1)] W fun e w' => e = .returned (.tuple #[.int .i64 0, .int .i64 1]) ∧ Below W.heap.size W w' by
        obtain ⟨a, rfl, q2, -⟩ := hS
        exact iteJ_bad 100 ns3 2 2 (-1) W a q2 (Or.inr (Or.inr (by unfold hasB; rfl)))))
      have D9 := Lib.hid (fun n W => cut_nil n W)
      have DA := Lib.hid (fun i W => var_nil i W)
      have DB := Lib.hid (fun k f g W => join_nil k f g W)
      have DC := Lib.hid (fun f i on W => res_nil f i on W)
      have DD := Lib.hid (fun f g h W => ite_nil f g h W)
      have DE := Lib.hid (fun W => awake_any W)
      have DF := Lib.hid (fun W => len_nil W)
      have DG := Lib.hid (fun f W => has_nil f W)
      have DH := Lib.hid (fun W => in_none (.pointer none) (hv 0 0 0 0 0) 1 W ⟨0, 0, 0, 0, 0, rfl⟩ (fun W' _ => has_nil 1 W'))
      clear X1 X2 X3 HC HF
      go_wp2_with fail
      refine at_calls (S := fun W => LitC W w5.heap.size [(3, false), (3, false)] ∧ Below w5.heap.size w5 W) ⟨?_, bel_al (Below.refl _ _) _⟩ (fun W6 hW => ?_)
      · intro j x hx
        match j, hx with
        | 0, hx => cases hx; exact ⟨by simp [go_sem], by simp [go_sem]⟩
        | 1, hx => cases hx; exact ⟨by simp [go_sem], by simp [go_sem]⟩
      have B5 := Lib.hid hW.2
      have S6 := Lib.hid (S5.out.on hW.2)
      refine (D7.out W6 _ S6.out hW.1).mono ?_
      rintro e w7 ⟨rfl, hb⟩
      have S7 := Lib.hid (S6.out.on hb)
      have B7 := Lib.hid (bel_on' B5.out hb)
      clear hb hW D7 S6 B5
      go_wp2_with fail
      refine (D8.out w7 S7.out).mono ?_
      rintro e w8 ⟨rfl, hb⟩
      have B8 := Lib.hid (bel_on' B7.out hb)
      clear hb D8 S7 B7
      go_wp2_with fail
      refine (D9.out _ _).mono ?_
      rintro e w' ⟨rfl, rfl⟩
      go_wp2_with fail
      refine (DA.out _ _).mono ?_
      rintro e w9 ⟨rfl, hb⟩
      have B9 := Lib.hid (bel_on' B8.out hb)
      clear hb B8
      go_wp2_with fail
      refine (DB.out _ _ _ _).mono ?_
      rintro e wa ⟨rfl, hb⟩
      have Ba := Lib.hid (bel_on' B9.out hb)
      clear hb B9
      go_wp2_with fail
      refine (DC.out _ _ _ _).mono ?_
      rintro e wb ⟨rfl, hb⟩
      have Bb := Lib.hid (bel_on' Ba.out hb)
      clear hb Ba
      go_wp2_with fail
      refine (DD.out _ _ _ _).mono ?_
      rintro e wc ⟨rfl, hb⟩
      have Bc := Lib.hid (bel_on' Bb.out hb)
      clear hb Bb
      go_wp2_with fail
      refine (DE.out _).mono ?_
      rintro e wd ⟨rfl, hb⟩
      have Bd := Lib.hid (bel_on' Bc.out hb)
      clear hb Bc
      go_wp2_with fail
      refine (DF.out _).mono ?_
      rintro e w' ⟨rfl, rfl⟩
      go_wp2_with fail
      refine (DG.out _ _).mono ?_
      rintro e w' ⟨rfl, rfl⟩
      go_wp2_with fail
      refine (DH.out _).mono ?_
      rintro e we ⟨rfl, hb⟩
      have Be := Lib.hid (bel_on' Bd.out hb)
      clear hb Bd
      go_wp2
      go_ret
      exact ⟨rfl, (B1.out.trans (H5.out.below B1.out.size (fun k hk => hk))).trans (Be.out.mono (by have := B1.out.size; have := H5.out.size; omega))⟩
theorem wrong_any (f g kind i : Int) (w : World) : Calls Try.prog 6 #[.int .i64 f, .int .i64 g, .int .i64 kind, .int .i64 i] w fun e w' => e = .returned (.bool true) ∧ Below w.heap.size w w' :=
  wrong_core f g kind i w _ _ _ _ _ rfl rfl rfl rfl rfl
end Go.Proofs.Ytioanjpeddipmaa
