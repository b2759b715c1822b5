/- The count of a text, as the document's own answer has it: what its Parse answers. -/
import Derived.Test.YteinkjlnofmalaaW9
namespace Go.Proofs.Yteinkjlnofmalaa
open Go.RowKit
set_option linter.unusedVariables false

/-- Digit by digit, without a look at noughts ahead. -/
def rgo : List UInt8 → Nat → Nat × Int
  | [], c => (c, 0)
  | b :: r, c => if b.toNat < 48 ∨ 57 < b.toNat then (0, 6) else if MM ≤ c * 10 + (b.toNat - 48) then (0, 5) else rgo r (c * 10 + (b.toNat - 48))
theorem pgo_rgo : ∀ (l : List UInt8) (c : Nat), c ≠ 0 → pgo l false c = rgo l c
  | [], _, _ => rfl
  | b :: r, c, hc => by
    rw [pgo, rgo]
    have e : (b.toNat < 48 ∨ 57 < b.toNat ∨ (false = false ∧ c = 0)) ↔ (b.toNat < 48 ∨ 57 < b.toNat) := by simp [hc]
    by_cases hb : b.toNat < 48 ∨ 57 < b.toNat
    · rw [if_pos (e.2 hb), if_pos hb]
    · rw [if_neg (mt e.1 hb), if_neg hb]
      split
      · rfl
      · exact pgo_rgo r _ (by omega)
theorem pz_nought (l : List UInt8) (h : 2 ≤ l.length) (h0 : l.head? = some 48) : pz l = (0, 6) := by
  match l, h, h0 with
  | b :: b' :: r, _, h0 =>
    simp at h0
    subst h0
    rw [pz, if_neg (by simp), pgo_next _ _ _ _ (by decide) (by decide) (Or.inl rfl) (by decide), pgo_bad _ _ _ _ (Or.inr (Or.inr ⟨rfl, by decide⟩))]
theorem pz_rgo (l : List UInt8) (h : 1 ≤ l.length) (h0 : l.length = 1 ∨ l.head? ≠ some 48) : pz l = rgo l 0 := by
  match l, h, h0 with
  | b :: r, _, h0 =>
    rw [pz, if_neg (by simp), pgo, rgo]
    have e : (b.toNat < 48 ∨ 57 < b.toNat ∨ (true = false ∧ (0 : Nat) = 0)) ↔ (b.toNat < 48 ∨ 57 < b.toNat) := by simp
    by_cases hb : b.toNat < 48 ∨ 57 < b.toNat
    · rw [if_pos (e.2 hb), if_pos hb]
    · rw [if_neg (mt e.1 hb), if_neg hb]
      split
      · rfl
      · rcases h0 with h0 | h0
        · have hr : r = [] := by cases r with
            | nil => rfl
            | cons _ _ => simp at h0
          subst hr
          rfl
        · refine pgo_rgo r _ (fun hc => h0 ?_)
          have hb : b = 48 := by
            have : b.toNat = 48 := by omega
            exact UInt8.toNat_inj.1 this
          rw [hb]; rfl
theorem rgo_bad (b : UInt8) (r : List UInt8) (c : Nat) (h : b.toNat < 48 ∨ 57 < b.toNat) : rgo (b :: r) c = (0, 6) := by rw [rgo, if_pos h]
theorem rgo_big (b : UInt8) (r : List UInt8) (c : Nat) (h1 : 48 ≤ b.toNat) (h2 : b.toNat ≤ 57) (h4 : MM ≤ c * 10 + (b.toNat - 48)) : rgo (b :: r) c = (0, 5) := by rw [rgo, if_neg (by omega), if_pos h4]
theorem rgo_next (b : UInt8) (r : List UInt8) (c : Nat) (h1 : 48 ≤ b.toNat) (h2 : b.toNat ≤ 57) (h4 : c * 10 + (b.toNat - 48) < MM) : rgo (b :: r) c = rgo r (c * 10 + (b.toNat - 48)) := by rw [rgo, if_neg (by omega), if_neg (by omega)]

set_option maxHeartbeats 2000000 in
theorem rparse_one (s : ByteArray) (hs : 0 < s.size) (hm : s.size ≤ maxLen) (h1 : (s.size : Int) ≤ 1) (T : Nat × Int) (hT : Hid (rgo s.data.toList 0 = T)) (w : World) :
    Calls Try.prog 24 #[.string s] w fun e w' => e = .returned (.tuple #[cn T.1, .int .i64 T.2]) ∧ Below w.heap.size w w' := by
  unfold maxLen at hm
  have e1 : ((s.size : Int) == 0) = false := beq_eq_false_iff_ne.2 (by omega)
  go_enter Try.func24, Try.ntmps24
  go_wp2
  go_loopw [5] (fun iv wr => ∃ i c : Nat, i ≤ s.size ∧ iv = .int .i64 i ∧ c < MM ∧ Below w.heap.size w wr ∧ Two wr (w.heap.size + 1) (hi c) (lo c) ∧ Two wr w.heap.size 0 0 ∧ rgo (s.data.toList.drop i) c = T)
    (fun iv _ => s.size - (intOf iv).toNat)
  case atStart =>
    refine ⟨0, 0, Nat.zero_le _, rfl, MM_pos, below_al (below_al (Below.refl _ _) _) _, ?_, two_first, hT.out⟩
    rw [hi_zero, lo_zero]; exact two_second
  case round =>
    obtain ⟨i, c, hi', rfl, hc, hbr, ht1, ht0, hT'⟩ := hrel
    have HT := Lib.hid hT'
    have H1 := Lib.hid ht1
    have H0 := Lib.hid ht0
    have HB := Lib.hid hbr
    obtain ⟨r0, r1, rf0, rf1⟩ := ht0
    obtain ⟨c0, c1, cf0, cf1⟩ := ht1
    clear hT' hT hbr
    by_cases hlt : i < s.size
    · have HD := Lib.hid (drop_byte s i hlt)
      obtain ⟨b, hb⟩ : ∃ b : Nat, s[i].toNat = b := ⟨_, rfl⟩
      have hb255 : b < 256 := by rw [← hb]; exact s[i].toNat_lt
      have HBy := Lib.hid hb
      by_cases hbad : b < 48 ∨ 57 < b
      · have HT6 : Hid (T = (0, 6)) := by
          have h1 := HT.out
          rw [HD.out, rgo_bad _ _ _ (by rw [HBy.out]; exact hbad)] at h1
          exact h1.symm
        rcases hbad with hbd | hbd
        · go_wp2
          refine bodyPost_ret (v := .tuple #[cv 0 0, .int .i64 6]) (by simp [results, Try.results24, go_sem, r0, r1]) rfl ⟨?_, (HB.out.setCell (by simp) _).setCell (by simp) _⟩
          rw [HT6.out]; exact ret_pair hi_zero.symm lo_zero.symm rfl
        · have hbd' : ¬ b < 48 := by omega
          go_wp2
          refine bodyPost_ret (v := .tuple #[cv 0 0, .int .i64 6]) (by simp [results, Try.results24, go_sem, r0, r1]) rfl ⟨?_, (HB.out.setCell (by simp) _).setCell (by simp) _⟩
          rw [HT6.out]; exact ret_pair hi_zero.symm lo_zero.symm rfl
      · obtain ⟨d, hd⟩ : ∃ d, b = 48 + d := ⟨b - 48, by omega⟩
        have hd9 : d ≤ 9 := by omega
        go_wp2
        rw [show (48 + (d : Int) - 48) = (d : Int) by omega]
        obtain ⟨wo, rfl⟩ : ∃ wo : World, wo = wr := ⟨_, rfl⟩
        obtain ⟨g, hg⟩ : ∃ g, wo.heap.size = g := ⟨_, rfl⟩
        rw [hg]
        have H1a := Lib.hid (H1.out.al (.cells #[.int .u64 0, .int .u64 (d : Int)] 24))
        have H0a := Lib.hid (H0.out.al (.cells #[.int .u64 0, .int .u64 (d : Int)] 24))
        have HGa := Lib.hid (show Two (wo.alloc (.cells #[.int .u64 0, .int .u64 (d : Int)] 24)) g (hi d) (lo d) by rw [← hg, hi_small d (by omega), lo_small d (by omega)]; exact two_new)
        have HBa := Lib.hid (below_al HB.out (.cells #[.int .u64 0, .int .u64 (d : Int)] 24))
        have hg1 : w.heap.size + 1 < g := by rw [← hg]; exact H1.out.lt
        have HBd := Lib.hid hb
        have HDd := Lib.hid hd
        clear hg hb hd H1 H0 HB r0 r1 rf0 rf1 c0 c1 cf0 cf1
        go_loopw [7] (fun kv wr => ∃ k : Nat, k ≤ 10 ∧ kv = .int .i64 k ∧ d + k * c < MM ∧ Below w.heap.size w wr ∧ Two wr g (hi (d + k * c)) (lo (d + k * c)) ∧ Two wr (w.heap.size + 1) (hi c) (lo c) ∧ Two wr w.heap.size 0 0)
          (fun kv _ => 10 - (intOf kv).toNat)
        case atStart =>
          refine ⟨0, Nat.zero_le _, rfl, ?_, HBa.out, ?_, H1a.out, H0a.out⟩
          · have : 10 ≤ MM := by decide
            omega
          · rw [Nat.zero_mul, Nat.add_zero]; exact HGa.out
        case round =>
          obtain ⟨k, hk, rfl, hu, hbq, hg', hc', h0'⟩ := hrel
          have G := Lib.hid hg'
          have C := Lib.hid hc'
          have R := Lib.hid h0'
          have BQ := Lib.hid hbq
          have HU := Lib.hid hu
          clear hg' hc' h0' hbq hu
          obtain ⟨u, hu⟩ : ∃ u, d + k * c = u := ⟨_, rfl⟩
          rw [hu] at G
          have HUu := Lib.hid hu
          clear hu
          by_cases hk10 : k < 10
          · obtain ⟨g0, g1, gf0, gf1⟩ := G.out
            obtain ⟨c0, c1, -, -⟩ := C.out
            have hul : u < MM := by rw [← HUu.out]; exact HU.out
            obtain ⟨t, ht⟩ : ∃ t, ad u c = t := ⟨_, rfl⟩
            have HAd : Hid (∀ w, Calls Try.prog 12 #[cn u, cn c] w fun e w' => e = .returned (cn t) ∧ Below w.heap.size w w') := fun w => by rw [← ht]; exact radd_ad u c hul hc w
            have HTt := Lib.hid ht
            clear ht
            go_wp2_with fail
            refine (HAd.out _).mono ?_
            rintro e w1 ⟨rfl, hb1⟩
            have G1 := Lib.hid (G.out.on hb1)
            have C1 := Lib.hid (C.out.on hb1)
            have R1 := Lib.hid (R.out.on hb1)
            have B1 := Lib.hid (below_on BQ.out hb1)
            clear hb1 g0 g1 gf0 gf1 c0 c1
            obtain ⟨g0, g1, gf0, gf1⟩ := G1.out
            have lg := G1.out.lt
            go_wp2_with fail
            refine (less_any t u _).mono ?_
            by_cases hov : u + c < MM
            · have htu : t = u + c := by rw [← HTt.out]; unfold ad; exact Nat.mod_eq_of_lt hov
              rw [decide_eq_false (show ¬ t < u by omega)]
              rintro e w2 ⟨rfl, hb2⟩
              have G2 := Lib.hid ((G1.out.al _).on hb2)
              have C2 := Lib.hid ((C1.out.al _).on hb2)
              have R2 := Lib.hid ((R1.out.al _).on hb2)
              have N2 := Lib.hid (two_new.on hb2)
              have B2 := Lib.hid (below_on (below_al B1.out _) hb2)
              have HTU := Lib.hid htu
              have HOV := Lib.hid hov
              clear hb2 g0 g1 gf0 gf1 lg htu hov
              obtain ⟨g0, g1, gf0, gf1⟩ := G2.out
              obtain ⟨m0, m1, -, -⟩ := N2.out
              go_wp2_with fail
              have e2 : d + (k + 1) * c = t := by rw [HTU.out, ← HUu.out, Nat.add_mul]; omega
              refine ⟨⟨k + 1, by omega, by go_num, ?_, ?_, ?_, ?_, ?_⟩, ?_⟩
              · rw [e2, HTU.out]; exact HOV.out
              · exact (B2.out.setCell (by show _ ≤ g; omega) _).setCell (by show _ ≤ g; omega) _
              · rw [e2]; exact G2.out.set _ _
              · exact C2.out.set_other (by omega) _ _
              · exact R2.out.set_other (by omega) _ _
              · simp [intOf]; omega
            · have htu : t + MM = u + c := by
                rw [← HTt.out]; unfold ad
                rw [Nat.mod_eq_sub_mod (by omega), Nat.mod_eq_of_lt (by omega)]; omega
              rw [decide_eq_true (show t < u by omega)]
              rintro e w2 ⟨rfl, hb2⟩
              have R2 := Lib.hid ((R1.out.al _).on hb2)
              have B2 := Lib.hid (below_on (below_al B1.out _) hb2)
              have HT5 : Hid (T = (0, 5)) := by
                have h1 := HT.out
                have h2 : (k + 1) * c ≤ 10 * c := Nat.mul_le_mul_right _ (by omega)
                have h3 : d + (k + 1) * c = u + c := by rw [← HUu.out, Nat.add_mul]; omega
                rw [HD.out, rgo_big _ _ _ (by rw [HBy.out, HDd.out]; omega) (by rw [HBy.out, HDd.out]; omega) (by rw [HBy.out, HDd.out]; omega)] at h1
                exact h1.symm
              clear hb2 g0 g1 gf0 gf1 lg htu hov
              obtain ⟨r0, r1, rf0, rf1⟩ := R2.out
              go_wp2_with fail
              refine bodyPost_ret (v := .tuple #[cv 0 0, .int .i64 5]) (by simp [results, Try.results24, go_sem, r0, r1]) rfl ⟨?_, (B2.out.setCell (by simp) _).setCell (by simp) _⟩
              rw [HT5.out]; exact ret_pair hi_zero.symm lo_zero.symm rfl
          · have hk' : k = 10 := by omega
            have HK := Lib.hid hk'
            obtain ⟨g0, g1, -, -⟩ := G.out
            obtain ⟨c0, c1, cf0, cf1⟩ := C.out
            clear hk'
            go_wp2_with fail
            refine ⟨⟨i + 1, u, by omega, by go_num, ?_, ?_, ?_, ?_, ?_⟩, ?_⟩
            · rw [← HUu.out]; exact HU.out
            · exact (BQ.out.setCell (by simp) _).setCell (by simp) _
            · exact C.out.set _ _
            · exact R.out.set_other (by omega) _ _
            · have h1 := HT.out
              have h2 := HU.out
              have h3 := HUu.out
              rw [HK.out] at h2 h3
              rw [HD.out, rgo_next _ _ _ (by rw [HBy.out, HDd.out]; omega) (by rw [HBy.out, HDd.out]; omega) (by rw [HBy.out, HDd.out]; omega)] at h1
              rw [← h1, HBy.out, HDd.out]
              congr 1
              omega
            · simp [intOf]; omega
    · have HTc : Hid (T = (c, 0)) := by
        have h1 := HT.out
        rw [drop_end s i (by omega), rgo] at h1
        exact h1.symm
      go_wp2
      refine bodyPost_ret (v := .tuple #[cn c, .int .i64 0]) (by simp [results, Try.results24, go_sem, r0, r1]) rfl ⟨?_, (HB.out.setCell (by simp) _).setCell (by simp) _⟩
      rw [HTc.out]
set_option maxHeartbeats 2000000 in
theorem rparse_more (s : ByteArray) (hs : 0 < s.size) (hm : s.size ≤ maxLen) (h1 : (1 : Int) < (s.size : Int)) (h2 : ((s[0].toNat : Int) == 48) = false) (T : Nat × Int) (hT : Hid (rgo s.data.toList 0 = T)) (w : World) :
    Calls Try.prog 24 #[.string s] w fun e w' => e = .returned (.tuple #[cn T.1, .int .i64 T.2]) ∧ Below w.heap.size w w' := by
  unfold maxLen at hm
  have e1 : ((s.size : Int) == 0) = false := beq_eq_false_iff_ne.2 (by omega)
  go_enter Try.func24, Try.ntmps24
  go_wp2
  go_loopw [5] (fun iv wr => ∃ i c : Nat, i ≤ s.size ∧ iv = .int .i64 i ∧ c < MM ∧ Below w.heap.size w wr ∧ Two wr (w.heap.size + 1) (hi c) (lo c) ∧ Two wr w.heap.size 0 0 ∧ rgo (s.data.toList.drop i) c = T)
    (fun iv _ => s.size - (intOf iv).toNat)
  case atStart =>
    refine ⟨0, 0, Nat.zero_le _, rfl, MM_pos, below_al (below_al (Below.refl _ _) _) _, ?_, two_first, hT.out⟩
    rw [hi_zero, lo_zero]; exact two_second
  case round =>
    obtain ⟨i, c, hi', rfl, hc, hbr, ht1, ht0, hT'⟩ := hrel
    have HT := Lib.hid hT'
    have H1 := Lib.hid ht1
    have H0 := Lib.hid ht0
    have HB := Lib.hid hbr
    obtain ⟨r0, r1, rf0, rf1⟩ := ht0
    obtain ⟨c0, c1, cf0, cf1⟩ := ht1
    clear hT' hT hbr
    by_cases hlt : i < s.size
    · have HD := Lib.hid (drop_byte s i hlt)
      obtain ⟨b, hb⟩ : ∃ b : Nat, s[i].toNat = b := ⟨_, rfl⟩
      have hb255 : b < 256 := by rw [← hb]; exact s[i].toNat_lt
      have HBy := Lib.hid hb
      by_cases hbad : b < 48 ∨ 57 < b
      · have HT6 : Hid (T = (0, 6)) := by
          have h1 := HT.out
          rw [HD.out, rgo_bad _ _ _ (by rw [HBy.out]; exact hbad)] at h1
          exact h1.symm
        rcases hbad with hbd | hbd
        · go_wp2
          refine bodyPost_ret (v := .tuple #[cv 0 0, .int .i64 6]) (by simp [results, Try.results24, go_sem, r0, r1]) rfl ⟨?_, (HB.out.setCell (by simp) _).setCell (by simp) _⟩
          rw [HT6.out]; exact ret_pair hi_zero.symm lo_zero.symm rfl
        · have hbd' : ¬ b < 48 := by omega
          go_wp2
          refine bodyPost_ret (v := .tuple #[cv 0 0, .int .i64 6]) (by simp [results, Try.results24, go_sem, r0, r1]) rfl ⟨?_, (HB.out.setCell (by simp) _).setCell (by simp) _⟩
          rw [HT6.out]; exact ret_pair hi_zero.symm lo_zero.symm rfl
      · obtain ⟨d, hd⟩ : ∃ d, b = 48 + d := ⟨b - 48, by omega⟩
        have hd9 : d ≤ 9 := by omega
        go_wp2
        rw [show (48 + (d : Int) - 48) = (d : Int) by omega]
        obtain ⟨wo, rfl⟩ : ∃ wo : World, wo = wr := ⟨_, rfl⟩
        obtain ⟨g, hg⟩ : ∃ g, wo.heap.size = g := ⟨_, rfl⟩
        rw [hg]
        have H1a := Lib.hid (H1.out.al (.cells #[.int .u64 0, .int .u64 (d : Int)] 24))
        have H0a := Lib.hid (H0.out.al (.cells #[.int .u64 0, .int .u64 (d : Int)] 24))
        have HGa := Lib.hid (show Two (wo.alloc (.cells #[.int .u64 0, .int .u64 (d : Int)] 24)) g (hi d) (lo d) by rw [← hg, hi_small d (by omega), lo_small d (by omega)]; exact two_new)
        have HBa := Lib.hid (below_al HB.out (.cells #[.int .u64 0, .int .u64 (d : Int)] 24))
        have hg1 : w.heap.size + 1 < g := by rw [← hg]; exact H1.out.lt
        have HBd := Lib.hid hb
        have HDd := Lib.hid hd
        clear hg hb hd H1 H0 HB r0 r1 rf0 rf1 c0 c1 cf0 cf1
        go_loopw [7] (fun kv wr => ∃ k : Nat, k ≤ 10 ∧ kv = .int .i64 k ∧ d + k * c < MM ∧ Below w.heap.size w wr ∧ Two wr g (hi (d + k * c)) (lo (d + k * c)) ∧ Two wr (w.heap.size + 1) (hi c) (lo c) ∧ Two wr w.heap.size 0 0)
          (fun kv _ => 10 - (intOf kv).toNat)
        case atStart =>
          refine ⟨0, Nat.zero_le _, rfl, ?_, HBa.out, ?_, H1a.out, H0a.out⟩
          · have : 10 ≤ MM := by decide
            omega
          · rw [Nat.zero_mul, Nat.add_zero]; exact HGa.out
        case round =>
          obtain ⟨k, hk, rfl, hu, hbq, hg', hc', h0'⟩ := hrel
          have G := Lib.hid hg'
          have C := Lib.hid hc'
          have R := Lib.hid h0'
          have BQ := Lib.hid hbq
          have HU := Lib.hid hu
          clear hg' hc' h0' hbq hu
          obtain ⟨u, hu⟩ : ∃ u, d + k * c = u := ⟨_, rfl⟩
          rw [hu] at G
          have HUu := Lib.hid hu
          clear hu
          by_cases hk10 : k < 10
          · obtain ⟨g0, g1, gf0, gf1⟩ := G.out
            obtain ⟨c0, c1, -, -⟩ := C.out
            have hul : u < MM := by rw [← HUu.out]; exact HU.out
            obtain ⟨t, ht⟩ : ∃ t, ad u c = t := ⟨_, rfl⟩
            have HAd : Hid (∀ w, Calls Try.prog 12 #[cn u, cn c] w fun e w' => e = .returned (cn t) ∧ Below w.heap.size w w') := fun w => by rw [← ht]; exact radd_ad u c hul hc w
            have HTt := Lib.hid ht
            clear ht
            go_wp2_with fail
            refine (HAd.out _).mono ?_
            rintro e w1 ⟨rfl, hb1⟩
            have G1 := Lib.hid (G.out.on hb1)
            have C1 := Lib.hid (C.out.on hb1)
            have R1 := Lib.hid (R.out.on hb1)
            have B1 := Lib.hid (below_on BQ.out hb1)
            clear hb1 g0 g1 gf0 gf1 c0 c1
            obtain ⟨g0, g1, gf0, gf1⟩ := G1.out
            have lg := G1.out.lt
            go_wp2_with fail
            refine (less_any t u _).mono ?_
            by_cases hov : u + c < MM
            · have htu : t = u + c := by rw [← HTt.out]; unfold ad; exact Nat.mod_eq_of_lt hov
              rw [decide_eq_false (show ¬ t < u by omega)]
              rintro e w2 ⟨rfl, hb2⟩
              have G2 := Lib.hid ((G1.out.al _).on hb2)
              have C2 := Lib.hid ((C1.out.al _).on hb2)
              have R2 := Lib.hid ((R1.out.al _).on hb2)
              have N2 := Lib.hid (two_new.on hb2)
              have B2 := Lib.hid (below_on (below_al B1.out _) hb2)
              have HTU := Lib.hid htu
              have HOV := Lib.hid hov
              clear hb2 g0 g1 gf0 gf1 lg htu hov
              obtain ⟨g0, g1, gf0, gf1⟩ := G2.out
              obtain ⟨m0, m1, -, -⟩ := N2.out
              go_wp2_with fail
              have e2 : d + (k + 1) * c = t := by rw [HTU.out, ← HUu.out, Nat.add_mul]; omega
              refine ⟨⟨k + 1, by omega, by go_num, ?_, ?_, ?_, ?_, ?_⟩, ?_⟩
              · rw [e2, HTU.out]; exact HOV.out
              · exact (B2.out.setCell (by show _ ≤ g; omega) _).setCell (by show _ ≤ g; omega) _
              · rw [e2]; exact G2.out.set _ _
              · exact C2.out.set_other (by omega) _ _
              · exact R2.out.set_other (by omega) _ _
              · simp [intOf]; omega
            · have htu : t + MM = u + c := by
                rw [← HTt.out]; unfold ad
                rw [Nat.mod_eq_sub_mod (by omega), Nat.mod_eq_of_lt (by omega)]; omega
              rw [decide_eq_true (show t < u by omega)]
              rintro e w2 ⟨rfl, hb2⟩
              have R2 := Lib.hid ((R1.out.al _).on hb2)
              have B2 := Lib.hid (below_on (below_al B1.out _) hb2)
              have HT5 : Hid (T = (0, 5)) := by
                have h1 := HT.out
                have h2 : (k + 1) * c ≤ 10 * c := Nat.mul_le_mul_right _ (by omega)
                have h3 : d + (k + 1) * c = u + c := by rw [← HUu.out, Nat.add_mul]; omega
                rw [HD.out, rgo_big _ _ _ (by rw [HBy.out, HDd.out]; omega) (by rw [HBy.out, HDd.out]; omega) (by rw [HBy.out, HDd.out]; omega)] at h1
                exact h1.symm
              clear hb2 g0 g1 gf0 gf1 lg htu hov
              obtain ⟨r0, r1, rf0, rf1⟩ := R2.out
              go_wp2_with fail
              refine bodyPost_ret (v := .tuple #[cv 0 0, .int .i64 5]) (by simp [results, Try.results24, go_sem, r0, r1]) rfl ⟨?_, (B2.out.setCell (by simp) _).setCell (by simp) _⟩
              rw [HT5.out]; exact ret_pair hi_zero.symm lo_zero.symm rfl
          · have hk' : k = 10 := by omega
            have HK := Lib.hid hk'
            obtain ⟨g0, g1, -, -⟩ := G.out
            obtain ⟨c0, c1, cf0, cf1⟩ := C.out
            clear hk'
            go_wp2_with fail
            refine ⟨⟨i + 1, u, by omega, by go_num, ?_, ?_, ?_, ?_, ?_⟩, ?_⟩
            · rw [← HUu.out]; exact HU.out
            · exact (BQ.out.setCell (by simp) _).setCell (by simp) _
            · exact C.out.set _ _
            · exact R.out.set_other (by omega) _ _
            · have h1 := HT.out
              have h2 := HU.out
              have h3 := HUu.out
              rw [HK.out] at h2 h3
              rw [HD.out, rgo_next _ _ _ (by rw [HBy.out, HDd.out]; omega) (by rw [HBy.out, HDd.out]; omega) (by rw [HBy.out, HDd.out]; omega)] at h1
              rw [← h1, HBy.out, HDd.out]
              congr 1
              omega
            · simp [intOf]; omega
    · have HTc : Hid (T = (c, 0)) := by
        have h1 := HT.out
        rw [drop_end s i (by omega), rgo] at h1
        exact h1.symm
      go_wp2
      refine bodyPost_ret (v := .tuple #[cn c, .int .i64 0]) (by simp [results, Try.results24, go_sem, r0, r1]) rfl ⟨?_, (HB.out.setCell (by simp) _).setCell (by simp) _⟩
      rw [HTc.out]
set_option maxHeartbeats 400000 in
theorem rparse_nought (s : ByteArray) (hm : s.size ≤ maxLen) (hs : 0 < s.size) (h1 : (1 : Int) < (s.size : Int)) (h2 : ((s[0].toNat : Int) == 48) = true) (w : World) :
    Calls Try.prog 24 #[.string s] w fun e w' => e = .returned (.tuple #[cv 0 0, .int .i64 6]) ∧ Below w.heap.size w w' := by
  unfold maxLen at hm
  have e1 : ((s.size : Int) == 0) = false := beq_eq_false_iff_ne.2 (by omega)
  go_enter Try.func24, Try.ntmps24
  go_wp2
  exact bodyPost_ret (v := .tuple #[cv 0 0, .int .i64 6]) (by simp [results, Try.results24, go_sem]) rfl ⟨rfl, below_al (Below.refl _ _) _⟩
set_option maxHeartbeats 400000 in
theorem rparse_empty (w : World) :
    Calls Try.prog 24 #[.string ByteArray.empty] w fun e w' => e = .returned (.tuple #[cv 0 0, .int .i64 6]) ∧ Below w.heap.size w w' := by
  go_enter Try.func24, Try.ntmps24
  go_wp2
  exact bodyPost_ret (v := .tuple #[cv 0 0, .int .i64 6]) (by simp [results, Try.results24, go_sem]) rfl ⟨rfl, below_al (Below.refl _ _) _⟩
theorem size_len (s : ByteArray) : s.data.toList.length = s.size := Array.length_toList ..
theorem head_byte (s : ByteArray) (h : 0 < s.size) : s.data.toList.head? = some s[0] := by
  have := drop_byte s 0 h
  rw [List.drop_zero] at this
  rw [this]; rfl
theorem rparse_any (s : ByteArray) (hm : s.size ≤ maxLen) (w : World) :
    Calls Try.prog 24 #[.string s] w fun e w' => e = .returned (.tuple #[cn (pz s.data.toList).1, .int .i64 (pz s.data.toList).2]) ∧ Below w.heap.size w w' := by
  have hl := size_len s
  by_cases h : 0 < s.size
  · by_cases h1 : s.size ≤ 1
    · exact rparse_one s h hm (by omega) _ (show _ = _ from (pz_rgo _ (by omega) (Or.inl (by omega))).symm) w
    · by_cases h2 : s[0].toNat = 48
      · rw [pz_nought s.data.toList (by omega) (by rw [head_byte s h, show s[0] = 48 from UInt8.toNat_inj.1 h2])]
        have := rparse_nought s hm h (by omega) (by rw [h2]; rfl) w
        rw [show cn (0, (6 : Int)).1 = cv 0 0 from by rw [cn_zero]]
        exact this
      · refine rparse_more s h hm (by omega) (beq_eq_false_iff_ne.2 (by omega)) _ (show _ = _ from (pz_rgo _ (by omega) (Or.inr ?_)).symm) w
        rw [head_byte s h]
        intro h3
        exact h2 (by rw [Option.some.inj h3]; rfl)
  · have h0 : s = ByteArray.empty := by
      apply ByteArray.ext
      apply Array.eq_empty_of_size_eq_zero
      simpa using h
    subst h0
    rw [show pz ByteArray.empty.data.toList = (0, 6) from rfl, show cn (0, (6 : Int)).1 = cv 0 0 from by rw [cn_zero]]
    exact rparse_empty w
end Go.Proofs.Yteinkjlnofmalaa
