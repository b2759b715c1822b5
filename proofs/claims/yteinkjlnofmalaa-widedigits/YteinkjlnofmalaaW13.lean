/- A count in digits, as the document's own answer has it: what its Print answers. -/
import Derived.Test.YteinkjlnofmalaaW11
import Derived.Test.YteinkjlnofmalaaAlong2
import Derived.Deep.CutBlock
import Derived.Deep.DeepCutAuto
namespace Go.Proofs.Yteinkjlnofmalaa
open Go.RowKit
set_option linter.unusedVariables false

/-- The cells of the first n powers of ten. -/
def tenCells : Nat → List Value
  | 0 => []
  | n + 1 => tenCells n ++ [.int .u64 (hi (10 ^ n)), .int .u64 (lo (10 ^ n))]
theorem tenCells_length : ∀ n, (tenCells n).length = n * 2
  | 0 => rfl
  | n + 1 => by rw [tenCells, List.length_append, tenCells_length n]; simp; omega
theorem tenCells_get : ∀ (n i : Nat), i < n → (tenCells n)[i * 2]? = some (.int .u64 (hi (10 ^ i))) ∧ (tenCells n)[i * 2 + 1]? = some (.int .u64 (lo (10 ^ i)))
  | 0, _, h => by omega
  | n + 1, i, h => by
    have hl := tenCells_length n
    by_cases e : i = n
    · subst e
      rw [tenCells]
      constructor
      · rw [List.getElem?_append_right (by omega), hl]; simp
      · rw [List.getElem?_append_right (by omega), hl]; simp
    · obtain ⟨h1, h2⟩ := tenCells_get n i (by omega)
      rw [tenCells]
      constructor
      · rw [List.getElem?_append_left (by omega)]; exact h1
      · rw [List.getElem?_append_left (by omega)]; exact h2
/-- The slice v holds the first n powers of ten, in a block of the call's own. -/
def Tens (w : World) (base : Nat) (v : Value) (n : Nat) : Prop := w.ownsRow base 24 2 v n (tenCells n)
theorem Tens.form {w : World} {base n : Nat} {v : Value} (h : Tens w base v n) (hn : 1 ≤ n) :
    ∃ g cap, v = .slice (some ⟨g, 0, none⟩) n cap ∧ base ≤ g ∧ g < w.heap.size ∧ n ≤ cap ∧ cap ≤ maxLen ∧ ∀ i, i < n → w.cell? ⟨g, i * 2, none⟩ = some (.int .u64 (hi (10 ^ i))) ∧ w.cell? ⟨g, i * 2 + 1, none⟩ = some (.int .u64 (lo (10 ^ i))) := by
  obtain ⟨h1, ⟨h2, h3⟩ | ⟨g, cap, cur, h2, h3, h4, h5, h6, h7, h8⟩⟩ := h
  · omega
  · refine ⟨g, cap, h2, h3, (Array.getElem?_eq_some_iff.1 h4).1, h5, h6, fun i hi => ?_⟩
    have hc : ∀ j, j < n * 2 → w.cell? ⟨g, j, none⟩ = (tenCells n)[j]? := fun j hj => by
      rw [← h8, List.getElem?_take_of_lt hj]
      simp [World.cell?, h4]
    obtain ⟨a, b⟩ := tenCells_get n i hi
    exact ⟨(hc _ (by omega)).trans a, (hc _ (by omega)).trans b⟩
theorem Tens.on {w w' : World} {base n : Nat} {v : Value} (h : Tens w base v n) (hn : 1 ≤ n) (hb : Below w.heap.size w w') : Tens w' base v n := by
  obtain ⟨h1, ⟨h2, h3⟩ | ⟨g, cap, cur, h2, h3, h4, rest⟩⟩ := h
  · omega
  · exact ⟨h1, Or.inr ⟨g, cap, cur, h2, h3, (hb.block g (Array.getElem?_eq_some_iff.1 h4).1).trans h4, rest⟩⟩
theorem Tens.al {w : World} {base n : Nat} {v : Value} (h : Tens w base v n) (hn : 1 ≤ n) (o : Obj) : Tens (w.alloc o) base v n := h.on hn ((Below.refl _ _).alloc (Nat.le_refl _) o)
theorem Tens.far {w : World} {base n : Nat} {v : Value} (h : Tens w base v n) (hn : 1 ≤ n) (p : Addr) (x : Value) (hp : ∀ g c, v = .slice (some ⟨g, 0, none⟩) n c → p.block ≠ g) : Tens (w.setCell p x) base v n := by
  obtain ⟨h1, ⟨h2, h3⟩ | ⟨g, cap, cur, h2, h3, h4, rest⟩⟩ := h
  · omega
  · exact ⟨h1, Or.inr ⟨g, cap, cur, h2, h3, (Below.heap_setCell w p x g (Ne.symm (hp g cap h2))).trans h4, rest⟩⟩

theorem infoRef : (Try.prog.info? 24).map (fun i => (i.zero, i.size, i.bytes)) = some (some (.agg #[.int .u64 0, .int .u64 0]), 2, 16) := by kernel_rfl
/-- How long a slice is. -/
def lenOf : Value → Nat
  | .slice _ n _ => n
  | _ => 0
theorem Two.of_block {w w' : World} {b : Nat} {x y : Int} (h : Two w b x y) (e : w'.heap[b]? = w.heap[b]?) : Two w' b x y := by
  obtain ⟨h0, h1, f0, f1⟩ := h
  exact ⟨(World.cell?_of_block (w := w) (a := ⟨b, 0, none⟩) e).trans h0, (World.cell?_of_block (w := w) (a := ⟨b, 1, none⟩) e).trans h1, (World.frozen?_of_block (w := w) (a := ⟨b, 0, none⟩) e).trans f0, (World.frozen?_of_block (w := w) (a := ⟨b, 1, none⟩) e).trans f1⟩
theorem pow_n (n : Nat) (h : 1 ≤ n) : 10 ^ n = 10 * 10 ^ (n - 1) := by
  rw [← Nat.pow_succ', show (n - 1).succ = n by omega]
theorem high_out (P : Nat) (h : 1844674407370955161 < hi P) : MM ≤ 10 * P := by unfold hi at h; unfold MM; omega
theorem nd_of (n a : Nat) (h1 : 1 ≤ n) (h2 : a < 10 * 10 ^ (n - 1)) (h3 : 2 ≤ n → 10 ^ (n - 1) ≤ a) : nd a = n := nd_eq n a h1 (by rw [pow_n n h1]; exact h2) h3
theorem n_le (n : Nat) (h : 10 ^ (n - 1) < MM) : n ≤ 39 := by
  rcases Nat.lt_or_ge 39 n with h1 | h1
  · have h3 : 10 ^ 39 ≤ 10 ^ (n - 1) := Nat.pow_le_pow_right (by decide) (by omega)
    have := ten39
    omega
  · exact h1
theorem high_in (n : Nat) (hn : 1 ≤ n) (h : ¬ 1844674407370955161 < hi (10 ^ (n - 1))) (h2 : 10 ^ (n - 1) < MM) : 10 * 10 ^ (n - 1) < MM := by
  have h3 := n_le n h2
  by_cases e : n = 39
  · subst e; exact absurd (by decide) h
  · rw [← pow_n n hn]
    have h4 : 10 ^ n ≤ 10 ^ 38 := Nat.pow_le_pow_right (by decide) (by omega)
    have := ten38
    omega

/-- 'string([]byte{byte(48 + d)})' of a new block. -/
theorem conv_one (d : Nat) (hd : d ≤ 9) (w : World) :
    (convert 53 9 (.slice (some ⟨w.heap.size, 0, none⟩) 1 1)).run Try.prog (w.alloc (.cells #[.int .u8 (48 + (d : Int))] 5)) = .ok (.string ⟨#[UInt8.ofNat (48 + d)]⟩) (w.alloc (.cells #[.int .u8 (48 + (d : Int))] 5)) := by
  have h := run_convert_bytes_back (P := Try.prog) (w.alloc (.cells #[.int .u8 (48 + (d : Int))] 5)) 53 9 5 ⟨w.heap.size, 0, none⟩ 1 [UInt8.ofNat (48 + d)] Try.underlying53 Try.underlying5 Try.underlying9 (fun j hj => by
    simp at hj
    subst hj
    simp [Addr.add, go_sem]
    omega)
  exact h
theorem ten_at {w : World} {base g n cap : Nat} (h : Tens w base (.slice (some ⟨g, 0, none⟩) n cap) n) (hn : 1 ≤ n) (j : Nat) (hj : j < n) :
    w.cell? ⟨g, j * 2, none⟩ = some (.int .u64 (hi (10 ^ j))) ∧ w.cell? ⟨g, j * 2 + 1, none⟩ = some (.int .u64 (lo (10 ^ j))) := by
  obtain ⟨g', cap', e, -, -, -, -, h5⟩ := h.form hn
  simp at e
  obtain ⟨rfl, rfl⟩ := e
  exact h5 j hj
set_option maxHeartbeats 4000000 in
theorem rprint_any (a : Nat) (ha : a < MM) (w : World) :
    Calls Try.prog 23 #[cn a] w fun e w' => e = .returned (.string ⟨(dig a).toArray⟩) ∧ Below w.heap.size w w' := by
  go_enter Try.func23, Try.ntmps23
  go_upto_block 0 with fail
  go_cut [3] (fun v wx => Below w.heap.size w wx ∧ Tens wx (w.heap.size + 1) v (nd a) ∧ Two wx w.heap.size (hi a) (lo a))
  case first =>
    go_wp2_with fail
    go_loopw [3] (fun v wr => ∃ n, 1 ≤ n ∧ 10 ^ (n - 1) < MM ∧ (2 ≤ n → 10 ^ (n - 1) ≤ a) ∧ Below w.heap.size w wr ∧ Tens wr (w.heap.size + 1) v n ∧ Two wr w.heap.size (hi a) (lo a))
      (fun v _ => 40 - lenOf v)
    case atStart =>
      refine ⟨1, Nat.le_refl _, by decide, by omega, below_al (below_al (Below.refl _ _) _) _, ?_, two_first⟩
      refine ⟨rfl, Or.inr ⟨w.heap.size + 1, 1, #[.int .u64 0, .int .u64 1], rfl, Nat.le_refl _, ?_, Nat.le_refl _, by decide, rfl, rfl⟩⟩
      show ((w.heap.push _).push _)[w.heap.size + 1]? = _
      rw [Array.getElem?_push, if_pos (by simp)]
    case round =>
      obtain ⟨n, hn1, hn2, hn3, hB, hT, h2⟩ := hrel
      obtain ⟨g, cap, rfl, hg1, hg2, hg3, hg4, hg5⟩ := hT.form hn1
      obtain ⟨p0, p1⟩ := hg5 (n - 1) (by omega)
      have hn39 := n_le n hn2
      obtain ⟨P, hP⟩ : ∃ P, 10 ^ (n - 1) = P := ⟨_, rfl⟩
      rw [hP] at p0 p1 hn2 hn3
      have HN3 := Lib.hid hn3
      have HP := Lib.hid hP
      have HT := Lib.hid hT
      have H2 := Lib.hid h2
      have HB := Lib.hid hB
      obtain ⟨a0, a1, -, -⟩ := h2
      clear hg5 hT hB hP hn3
      unfold maxLen at hg4
      by_cases hk : 1844674407370955161 < hi P
      · go_wp2_with fail
        go_meet
        have e := nd_of n a hn1 (by rw [HP.out]; exact Nat.lt_of_lt_of_le ha (high_out P hk)) (by rw [HP.out]; exact HN3.out)
        rw [e]
        exact ⟨below_al HB.out _, HT.out.al hn1 _, H2.out.al _⟩
      · have hP10 : 10 * P < MM := by have := high_in n hn1 (by rw [HP.out]; exact hk) (by rw [HP.out]; exact hn2); rw [HP.out] at this; exact this
        go_wp2_with fail
        obtain ⟨wo, rfl⟩ : ∃ wo : World, wo = wr := ⟨_, rfl⟩
        obtain ⟨h4, hh4⟩ : ∃ h4, wo.heap.size = h4 := ⟨_, rfl⟩
        rw [hh4]
        have S2 := Lib.hid ((H2.out.al (.cells #[.int .u64 (hi P), .int .u64 (lo P)] 24)).al (.cells #[.int .u64 0, .int .u64 0] 24))
        have S4 := Lib.hid (show Two ((wo.alloc (.cells #[.int .u64 (hi P), .int .u64 (lo P)] 24)).alloc (.cells #[.int .u64 0, .int .u64 0] 24)) h4 (hi P) (lo P) by rw [← hh4]; exact two_first)
        have S5 := Lib.hid (show Two ((wo.alloc (.cells #[.int .u64 (hi P), .int .u64 (lo P)] 24)).alloc (.cells #[.int .u64 0, .int .u64 0] 24)) (h4 + 1) 0 0 by rw [← hh4]; exact two_second)
        have ST := Lib.hid ((HT.out.al hn1 (.cells #[.int .u64 (hi P), .int .u64 (lo P)] 24)).al hn1 (.cells #[.int .u64 0, .int .u64 0] 24))
        have SB := Lib.hid (below_al (below_al HB.out (.cells #[.int .u64 (hi P), .int .u64 (lo P)] 24)) (.cells #[.int .u64 0, .int .u64 0] 24))
        have hwh : w.heap.size < h4 := by rw [← hh4]; exact H2.out.lt
        have hgh : g < h4 := by rw [← hh4]; exact hg2
        clear hh4 HT H2 HB p0 p1 a0 a1 hg2
        go_loopw [6] (fun iv wr => ∃ i : Nat, i ≤ 10 ∧ iv = .int .i64 i ∧ Below w.heap.size w wr ∧ Two wr (h4 + 1) (hi (i * P)) (lo (i * P)) ∧ Two wr h4 (hi P) (lo P) ∧ Two wr w.heap.size (hi a) (lo a) ∧ Tens wr (w.heap.size + 1) (.slice (some ⟨g, 0, none⟩) n cap) n)
          (fun iv _ => 10 - (intOf iv).toNat)
        case atStart =>
          refine ⟨0, Nat.zero_le _, rfl, SB.out, ?_, S4.out, S2.out, ST.out⟩
          rw [Nat.zero_mul, hi_zero, lo_zero]; exact S5.out
        case round =>
          obtain ⟨i, hi10, rfl, hB, h5, h4', h2, hT⟩ := hrel
          have K5 := Lib.hid h5
          have K4 := Lib.hid h4'
          have K2 := Lib.hid h2
          have KT := Lib.hid hT
          have KB := Lib.hid hB
          clear h5 h4' h2 hT hB S2 S4 S5 ST SB
          by_cases hlt : i < 10
          · obtain ⟨u, hu⟩ : ∃ u, i * P = u := ⟨_, rfl⟩
            obtain ⟨u', hu'⟩ : ∃ u', (i + 1) * P = u' := ⟨_, rfl⟩
            have hle : (i + 1) * P ≤ 10 * P := Nat.mul_le_mul_right _ (by omega)
            have huu : u + P = u' := by rw [← hu, ← hu', Nat.add_mul]; omega
            have HA : Hid (∀ w, Calls Try.prog 12 #[cn u, cn P] w fun e w' => e = .returned (cn u') ∧ Below w.heap.size w w') := fun w => by
              have := radd_ad u P (by omega) (by omega) w
              rw [show ad u P = u' from by unfold ad; rw [huu]; exact Nat.mod_eq_of_lt (by omega)] at this
              exact this
            rw [hu] at K5
            have HU := Lib.hid hu'
            clear hu hu' huu hle
            obtain ⟨c0, c1, -, -⟩ := K5.out
            obtain ⟨b0, b1, -, -⟩ := K4.out
            go_wp2_with fail
            refine (HA.out _).mono ?_
            rintro e w1 ⟨rfl, hb1⟩
            have L5 := Lib.hid (K5.out.on hb1)
            have L4 := Lib.hid (K4.out.on hb1)
            have L2 := Lib.hid (K2.out.on hb1)
            have LT := Lib.hid (KT.out.on hn1 hb1)
            have LB := Lib.hid (below_on KB.out hb1)
            clear hb1 c0 c1 b0 b1
            obtain ⟨c0, c1, cf0, cf1⟩ := L5.out
            go_wp2_with fail
            refine ⟨⟨i + 1, by omega, by go_num, ?_, ?_, ?_, ?_, ?_⟩, ?_⟩
            · exact (LB.out.setCell (by show _ ≤ h4 + 1; omega) _).setCell (by show _ ≤ h4 + 1; omega) _
            · rw [HU.out]; exact L5.out.set _ _
            · exact L4.out.set_other (by omega) _ _
            · exact L2.out.set_other (by omega) _ _
            · exact (LT.out.far hn1 _ _ (fun g' c' e => by simp at e; show h4 + 1 ≠ g'; omega)).far hn1 _ _ (fun g' c' e => by simp at e; show h4 + 1 ≠ g'; omega)
            · simp [intOf]; omega
          · have hi' : i = 10 := by omega
            subst hi'
            obtain ⟨u, hu⟩ : ∃ u, 10 * P = u := ⟨_, rfl⟩
            rw [hu] at K5
            have hul : u < MM := by omega
            have HU := Lib.hid hu
            clear hu
            obtain ⟨c0, c1, -, -⟩ := K5.out
            obtain ⟨b0, b1, -, -⟩ := K2.out
            go_wp2_with fail
            refine (less_any a u _).mono ?_
            by_cases hau : a < u
            · rw [decide_eq_true hau]
              rintro e w1 ⟨rfl, hb1⟩
              go_wp2_with fail
              go_meet
              have e := nd_of n a hn1 (by rw [HP.out, HU.out]; exact hau) (by rw [HP.out]; exact HN3.out)
              rw [e]
              exact ⟨below_on KB.out hb1, KT.out.on hn1 hb1, K2.out.on hb1⟩
            · rw [decide_eq_false hau]
              rintro e w1 ⟨rfl, hb1⟩
              have L5 := Lib.hid (K5.out.on hb1)
              have L2 := Lib.hid (K2.out.on hb1)
              have LT := Lib.hid (KT.out.on hn1 hb1)
              have LB := Lib.hid (below_on KB.out hb1)
              clear hb1 c0 c1 b0 b1
              obtain ⟨c0, c1, -, -⟩ := L5.out
              obtain ⟨i0, hi0, hz0, hz1, hz2⟩ := info_parts infoRef
              have hown := LT.out
              have l2 := L2.out.lt
              go_wp2_with (at_builtin; refine wpList_append_own _ rfl _ _ 56 rfl (w.heap.size + 1) 24 i0 (.agg #[.int .u64 0, .int .u64 0]) 2 16 Try.underlying56 hi0 hz0 hz1 hz2 rfl (by decide) _ _ _ rfl (hown.alloc _) ⟨w1.heap.size, 0, none⟩ 1 1 [.int .u64 (hi u), .int .u64 (lo u)] rfl rfl ?c1 ?c2 ?c3 ?c4 ?c5 ?_)
              case c1 =>
                intro j x hj
                match j, hj with
                | 0, hj => simp at hj; subst hj; simp [Addr.add, go_sem]
                | 1, hj => simp at hj; subst hj; simp [Addr.add, go_sem]
              case c2 => intro x hx; simp at hx; rcases hx with rfl | rfl <;> rfl
              case c3 => unfold maxLen; omega
              case c4 => omega
              case c5 => have := LB.out.size; simp; omega
              · intro v' w2 hown' hgrow _
                have HO := Lib.hid hown'
                have HG := Lib.hid hgrow
                clear hown' hgrow hown
                go_wp2_with fail
                have eu : 10 ^ n = u := by rw [pow_n n hn1, HP.out, HU.out]
                have eT : Tens w2 (w.heap.size + 1) v' (n + 1) := by
                  have h := HO.out
                  unfold Tens
                  rw [tenCells, eu]
                  exact h
                obtain ⟨g', cap', rfl, -, -, -, -, -⟩ := eT.form (by omega)
                refine ⟨⟨n + 1, by omega, by rw [show n + 1 - 1 = n by omega, eu]; exact hul, fun _ => by rw [show n + 1 - 1 = n by omega, eu]; omega, ?_, eT, ?_⟩, by simp [lenOf]; omega⟩
                · exact (below_al LB.out _).grown HG.out (by have := LB.out.size; simp; omega) (fun k e => by simp [Value.ownBlock] at e; omega)
                · exact (L2.out.al _).of_block (HG.out.block _ (by simp; omega) (by simp [Value.ownBlock]; omega))
  case rest =>
    obtain ⟨hB, hT, h2⟩ := hcut
    obtain ⟨n, hn⟩ : ∃ n, nd a = n := ⟨_, rfl⟩
    have hn1 : 1 ≤ n := by rw [← hn]; exact nd_pos a
    have hnh : a < 10 ^ n := by rw [← hn]; exact nd_hi a
    have HDg : Hid (dig a = digN n a) := by show _ = _; rw [dig, hn]
    rw [hn] at hT
    obtain ⟨g, cap, rfl, hg1, hg2, hg3, hg4, -⟩ := hT.form hn1
    unfold maxLen at hg4
    have HT := Lib.hid hT
    have H2 := Lib.hid h2
    have HB := Lib.hid hB
    have hn39 : n ≤ 39 := by
      rcases Nat.lt_or_ge 39 n with h | h
      · have h1 := nd_lo a (by omega)
        rw [hn] at h1
        have h3 : 10 ^ 39 ≤ 10 ^ (n - 1) := Nat.pow_le_pow_right (by decide) (by omega)
        have := ten39
        omega
      · exact h
    clear hn hT h2 hB
    go_wp2_with fail
    go_loopw [7, 8] (fun sv iv wr => ∃ (k : Nat) (l : List UInt8), k ≤ n ∧ iv = .int .i64 ((k : Int) - 1) ∧ sv = .string ⟨l.toArray⟩ ∧ l ++ digN k a = digN n a ∧ Below w.heap.size w wr ∧ Two wr w.heap.size (hi (a % 10 ^ k)) (lo (a % 10 ^ k)) ∧ Tens wr (w.heap.size + 1) (.slice (some ⟨g, 0, none⟩) n cap) n)
      (fun _ iv _ => (intOf iv + 1).toNat)
    case atStart =>
      refine ⟨n, [], Nat.le_refl _, rfl, rfl, rfl, HB.out, ?_, HT.out⟩
      rw [Nat.mod_eq_of_lt hnh]; exact H2.out
    case round =>
      obtain ⟨k, l, hk, rfl, rfl, hl, hB, h2, hT⟩ := hrel
      have HL := Lib.hid hl
      have K2 := Lib.hid h2
      have KT := Lib.hid hT
      have KB := Lib.hid hB
      clear hl h2 hT hB HT H2 HB
      by_cases hk0 : k = 0
      · subst hk0
        have hneg : ¬ (0 : Int) ≤ ((0 : Nat) : Int) - 1 := by omega
        go_wp2_with fail
        go_ret
        refine ⟨?_, KB.out⟩
        have h := HL.out
        rw [show digN 0 a = [] from rfl, List.append_nil] at h
        rw [HDg.out, ← h]
        rfl
      · obtain ⟨j, rfl⟩ : ∃ j, k = j + 1 := ⟨k - 1, by omega⟩
        rw [show (((j + 1 : Nat) : Int) - 1) = (j : Int) by omega]
        have hj : j < n := by omega
        have hjI : (j : Int) < (n : Int) := by omega
        have hj0 : (0 : Int) ≤ (j : Int) := by omega
        obtain ⟨P, hP⟩ : ∃ P, 10 ^ j = P := ⟨_, rfl⟩
        obtain ⟨r, hr⟩ : ∃ r, a % 10 ^ (j + 1) = r := ⟨_, rfl⟩
        rw [hr] at K2
        have hP1 : 1 ≤ P := by rw [← hP]; exact Nat.one_le_pow _ _ (by decide)
        have hPM : P < MM := by
          have h4 : 10 ^ j ≤ 10 ^ 38 := Nat.pow_le_pow_right (by decide) (by omega)
          have := ten38
          omega
        have hrP : r < 10 * P := by rw [← hr, ← hP, ← Nat.pow_succ']; exact Nat.mod_lt _ (Nat.pow_pos (by decide))
        have hra : r < MM := by rw [← hr]; exact Nat.lt_of_le_of_lt (Nat.mod_le _ _) ha
        have HP := Lib.hid hP
        have HR := Lib.hid hr
        have hll : l.length ≤ 38 := by
          have h := congrArg List.length HL.out
          rw [List.length_append, digN_length, digN_length] at h
          omega
        clear hP hr hk0
        go_wp2_with fail
        obtain ⟨wo, rfl⟩ : ∃ wo : World, wo = wr := ⟨_, rfl⟩
        go_loopw [9] (fun dv wr => ∃ d : Nat, dv = .int .i64 d ∧ d * P ≤ r ∧ Below w.heap.size w wr ∧ Two wr w.heap.size (hi (r - d * P)) (lo (r - d * P)) ∧ Tens wr (w.heap.size + 1) (.slice (some ⟨g, 0, none⟩) n cap) n)
          (fun dv _ => 10 - (intOf dv).toNat)
        case atStart =>
          refine ⟨0, rfl, by omega, KB.out, ?_, KT.out⟩
          rw [Nat.zero_mul, Nat.sub_zero]; exact K2.out
        case round =>
          obtain ⟨d, rfl, hd, hB, h2, hT⟩ := hrel
          have hd9 : d ≤ 9 := by
            rcases Nat.lt_or_ge 9 d with h | h
            · have : 10 * P ≤ d * P := Nat.mul_le_mul_right _ h
              omega
            · exact h
          obtain ⟨q, hq⟩ : ∃ q, r - d * P = q := ⟨_, rfl⟩
          rw [hq] at h2
          have hqM : q < MM := by omega
          have HQ := Lib.hid hq
          have HD' := Lib.hid hd
          have K2 := Lib.hid h2
          have KT := Lib.hid hT
          have KB := Lib.hid hB
          clear h2 hT hB hq hd
          obtain ⟨t0, t1⟩ := ten_at KT.out hn1 j hj
          rw [HP.out] at t0 t1
          obtain ⟨x0, x1, xf0, xf1⟩ := K2.out
          by_cases hqP : q < P
          · have HLe : Hid (∀ w, Calls Try.prog 9 #[cn q, cn P] w fun e w' => e = .returned (.bool true) ∧ Below w.heap.size w w') := fun w => by
              have := less_any q P w
              rw [decide_eq_true hqP] at this
              exact this
            go_wp2_with fail
            have KT := Lib.hid (show Tens wr.drew (w.heap.size + 1) (.slice (some ⟨g, 0, none⟩) n cap) n from KT.out)
            have K2 := Lib.hid (show Two wr.drew w.heap.size (hi q) (lo q) from K2.out)
            refine wp_region_noPanic ?_
            refine wp_region_along (S := fun w' => Below w.heap.size w w' ∧ w'.cell? ⟨g, j * 2, none⟩ = some (.int .u64 (hi P)) ∧ w'.cell? ⟨g, j * 2 + 1, none⟩ = some (.int .u64 (lo P))) ([(1, true), (2, true), (3, true), (4, true), (0, false), (5, false), (6, true)]) (by kernel_rfl) (by as_aux_lemma => kernel_rfl) (by kernel_rfl) (by kernel_rfl) (by as_aux_lemma => kernel_rfl) (by as_aux_lemma => kernel_rfl) (fun _ _ _ _ _ h => h) ⟨KB.out.drew, t0, t1⟩ (fun hH => ?_)
            simp only [stepsOf, pickOp]
            refine along_pure ?_ (by rfl) (fun w hSw => ?_) ?_
            rotate_left
            · (try dsimp only at hSw); go_simp; try with_reducible rfl
            try simp only [Act.put, List.setIfInBounds_toArray, List.set_cons_zero, List.set_cons_succ]
            refine along_pure ?_ (by rfl) (fun w hSw => ?_) ?_
            rotate_left
            · (try dsimp only at hSw); go_simp; try with_reducible rfl
            try simp only [Act.put, List.setIfInBounds_toArray, List.set_cons_zero, List.set_cons_succ]
            refine along_pure ?_ (by rfl) (fun w hSw => ?_) ?_
            rotate_left
            · (try dsimp only at hSw); go_simp; try with_reducible rfl
            try simp only [Act.put, List.setIfInBounds_toArray, List.set_cons_zero, List.set_cons_succ]
            refine along_pure ?_ (by rfl) (fun w hSw => ?_) ?_
            rotate_left
            · (try dsimp only at hSw); go_simp; try with_reducible rfl
            try simp only [Act.put, List.setIfInBounds_toArray, List.set_cons_zero, List.set_cons_succ]
            refine along_bar (fun K hK => ?_)
            go_simp
            refine hK.out _ _ hH (fun hH' => ?_)
            clear hK K hH
            have hH := hH'
            clear hH'
            try simp only [Act.put, List.setIfInBounds_toArray, List.set_cons_zero, List.set_cons_succ]
            refine along_bar (fun K hK => ?_)
            go_simp
            refine (HLe.out _).mono ?_
            rintro e w' ⟨rfl, hbx⟩
            try go_wp2_with fail
            have KT' := Lib.hid (KT.out.on hn1 hbx)
            have K2' := Lib.hid (K2.out.on hbx)
            have kf := ten_at KT'.out hn1 j hj
            rw [HP.out] at kf
            refine hK.out _ _ ⟨below_on hH.1 hbx, kf.1, kf.2⟩ (fun hH' => ?_)
            clear hK K hH
            have hH := hH'
            clear hH'
            have KT := KT'
            have K2 := K2'
            clear KT' K2' hbx kf x0 x1 xf0 xf1
            obtain ⟨x0, x1, xf0, xf1⟩ := K2.out
            try simp only [Act.put, List.setIfInBounds_toArray, List.set_cons_zero, List.set_cons_succ]
            refine along_pure ?_ (by rfl) (fun w hSw => ?_) ?_
            rotate_left
            · (try dsimp only at hSw); go_simp; try with_reducible rfl
            try simp only [Act.put, List.setIfInBounds_toArray, List.set_cons_zero, List.set_cons_succ]
            refine along_end (NoPanic.normal ?_)
            have HB16 := Lib.hid hH.1
            clear hH t0 t1
            have hcv := fun wx => conv_one d hd9 wx
            go_wp2_with fail
            have hdq : a / P % 10 = d := by
              have h1 := HQ.out
              have h2 := HD'.out
              have e1 : r = d * P + q := by omega
              have e2 : r / P = d := by rw [e1, Nat.mul_comm, Nat.mul_add_div (by omega), Nat.div_eq_of_lt hqP, Nat.add_zero]
              rw [← e2, ← HR.out, ← HP.out, Nat.pow_succ, Nat.mod_mul_right_div_self]
            have hmq : a % 10 ^ j = q := by
              have h1 := HQ.out
              have h2 := HD'.out
              have e1 : r = q + P * d := by rw [Nat.mul_comm]; omega
              have e3 : r % P = q := by rw [e1, Nat.add_mul_mod_self_left, Nat.mod_eq_of_lt hqP]
              rw [← e3, ← HR.out, ← HP.out, Nat.pow_succ, Nat.mod_mul_right_mod]
            refine ⟨⟨j, l ++ [UInt8.ofNat (48 + d)], by omega, by go_num, ?_, ?_, ?_, ?_, ?_⟩, ?_⟩
            · congr 1
              apply ByteArray.ext
              simp
            · rw [List.append_assoc, List.singleton_append, ← hdq, ← HP.out, ← digN_front]; exact HL.out
            · exact below_al HB16.out _
            · rw [hmq]; exact K2.out.al _
            · exact KT.out.al hn1 _
            · simp [intOf]
          · have HLe : Hid (∀ w, Calls Try.prog 9 #[cn q, cn P] w fun e w' => e = .returned (.bool false) ∧ Below w.heap.size w w') := fun w => by
              have := less_any q P w
              rw [decide_eq_false hqP] at this
              exact this
            obtain ⟨q2, hq2⟩ : ∃ q2, q - P = q2 := ⟨_, rfl⟩
            have HSb : Hid (∀ w, Calls Try.prog 14 #[cn q, cn P] w fun e w' => e = .returned (cn q2) ∧ Below w.heap.size w w') := fun w => by
              have := rsub_any q P hqM hPM w
              rw [show sb q P = q2 from by unfold sb; rw [show q + MM - P = q2 + MM by omega, Nat.add_mod_right, Nat.mod_eq_of_lt (by omega)]] at this
              exact this
            have HQ2 := Lib.hid hq2
            clear hq2
            go_wp2_with fail
            have KT := Lib.hid (show Tens wr.drew (w.heap.size + 1) (.slice (some ⟨g, 0, none⟩) n cap) n from KT.out)
            have K2 := Lib.hid (show Two wr.drew w.heap.size (hi q) (lo q) from K2.out)
            refine wp_region_noPanic ?_
            refine wp_region_along (S := fun w' => Below w.heap.size w w' ∧ w'.cell? ⟨g, j * 2, none⟩ = some (.int .u64 (hi P)) ∧ w'.cell? ⟨g, j * 2 + 1, none⟩ = some (.int .u64 (lo P))) ([(1, true), (2, true), (3, true), (4, true), (0, false), (5, false), (6, true)]) (by kernel_rfl) (by as_aux_lemma => kernel_rfl) (by kernel_rfl) (by kernel_rfl) (by as_aux_lemma => kernel_rfl) (by as_aux_lemma => kernel_rfl) (fun _ _ _ _ _ h => h) ⟨KB.out.drew, t0, t1⟩ (fun hH => ?_)
            simp only [stepsOf, pickOp]
            refine along_pure ?_ (by rfl) (fun w hSw => ?_) ?_
            rotate_left
            · (try dsimp only at hSw); go_simp; try with_reducible rfl
            try simp only [Act.put, List.setIfInBounds_toArray, List.set_cons_zero, List.set_cons_succ]
            refine along_pure ?_ (by rfl) (fun w hSw => ?_) ?_
            rotate_left
            · (try dsimp only at hSw); go_simp; try with_reducible rfl
            try simp only [Act.put, List.setIfInBounds_toArray, List.set_cons_zero, List.set_cons_succ]
            refine along_pure ?_ (by rfl) (fun w hSw => ?_) ?_
            rotate_left
            · (try dsimp only at hSw); go_simp; try with_reducible rfl
            try simp only [Act.put, List.setIfInBounds_toArray, List.set_cons_zero, List.set_cons_succ]
            refine along_pure ?_ (by rfl) (fun w hSw => ?_) ?_
            rotate_left
            · (try dsimp only at hSw); go_simp; try with_reducible rfl
            try simp only [Act.put, List.setIfInBounds_toArray, List.set_cons_zero, List.set_cons_succ]
            refine along_bar (fun K hK => ?_)
            go_simp
            refine hK.out _ _ hH (fun hH' => ?_)
            clear hK K hH
            have hH := hH'
            clear hH'
            try simp only [Act.put, List.setIfInBounds_toArray, List.set_cons_zero, List.set_cons_succ]
            refine along_bar (fun K hK => ?_)
            go_simp
            refine (HLe.out _).mono ?_
            rintro e w' ⟨rfl, hbx⟩
            try go_wp2_with fail
            have KT' := Lib.hid (KT.out.on hn1 hbx)
            have K2' := Lib.hid (K2.out.on hbx)
            have kf := ten_at KT'.out hn1 j hj
            rw [HP.out] at kf
            refine hK.out _ _ ⟨below_on hH.1 hbx, kf.1, kf.2⟩ (fun hH' => ?_)
            clear hK K hH
            have hH := hH'
            clear hH'
            have KT := KT'
            have K2 := K2'
            clear KT' K2' hbx kf x0 x1 xf0 xf1
            obtain ⟨x0, x1, xf0, xf1⟩ := K2.out
            try simp only [Act.put, List.setIfInBounds_toArray, List.set_cons_zero, List.set_cons_succ]
            refine along_pure ?_ (by rfl) (fun w hSw => ?_) ?_
            rotate_left
            · (try dsimp only at hSw); go_simp; try with_reducible rfl
            try simp only [Act.put, List.setIfInBounds_toArray, List.set_cons_zero, List.set_cons_succ]
            refine along_end (NoPanic.normal ?_)
            have HB16 := Lib.hid hH.1
            clear hH t0 t1
            obtain ⟨t0, t1⟩ := ten_at KT.out hn1 j hj
            rw [HP.out] at t0 t1
            go_wp2_with fail
            have KT := Lib.hid (show Tens w'.drew (w.heap.size + 1) (.slice (some ⟨g, 0, none⟩) n cap) n from KT.out)
            have K2 := Lib.hid (show Two w'.drew w.heap.size (hi q) (lo q) from K2.out)
            refine wp_region_noPanic ?_
            refine wp_region_along (S := fun w' => Below w.heap.size w w' ∧ w'.cell? ⟨g, j * 2, none⟩ = some (.int .u64 (hi P)) ∧ w'.cell? ⟨g, j * 2 + 1, none⟩ = some (.int .u64 (lo P))) ([(1, true), (2, true), (3, true), (4, true), (0, false), (5, false), (6, false)]) (by kernel_rfl) (by as_aux_lemma => kernel_rfl) (by kernel_rfl) (by kernel_rfl) (by as_aux_lemma => kernel_rfl) (by as_aux_lemma => kernel_rfl) (fun _ _ _ _ _ h => h) ⟨HB16.out.drew, t0, t1⟩ (fun hH => ?_)
            simp only [stepsOf, pickOp]
            refine along_pure ?_ (by rfl) (fun w hSw => ?_) ?_
            rotate_left
            · (try dsimp only at hSw); go_simp; try with_reducible rfl
            try simp only [Act.put, List.setIfInBounds_toArray, List.set_cons_zero, List.set_cons_succ]
            refine along_pure ?_ (by rfl) (fun w hSw => ?_) ?_
            rotate_left
            · (try dsimp only at hSw); go_simp; try with_reducible rfl
            try simp only [Act.put, List.setIfInBounds_toArray, List.set_cons_zero, List.set_cons_succ]
            refine along_pure ?_ (by rfl) (fun w hSw => ?_) ?_
            rotate_left
            · (try dsimp only at hSw); go_simp; try with_reducible rfl
            try simp only [Act.put, List.setIfInBounds_toArray, List.set_cons_zero, List.set_cons_succ]
            refine along_pure ?_ (by rfl) (fun w hSw => ?_) ?_
            rotate_left
            · (try dsimp only at hSw); go_simp; try with_reducible rfl
            try simp only [Act.put, List.setIfInBounds_toArray, List.set_cons_zero, List.set_cons_succ]
            refine along_bar (fun K hK => ?_)
            go_simp
            refine hK.out _ _ hH (fun hH' => ?_)
            clear hK K hH
            have hH := hH'
            clear hH'
            try simp only [Act.put, List.setIfInBounds_toArray, List.set_cons_zero, List.set_cons_succ]
            refine along_bar (fun K hK => ?_)
            go_simp
            refine (HSb.out _).mono ?_
            rintro e w' ⟨rfl, hbx⟩
            try go_wp2_with fail
            have KT' := Lib.hid (KT.out.on hn1 hbx)
            have K2' := Lib.hid (K2.out.on hbx)
            have kf := ten_at KT'.out hn1 j hj
            rw [HP.out] at kf
            refine hK.out _ _ ⟨below_on hH.1 hbx, kf.1, kf.2⟩ (fun hH' => ?_)
            clear hK K hH
            have hH := hH'
            clear hH'
            have KT := KT'
            have K2 := K2'
            clear KT' K2' hbx kf x0 x1 xf0 xf1
            obtain ⟨x0, x1, xf0, xf1⟩ := K2.out
            try simp only [Act.put, List.setIfInBounds_toArray, List.set_cons_zero, List.set_cons_succ]
            refine along_bar (fun K hK => ?_)
            go_simp
            have kf := ten_at ((KT.out.far hn1 ⟨w.heap.size, 0, none⟩ (.int .u64 (hi q2)) (fun g' c' e => by simp at e; show w.heap.size ≠ g'; omega)).far hn1 ⟨w.heap.size, 1, none⟩ (.int .u64 (lo q2)) (fun g' c' e => by simp at e; show w.heap.size ≠ g'; omega)) hn1 j hj
            rw [HP.out] at kf
            refine hK.out _ _ ⟨(hH.1.setCell (by simp) _).setCell (by simp) _, kf.1, kf.2⟩ (fun hH' => ?_)
            clear hK K hH
            have hH := hH'
            clear hH'
            clear kf
            try simp only [Act.put, List.setIfInBounds_toArray, List.set_cons_zero, List.set_cons_succ]
            refine along_end (NoPanic.normal ?_)
            have HB17 := Lib.hid hH.1
            have J2 := Lib.hid (K2.out.set (hi q2) (lo q2))
            have JT := Lib.hid ((KT.out.far hn1 ⟨w.heap.size, 0, none⟩ (.int .u64 (hi q2)) (fun g' c' e => by simp at e; show w.heap.size ≠ g'; omega)).far hn1 ⟨w.heap.size, 1, none⟩ (.int .u64 (lo q2)) (fun g' c' e => by simp at e; show w.heap.size ≠ g'; omega))
            clear hH t0 t1 x0 x1 xf0 xf1
            go_wp2_with fail
            have e3 : (d + 1) * P = d * P + P := by rw [Nat.add_mul, Nat.one_mul]
            have h1 := HQ.out
            have h2 := HD'.out
            have h3 := HQ2.out
            refine ⟨⟨d + 1, by go_num, by omega, HB17.out, ?_, JT.out⟩, by simp [intOf]; omega⟩
            rw [show r - (d + 1) * P = q2 by omega]
            exact J2.out
end Go.Proofs.Yteinkjlnofmalaa
