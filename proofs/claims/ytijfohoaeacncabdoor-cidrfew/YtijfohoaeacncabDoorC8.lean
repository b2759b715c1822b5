/- CidrFew's call answers true for any range and port. -/
import Derived.Test.YtijfohoaeacncabDoorC6
namespace Go.Proofs.YtijfohoaeacncabDoor
open Go.RowKit
set_option linter.unusedVariables false

theorem blks_one (p : Nat) : blks (p + 1 - p) p (p + 1) = [(p, 0)] := by
  rw [show p + 1 - p = 0 + 1 by omega, blks, if_pos (by omega), show p + 1 - p = 1 by omega]
  have : fr p 1 = 0 := by
    unfold fr
    rw [show Lib.bitLen 1 - 1 = 0 from by decide]
    omega
  rw [this]; rfl
theorem blks_all : blks (65535 + 1 - 0) 0 (65535 + 1) = [(0, 16)] := by
  rw [show 65535 + 1 - 0 = 65535 + 1 from rfl, blks, if_pos (by omega), show fr 0 (65535 + 1 - 0) = 16 from by decide +kernel, blks_end _ _ _ (by decide)]
theorem count_take (L : List (Nat × Nat)) (f : Nat × Nat → Bool) (i : Nat) (x : Nat × Nat) (h : L[i]? = some x) : (L.take (i + 1)).countP f = (L.take i).countP f + if f x then 1 else 0 := by
  have hi : i < L.length := by
    rcases Nat.lt_or_ge i L.length with h1 | h1
    · exact h1
    · rw [List.getElem?_eq_none h1] at h; cases h
  rw [List.take_succ_eq_append_getElem hi, List.countP_append, List.countP_singleton]
  rw [List.getElem?_eq_getElem hi] at h
  injection h with h
  rw [h]
theorem blks_k16 : ∀ (f low e i : Nat) (x : Nat × Nat), e ≤ 65536 → e - low ≤ f → (blks f low e)[i]? = some x → x.2 ≤ 16 ∧ x.1 < 65536 := by
  intro f
  induction f with
  | zero => intro low e i x _ _ h; simp [blks] at h
  | succ f ih =>
    intro low e i x he hf h
    by_cases c : low < e
    · rw [blks, if_pos c] at h
      obtain ⟨k1, -, -, -, -⟩ := fr_spec low (e - low) (by omega) (by omega) (by omega)
      have hp := Nat.pow_pos (n := fr low (e - low)) (show 0 < 2 by decide)
      cases i with
      | zero => simp at h; subst h; exact ⟨k1, by show low < _; omega⟩
      | succ i => exact ih (low + 2 ^ fr low (e - low)) e i x he (by omega) (by simpa using h)
    · rw [blks, if_neg c] at h; simp at h
set_option maxRecDepth 100000 in
set_option maxHeartbeats 4000000 in
theorem cidrFew_any (l h p : Nat) (hl : l < 65536) (hh : h < 65536) (hp : p < 65536) (w : World) (ht : DbTab w) :
    Calls Tryd.prog 6 #[.int .u16 p, .agg #[.int .u16 l, .int .u16 h]] w fun e w' => e = .returned (.bool true) ∧ Below w.heap.size w w' := by
  have hB1 := fun w ht => blocks_any p p hp hp w ht
  have hB2 := fun w ht => blocks_any 0 65535 (by omega) (by omega) w ht
  have hB3 := fun w ht => blocks_any l h hl hh w ht
  have hL32 := blks_len l (h + 1) (by omega)
  have hcnt := blks_count (h + 1 - l) l (h + 1) p (Nat.le_refl _) (by omega)
  have hk16 := fun i x hx => blks_k16 (h + 1 - l) l (h + 1) i x (by omega) (Nat.le_refl _) hx
  rw [blks_one] at hB1
  rw [blks_all] at hB2
  obtain ⟨L, hL⟩ : ∃ L, blks (h + 1 - l) l (h + 1) = L := ⟨_, rfl⟩
  rw [hL] at hB3 hL32 hcnt hk16
  have HB1 := Lib.hid hB1
  have HB2 := Lib.hid hB2
  have HB3 := Lib.hid hB3
  have HC := Lib.hid hcnt
  have HK := Lib.hid hk16
  have HT0 := Lib.hid (ht.al (Obj.cells #[.int .u16 l, .int .u16 h] 27))
  clear hL ht hB1 hB2 hB3 hcnt hk16
  go_enter Tryd.func6, Tryd.ntmps6
  go_wp2_with fail
  refine (HB1.out _ HT0.out).mono ?_
  rintro e w1 ⟨v1, rfl, b1, s1⟩
  have z0 : w1.cell? ⟨w.heap.size, 0, none⟩ = some (.int .u16 l) := by rw [b1.cell (p := ⟨w.heap.size, 0, none⟩) (by simp)]; simp [go_sem]
  have z1 : w1.cell? ⟨w.heap.size, 1, none⟩ = some (.int .u16 h) := by rw [b1.cell (p := ⟨w.heap.size, 1, none⟩) (by simp)]; simp [go_sem]
  have hz1 : w.heap.size < w1.heap.size := by have := b1.size; simp at this; omega
  have HT1 := Lib.hid (HT0.out.on b1)
  have BB1 := Lib.hid (cbelow_on (cbelow_al (Below.refl w.heap.size w) _) b1)
  have S1 := Lib.hid s1
  clear b1 s1 HT0
  go_wp2_with fail
  refine (HB2.out _ HT1.out).mono ?_
  rintro e w2 ⟨v2, rfl, b2, s2⟩
  have y0 := (b2.cell (p := ⟨w.heap.size, 0, none⟩) hz1).trans z0
  have y1 := (b2.cell (p := ⟨w.heap.size, 1, none⟩) hz1).trans z1
  have hz2 : w.heap.size < w2.heap.size := by have := b2.size; omega
  have HT2 := Lib.hid (HT1.out.on b2)
  have BB2 := Lib.hid (cbelow_on BB1.out b2)
  obtain ⟨g, cap, rfl, -, -, c0, c1⟩ := (S1.out.on b2).cellAt 0 _ rfl
  obtain ⟨g', cap', rfl, -, -, d0, d1⟩ := s2.cellAt 0 _ rfl
  clear b2 s2 HT1 BB1 S1 z0 z1
  simp at c0 c1 d0 d1
  go_wp2_with fail
  refine (HB3.out _ HT2.out).mono ?_
  rintro e w3 ⟨v3, rfl, b3, s3⟩
  have x0 := (b3.cell (p := ⟨w.heap.size, 0, none⟩) hz2).trans y0
  have x1 := (b3.cell (p := ⟨w.heap.size, 1, none⟩) hz2).trans y1
  have hz3 : w.heap.size < w3.heap.size := by have := b3.size; omega
  have HT3 := Lib.hid (HT2.out.on b3)
  have BB3 := Lib.hid (cbelow_on BB2.out b3)
  obtain ⟨a3, cap3, rfl, hcap⟩ := s3.form
  have S3 := Lib.hid s3
  clear b3 s3 HT2 BB2 y0 y1 c0 c1 d0 d1 HB1 HB2 HB3
  go_wp2_with fail
  go_loopw [8, 44] (fun nv iv wr => ∃ i n : Nat, iv = .int .i64 i ∧ nv = .int .i64 n ∧ i ≤ L.length ∧ n ≤ i ∧ (L.take i).countP (inK p) = n ∧ Below w3.heap.size w3 wr) (fun _ iv _ => L.length - (intOf iv).toNat)
  case atStart => exact ⟨0, 0, rfl, rfl, Nat.zero_le _, Nat.le_refl _, rfl, Below.refl _ _⟩
  case round =>
    obtain ⟨i, n, rfl, rfl, hi, hn, hc, hbr⟩ := hrel
    have HCn := Lib.hid hc
    have HBr := Lib.hid hbr
    have q0 := (hbr.cell (p := ⟨w.heap.size, 0, none⟩) hz3).trans x0
    have q1 := (hbr.cell (p := ⟨w.heap.size, 1, none⟩) hz3).trans x1
    clear hc hbr
    by_cases hlt : i < L.length
    · have hg : L[i]? = some L[i] := List.getElem?_eq_getElem hlt
      obtain ⟨⟨x, k⟩, hx⟩ : ∃ y, L[i] = y := ⟨_, rfl⟩
      rw [hx] at hg
      obtain ⟨hk, hx16⟩ := HK.out i _ hg
      have HCt := Lib.hid (count_take L (inK p) i _ hg)
      obtain ⟨g, cap', ev, -, hgl, t0, t1⟩ := (S3.out.on HBr.out).cellAt i _ hg
      simp at ev
      obtain ⟨rfl, rfl⟩ := ev
      obtain ⟨q, hq⟩ : ∃ q, 2 ^ k = q := ⟨_, rfl⟩
      have hqI : (2 : Int) ^ k = (q : Int) := by rw [← hq]; exact (Int.natCast_pow 2 k).symm
      have hpos : 0 < q := by rw [← hq]; exact Nat.pow_pos (by decide)
      obtain ⟨B, hB⟩ : ∃ B : Int, 16 - (k : Int) = B := ⟨_, rfl⟩
      simp only [hB] at t1
      simp only at hk hx16 t0
      have hB16 : 16 - B = (k : Int) := by omega
      have hBw : IntKind.i64.wrap (16 - B) = (k : Int) := by rw [hB16, IntKind.wrap_i64]; omega
      obtain ⟨u, hu⟩ : ∃ u, p / q = u := ⟨_, rfl⟩
      obtain ⟨v, hv⟩ : ∃ v, x / q = v := ⟨_, rfl⟩
      have huI : (p : Int) / (q : Int) = (u : Int) := by rw [← hu]; simp
      have hvI : (x : Int) / (q : Int) = (v : Int) := by rw [← hv]; simp
      have hin : inK p (x, k) = decide (u = v) := by unfold inK; simp only [hq, hu, hv]
      have HIn := Lib.hid hin
      have hu0 : q = 65536 → u = 0 ∧ v = 0 := fun e => by subst e; omega
      have HBB := Lib.hid hB
      have HQ := Lib.hid hq
      have HU := Lib.hid hu0
      clear hx hg hin hq hu hv hB hu0
      by_cases cuv : u = v
      · have HN : Hid ((L.take (i + 1)).countP (inK p) = n + 1) := by
          show _ = _
          rw [HCt.out, HCn.out, HIn.out, decide_eq_true cuv]; rfl
        subst cuv
        go_wp2_with fail
        go_quiet (fail)
        go_wp2_with fail
        refine ⟨⟨i + 1, n + 1, by go_num, by go_num, by omega, by omega, HN.out, below_drewN (cbelow_al HBr.out _) _⟩, ?_⟩
        simp [intOf]; omega
      · have HN : Hid ((L.take (i + 1)).countP (inK p) = n) := by
          show _ = _
          rw [HCt.out, HCn.out, HIn.out, decide_eq_false cuv]; rfl
        have e1 : ((u : Int) == (v : Int)) = false := by simp; omega
        have e3 : (u == v) = false := by simp; omega
        have hB0 : ¬ B = 0 := fun h0 => cuv (by
          have : k = 16 := by have := HBB.out; omega
          have h1 := HQ.out
          rw [this] at h1
          obtain ⟨h2, h3⟩ := HU.out h1.symm
          omega)
        have e2 : (B == 0) = false := by simp; exact hB0
        go_wp2_with fail
        go_quiet (fail)
        go_wp2_with fail
        refine ⟨⟨i + 1, n, by go_num, rfl, by omega, by omega, HN.out, below_drewN (cbelow_al HBr.out _) _⟩, ?_⟩
        simp [intOf]; omega
    · have hge : ¬ (i : Int) < (L.length : Int) := by omega
      have HE : Hid ((if l ≤ p ∧ p < h + 1 then 1 else 0) = n) := by
        show _ = _
        rw [← HC.out, ← HCn.out, List.take_of_length_le (by omega)]
      have HA := Lib.hid (cawake_any wr (HT3.out.on HBr.out))
      have HI := Lib.hid (fun w => in_any l h p w)
      have hlt4 : w.heap.size < wr.heap.size := by have := HBr.out.size; omega
      go_wp2_with fail
      refine HA.out.mono ?_
      rintro e w4 ⟨rfl, hb4⟩
      have o0 := (hb4.cell (p := ⟨w.heap.size, 0, none⟩) hlt4).trans q0
      have o1 := (hb4.cell (p := ⟨w.heap.size, 1, none⟩) hlt4).trans q1
      have HB4 := Lib.hid (cbelow_on (cbelow_on BB3.out HBr.out) hb4)
      clear hb4 x0 x1 q0 q1
      go_wp2_with fail
      refine (HI.out _).mono ?_
      rintro e w5 ⟨rfl, rfl⟩
      by_cases c : l ≤ p ∧ p < h + 1
      · have hn1 := HE.out
        rw [if_pos c] at hn1
        subst hn1
        have hin : inR l h p = true := by unfold inR; exact decide_eq_true (by omega)
        rw [hin]
        go_wp2
        go_ret
        exact ⟨cret_bool (by simp; try omega), cbelow_al HB4.out _⟩
      · have hn1 := HE.out
        rw [if_neg c] at hn1
        subst hn1
        have hin : inR l h p = false := by unfold inR; exact decide_eq_false (by omega)
        rw [hin]
        go_wp2
        go_ret
        exact ⟨cret_bool (by simp; try omega), cbelow_al HB4.out _⟩
end Go.Proofs.YtijfohoaeacncabDoor
