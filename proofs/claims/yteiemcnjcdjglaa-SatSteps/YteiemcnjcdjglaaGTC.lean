/- SatCubes's walk (typed by gen/mktc.py). -/
import Derived.Test.YteiemcnjcdjglaaG402e4c2e9c
import Derived.Test.YteiemcnjcdjglaaG9ab65cc214
import Derived.Test.YteiemcnjcdjglaaGa3e04a106f
namespace Go.Proofs.Yteiemcnjcdjglaa
open Go.RowKit Wd Hw
set_option linter.unusedVariables false
set_option linter.unusedSimpArgs false

/-- Bits from one on, as they are listed. -/
def lits (s : Nat) (B : Nat → Bool) (k : Nat) : List (Nat × Bool) := (List.range k).map (fun i => (s + i, B i))
theorem lits_len (s : Nat) (B : Nat → Bool) (k : Nat) : (lits s B k).length = k := by simp [lits]
theorem lits_succ (s : Nat) (B : Nat → Bool) (k : Nat) : lits s B (k + 1) = lits s B k ++ [(s + k, B k)] := by simp [lits, List.range_succ]
theorem lits_rise (s : Nat) (B : Nat → Bool) (k : Nat) (h : s + k ≤ 104) : Rise (lits s B k) := by
  constructor
  · unfold lits
    rw [List.pairwise_map]
    exact List.pairwise_lt_range.imp (fun {i j} q => by show s + i < s + j; omega)
  · intro q hq
    unfold lits at hq
    obtain ⟨i, hi, rfl⟩ := List.mem_map.1 hq
    rw [List.mem_range] at hi
    show s + i < 104
    omega
theorem lits_all {s : Nat} {B : Nat → Bool} {k : Nat} {e : Nat → Bool} (h : allB (lits s B k) e = true) (i : Nat) (hi : i < k) : e (s + i) = B i := by
  unfold allB at h
  rw [List.all_eq_true] at h
  have := h (s + i, B i) (List.mem_map.2 ⟨i, List.mem_range.2 hi, rfl⟩)
  simpa using this
/-- A cube in a new arena of room enough. -/
theorem cube_new {l : List (Nat × Bool)} (h : Rise l) : ∃ q ns, cF 1024 [bot, top] l = (some q, ns) ∧ WF ns ∧ St ns q (allB l) := by
  obtain ⟨q, ns, e, o, s⟩ := cF_big (most := 1024) wf_new h.1 h.2 (bits_new (fun _ => true)) (fun _ _ => rfl) (k := l.length) (Nat.le_refl _) (by have := h.len; simp; omega)
  exact ⟨q, ns, e, o.wf, s⟩
theorem spow (n : Nat) (hn : n ≤ 104) (w : World) : Calls Try.prog 21 #[.int .i64 (n : Nat)] w fun e w' => e = .returned (cn (2 ^ n)) ∧ Below w.heap.size w w' := by
  have := Wd.pow_any ((n : Nat) : Int) w
  rw [upI_in 1 n (by omega), up_pow n (by omega)] at this
  exact this
set_option maxRecDepth 100000 in
set_option maxHeartbeats 8000000 in
theorem scubes_any (B : Nat → Bool) (n : Nat) (la : Option Addr) (lc fr : Nat) (hfr : fr < 256) (W : World) (hL : ∀ b off, la = some ⟨b, off, none⟩ → True) (hR : ∀ i, i < n → ∃ b off, la = some ⟨b, off, none⟩ ∧ W.cell? ⟨b, off + i, none⟩ = some (.bool (B i))) (hlen : n ≤ maxLen) :
    Calls Try.prog 8 #[.slice la n lc, .int .u8 (fr : Nat)] W fun e w' => e = .returned (.bool true) ∧ Below W.heap.size W w' := by
  have CA := Lib.hid (fun w => sawake_any w)
  have CN := Lib.hid (fun w => sNew 1024 (by omega) (by omega) w)
  have HR := Lib.hid hR
  clear hR hL
  go_enter Try.func8, Try.ntmps8
  by_cases hn : n ≤ 104
  · have hn' : ¬ (104 : Int) < (n : Int) := by omega
    go_wp2_with fail
    refine (CN.out _).mono ?_
    rintro e w1 ⟨p, rfl, hS, hb⟩
    have S1 := Lib.hid hS
    have B1 := Lib.hid hb
    clear hS hb CN
    obtain ⟨Z, hZ⟩ : ∃ Z : Nat → Prop, (fun k => k < W.heap.size) = Z := ⟨_, rfl⟩
    rw [hZ] at S1
    have HZ := Lib.hid hZ
    clear hZ
    obtain ⟨st, hst⟩ : ∃ st, fr % (104 - n + 1) = st := ⟨_, rfl⟩
    have hst2 : st + n ≤ 104 := by have := Nat.mod_lt fr (show 0 < 104 - n + 1 by omega); omega
    have hst' : (fr : Int) % (104 - (n : Int) + 1) = (st : Int) := by
      rw [← hst]; rw [show (104 : Int) - (n : Int) + 1 = ((104 - n + 1 : Nat) : Int) by omega]; rfl
    go_upto_region 8 with fail
    rw [hst']
    have HS2 := Lib.hid hst2
    clear hst' hst hst2
    go_wp2_with fail
    go_loopw [8, 36] (fun sv iv' wr => ∃ (v : Value) (k : Nat), sv = v ∧ iv' = .int .i64 (k : Nat) ∧ k ≤ n ∧ Hid (Below w1.heap.size w1 wr) ∧ Hid (wr.ownsRow w1.heap.size 65 2 v k (litCells (natL (lits st B k)))) ∧ Hid (k = 0 → v = .slice none 0 0)) (fun _ iv' _ => n - (intOf iv').toNat)
    case atStart => exact ⟨.slice none 0 0, 0, rfl, rfl, Nat.zero_le _, Lib.hid (Below.refl _ _), Lib.hid (World.ownsRow_nil _ _ _ _), Lib.hid (fun _ => rfl)⟩
    case round =>
      obtain ⟨v, k, rfl, rfl, hk, hB, hO, hV⟩ := hrel
      by_cases hkn : k < n
      · obtain ⟨gb, off, rfl, hc⟩ := HR.out k hkn
        have c_k : wr.cell? ⟨gb, off + k, none⟩ = some (.bool (B k)) := ((bel_on' B1.out hB.out).cell (p := ⟨gb, off + k, none⟩) (cell_lt (o := off + k) (by rw [hc]; rfl))).trans hc
        have hwa : IntKind.i64.wrap ((st : Int) + (k : Int)) = ((st + k : Nat) : Int) := by rw [IntKind.wrap_i64]; have := HS2.out; omega
        have hwk : IntKind.i64.wrap ((k : Int) + 1) = ((k + 1 : Nat) : Int) := by rw [IntKind.wrap_i64]; omega
        have hki : (k : Int) < (n : Int) := by omega
        have hst3 : st ≤ 104 := by have := HS2.out; omega
        obtain ⟨i0, hi0, hz0, hz1, hz2⟩ := einfo_parts infoLit
        have hz : w1.heap.size ≤ wr.heap.size := hB.out.size
        have hown := hO.out
        go_wp2_with (at_builtin; refine wpList_append_own _ rfl _ _ 62 rfl w1.heap.size 65 i0 (.agg #[.int .i64 0, .bool false]) 2 16 Try.underlying62 hi0 hz0 hz1 hz2 rfl (by decide) _ _ _ rfl (hown.alloc _) ⟨wr.heap.size, 0, none⟩ 1 1 [.int .i64 ((st : Int) + (k : Int)), .bool (B k)] rfl rfl ?c1 ?c2 ?c3 ?c4 ?c5 ?_)
        case c1 =>
          intro j x hj
          match j, hj with
          | 0, hj => simp at hj; subst hj; simp [Addr.add, go_sem]
          | 1, hj => simp at hj; subst hj; simp [Addr.add, go_sem]
        case c2 => intro x hx; simp at hx; rcases hx with rfl | rfl <;> rfl
        case c3 => unfold maxLen; omega
        case c4 => omega
        case c5 => simp; omega
        · intro v' w3 hown' hgrow _
          have HO' := Lib.hid hown'
          have HG := Lib.hid hgrow
          clear hown' hgrow hown
          go_wp2_with fail
          have hB2 : Below w1.heap.size w1 w3 := (bel_al hB.out _).grown HG.out (by have := hB.out.size; simp; omega) (fun g e => by have := (World.ownsRow.lt hO.out g e).1; omega)
          refine ⟨⟨v', k + 1, rfl, by first | rfl | rw [hwk], by omega, Lib.hid hB2, Lib.hid ?_, Lib.hid (fun e => by omega)⟩, by simp [intOf] <;> omega⟩
          rw [lits_succ, natL_append, litCells_append]
          exact HO'.out
      · have hkn' : k = n := by omega
        subst hkn'
        have hrise := lits_rise st B k HS2.out
        obtain ⟨q, ns, hcf, hw, hq⟩ := cube_new hrise
        have LA : Hid (LitAt wr w1.heap.size u8 (lits st B k)) := Lib.hid (by
          by_cases h0 : k = 0
          · exact Or.inl ⟨List.eq_nil_of_length_eq_zero (by rw [lits_len]; exact h0), hV.out h0⟩
          · obtain ⟨g, cap, h1, h2, h3, h4⟩ := litC_of hO.out (by rw [natL_len, lits_len]) (by omega)
            exact Or.inr ⟨g, cap, by rw [lits_len]; exact h1, h2, h3, h4⟩)
        obtain ⟨va, vn, vc, hvs⟩ := LA.out.slice
        have SZ := Lib.hid (S1.out.grow hB.out (Y := fun i => w1.heap.size ≤ i ∧ i < wr.heap.size) (fun i h => h))
        have CC := Lib.hid (sCubeAt SZ.out hrise LA.out (Hold.of (Below.refl _ _)) (fun g h1 h2 => Or.inr ⟨h1, h2⟩))
        rw [hcf] at CC
        have HQ := Lib.hid hq
        have HWf := Lib.hid hw
        have BW := Lib.hid (bel_on' B1.out hB.out)
        have LN := Lib.hid (lits_len st B k)
        have hq0 : q ≠ 0 := by
          intro e
          have m1 := many_all hrise.1 hrise.2
          have m2 := (many_zero hw hq.1).2 e
          rw [many_st hq] at m2
          have m3 : many (allB (lits st B k)) = 2 ^ (104 - (lits st B k).length) := m1.2
          rw [m2] at m3
          have := Nat.pow_pos (n := 104 - (lits st B k).length) (show 0 < 2 by omega)
          omega
        have HQ0 := Lib.hid hq0
        have HRi := Lib.hid hrise
        clear hcf hw hq hq0 hrise S1 B1 hB hO hV
        subst hvs
        clear LA SZ
        replace CC : Hid (Calls Try.prog 31 #[.pointer (some ⟨p, 0, none⟩), .slice va vn vc] wr fun e w' => e = .returned (.tuple #[.int .i64 (q : Nat), .int .i64 0]) ∧ Sta (fun i => Z i ∨ (w1.heap.size ≤ i ∧ i < wr.heap.size)) p w' 1024 ns ∧ Hold (fun i => Z i ∨ (w1.heap.size ≤ i ∧ i < wr.heap.size)) wr w') := CC
        go_wp2_with fail
        refine CC.out.mono ?_
        rintro e w2 ⟨rfl, hS, hH⟩
        have S2 := Lib.hid hS
        have B2 := Lib.hid (show Below W.heap.size W w2 from BW.out.trans (hH.below BW.out.size (fun i hi => Or.inl (by rw [← HZ.out]; exact hi))))
        clear hS hH CC BW
        obtain ⟨ZZ, hZZ⟩ : ∃ ZZ : Nat → Prop, (fun i => Z i ∨ (w1.heap.size ≤ i ∧ i < wr.heap.size)) = ZZ := ⟨_, rfl⟩
        rw [hZZ] at S2
        clear hZZ
        have LF := Lib.hid HQ.out.1
        have U1 := Lib.hid (utm_of HWf.out false LF.out HQ0.out)
        have CLe := Lib.hid (fun w (h : Sta ZZ p w 1024 ns) => sLeast h q LF.out HQ0.out)
        obtain ⟨a1, ha1⟩ : ∃ x, (uW ns false q 104).1 = x := ⟨_, rfl⟩
        obtain ⟨b1, hb1⟩ : ∃ x, (uW ns false q 104).2 = x := ⟨_, rfl⟩
        rw [ha1, hb1] at U1 CLe
        clear ha1 hb1
        have CCo := Lib.hid (fun w (h : Sta ZZ p w 1024 ns) => sCount h q LF.out)
        rw [many_st HQ.out] at CCo
        have hma : many (allB (lits st B k)) = 2 ^ (104 - k) := by have := (many_all HRi.out.1 HRi.out.2).2; rw [LN.out] at this; exact this
        rw [hma] at CCo
        obtain ⟨rn, r1, r2, r3⟩ := cube_nodes HWf.out (lits st B k) q HRi.out.1 HRi.out.2 LF.out HQ.out.2
        rw [LN.out] at r2
        have hmt : Mt ns [q] rn := ⟨fun x => by rw [r3]; simp, r1⟩
        have CNo := Lib.hid (fun w (h : Sta ZZ p w 1024 ns) (cap : Nat) => sNodes1 h LF.out hmt cap)
        rw [r2] at CNo
        have CPo : Hid (∀ w, Calls Try.prog 21 #[.int .i64 (104 - (k : Int))] w fun e w' => e = .returned (cn (2 ^ (104 - k))) ∧ Below w.heap.size w w') := Lib.hid (fun w => by
          have := spow (104 - k) (by omega) w
          rw [show ((104 - k : Nat) : Int) = 104 - (k : Int) by omega] at this
          exact this)
        have KB : Hid (∀ i w, i < k → Calls Try.prog 30 #[hw a1 b1, .int .i64 ((st : Int) + (i : Int))] w fun e w' => e = .returned (.bool (B i)) ∧ Below w.heap.size w w') := Lib.hid (fun i w hi => by
          have h1 := bits_w a1 b1 ((st : Int) + (i : Int)) U1.out.wb w
          have h2 := U1.out.mem
          rw [HQ.out.2] at h2
          have h3 := lits_all h2 i hi
          have h4 : (decide ((a1 &&& ma ((st : Int) + (i : Int))) ≠ 0) || decide ((b1 &&& mb ((st : Int) + (i : Int))) ≠ 0)) = B i := by
            rw [← h3]; unfold tE tb; rw [show ((st + i : Nat) : Int) = (st : Int) + (i : Int) by omega]
          rw [h4] at h1
          exact h1)
        obtain ⟨cc, hcc⟩ : ∃ c, (2 : Nat) ^ (104 - k) = c := ⟨_, rfl⟩
        rw [hcc] at CCo CPo
        have HST := Lib.hid (show st ≤ 104 by have := HS2.out; omega)
        clear hcc hma r1 r2 r3 hmt U1 HQ HQ0 HRi LN HWf LF
        as_aux_lemma =>
          go_wp2_with fail
          refine (CLe.out w2 S2.out).mono ?_
          rintro e w3 ⟨rfl, hb⟩
          have S3 := Lib.hid (S2.out.on hb)
          have B3 := Lib.hid (bel_on' B2.out hb)
          clear hb S2 B2 
          go_upto_region 15 with fail
          refine at_code (S := fun w => Blk w w3.heap.size [.int .u32 (fd (a1) : Nat), .int .u32 (fs (a1) : Nat), .int .u8 (fd (b1) : Nat), .int .u16 (fx (b1) : Nat), .int .u16 (fy (b1) : Nat)] ∧ Below w3.heap.size w3 w) ⟨Blk.new _ _ _, bel_al (Below.refl _ _) _⟩ (fun w4 hW => ?_)
          obtain ⟨hX, hb⟩ := hW
          have X4 := Lib.hid hX
          have S4 := Lib.hid (S3.out.on hb)
          have B4 := Lib.hid (bel_on' B3.out hb)
          clear hX hb S3 B3 
          go_wp2_with fail
          refine (CCo.out w4 S4.out).mono ?_
          rintro e w5 ⟨rfl, hb⟩
          have S5 := Lib.hid (S4.out.on hb)
          have B5 := Lib.hid (bel_on' B4.out hb)
          have X5 := Lib.hid (X4.out.on hb)
          clear hb S4 B4 X4
          go_wp2_with fail
          refine (CPo.out w5).mono ?_
          rintro e w6 ⟨rfl, hb⟩
          have S6 := Lib.hid (S5.out.on hb)
          have B6 := Lib.hid (bel_on' B5.out hb)
          have X6 := Lib.hid (X5.out.on hb)
          clear hb S5 B5 X5
          go_wp2_with fail
          refine (CNo.out w6 S6.out _).mono ?_
          rintro e w7 ⟨rfl, hb⟩
          have S7 := Lib.hid (S6.out.on hb)
          have B7 := Lib.hid (bel_on' B6.out hb)
          have X7 := Lib.hid (X6.out.on hb)
          clear hb S6 B6 X6
          clear CCo CPo CNo CLe
          go_wp2_with fail
          go_loopw [89] (fun iv' wr => ∃ (i : Nat), iv' = .int .i64 (i : Nat) ∧ i ≤ k ∧ Hid (Blk wr w3.heap.size [.int .u32 (fd (a1) : Nat), .int .u32 (fs (a1) : Nat), .int .u8 (fd (b1) : Nat), .int .u16 (fx (b1) : Nat), .int .u16 (fy (b1) : Nat)]) ∧ Hid (Below W.heap.size W wr)) (fun iv' _ => k - (intOf iv').toNat)
          case atStart => exact ⟨0, rfl, Nat.zero_le _, X7, B7⟩
          case round =>
            obtain ⟨i, rfl, hi, Xi, Bi⟩ := hrel
            clear X7 B7 S7
            by_cases hik : i < k
            · obtain ⟨gb, off, rfl, hc⟩ := HR.out i hik
              have c_k : wr.cell? ⟨gb, off + i, none⟩ = some (.bool (B i)) := (Bi.out.cell (p := ⟨gb, off + i, none⟩) (cell_lt (o := off + i) (by rw [hc]; rfl))).trans hc
              have hwi : IntKind.i64.wrap ((i : Int) + 1) = ((i + 1 : Nat) : Int) := by rw [IntKind.wrap_i64]; omega
              have hst3 : st ≤ 104 := HST.out
              have CB := Lib.hid (fun w => KB.out i w hik)
              generalize B i = bi at *
              obtain ⟨x_0, x_1, x_2, x_3, x_4⟩ : _ ∧ _ ∧ _ ∧ _ ∧ _ := ⟨Xi.out.1 0 _ rfl, Xi.out.1 1 _ rfl, Xi.out.1 2 _ rfl, Xi.out.1 3 _ rfl, Xi.out.1 4 _ rfl⟩
              go_wp2_with fail
              refine (CB.out _).mono ?_
              rintro e w8 ⟨rfl, hb⟩
              have X8 := Lib.hid (Xi.out.on hb)
              have B8 := Lib.hid (bel_on' Bi.out hb)
              clear hb Xi Bi CB x_0 x_1 x_2 x_3 x_4 c_k
              go_wp2_with fail
              refine ⟨⟨i + 1, ?_, by omega, X8, B8⟩, by simp [intOf] <;> omega⟩
              first | rfl | rw [hwi]
            · have hik' : i = k := by omega
              subst hik'
              go_wp2_with fail
              refine (CA.out _).mono ?_
              rintro e w8 ⟨rfl, hb⟩
              have B8 := Lib.hid (bel_on' Bi.out hb)
              clear hb
              go_wp2
              go_ret
              exact ⟨rfl, B8.out⟩

  · have hn' : (104 : Int) < (n : Int) := by omega
    go_wp2_with fail
    refine (CA.out _).mono ?_
    rintro e w2 ⟨rfl, hb⟩
    have B2 := Lib.hid hb
    clear hb
    go_wp2
    go_ret
    exact ⟨rfl, B2.out⟩
end Go.Proofs.Yteiemcnjcdjglaa
