/- Texts joined, in their order: LI, C3. -/
import Derived.Test.YtgcbngephokegabGd5e3a1818d
import Derived.Test.YtgcbngephokegabG6a8027c005
import Derived.LoopN
import Derived.Deep.CutBlock
import Derived.Test.YtgcbngephokegabG8b7a4b7559
import Derived.Laws.MakeOwn
/- The document's In: which of the sets have a header. -/
namespace Go.Proofs.Ytgcbngephokegab
open Go.RowKit
set_option linter.unusedVariables false

def bvals (s : Sem) (E : Env) : List Value := s.map fun φ => .bool (φ E)
theorem row_formB {w : World} {base : Nat} {t : TypeId} {v : Value} {s : Sem} {E : Env} {n : Nat} (h : w.ownsRow base t 1 v n (bvals s E)) (hn : s.length = n) (hp : 0 < n) : ∃ g cap, v = .slice (some ⟨g, 0, none⟩) n cap ∧ ∀ i, i < n → w.cell? ⟨g, i, none⟩ = some (.bool (nth s ((i : Nat) : Int) E)) := by
  subst hn
  rcases h.2 with ⟨e, q⟩ | ⟨g, cap, cur, e, q1, q2, q3⟩
  · omega
  · refine ⟨g, cap, e, fun i hi => ?_⟩
    subst e
    rw [World.ownsRow.cellAt h i (by omega)]
    unfold bvals nth
    rw [List.getElem?_map, List.getElem?_eq_getElem hi, Int.toNat_natCast, List.getD_eq_getElem?_getD, List.getElem?_eq_getElem hi]
    rfl
theorem row_low {w : World} {base base' : Nat} {t : TypeId} {sz n : Nat} {v : Value} {xs : List Value} (h : w.ownsRow base t sz v n xs) (hb : base' ≤ base) : w.ownsRow base' t sz v n xs := by
  refine ⟨h.1, ?_⟩
  rcases h.2 with q | ⟨g, cap, cur, e, q1, q2⟩
  · exact Or.inl q
  · exact Or.inr ⟨g, cap, cur, e, Nat.le_trans hb q1, q2⟩
/-- What In leaves. -/
def RIn (w : World) (L : List Ex) (E : Env) (e : Ending) (w' : World) : Prop := ∃ v, e = .returned v ∧ Below w.heap.size w w' ∧ w'.ownsRow w.heap.size 4 1 v L.length (bvals (semL [] L) E)
theorem hinfo_parts3 {P : Program} {t : TypeId} {z : Value} {s b : Nat} (h : (P.info? t).map (fun i => (i.zero, i.size, i.bytes)) = some (some z, s, b)) : ∃ i, P.info? t = some i ∧ i.zero = some z ∧ i.size = s ∧ i.bytes = b := by
  rw [Option.map_eq_some_iff] at h
  obtain ⟨i, hi, he⟩ := h
  simp only [Prod.mk.injEq] at he
  exact ⟨i, hi, he.1, he.2.1, he.2.2⟩
theorem row_keep' {w w' : World} {base : Nat} {t : TypeId} {sz : Nat} {v : Value} {n : Nat} {xs : List Value} (h : w.ownsRow base t sz v n xs) (k : Below w.heap.size w w') : w'.ownsRow base t sz v n xs := row_below h k
set_option maxRecDepth 100000 in
set_option maxHeartbeats 16000000 in
theorem rin_any : ∀ (N : Nat) (L : List Ex), L.length ≤ N → L.length ≤ 60 → OkL 0 L → ∀ (la : Option Addr) (lc a b : Nat) (w : World), WB a b → Rw w la (L.flatMap Ex.cells) → L.length ≤ lc →
    Calls Try.prog 22 #[.slice la L.length lc, hw a b] w (RIn w L (tE a b)) := by
  intro N
  induction N using Nat.strongRecOn with
  | ind N ih =>
    intro L hLN h60 hok la lc a b w hwb hL hcap
    have IH : Hid (∀ (L' : List Ex), L'.length < N ∨ L'.length < L.length → L'.length ≤ 60 → OkL 0 L' → ∀ (la : Option Addr) (lc a b : Nat) (w : World), WB a b → Rw w la (L'.flatMap Ex.cells) → L'.length ≤ lc → Calls Try.prog 22 #[.slice la L'.length lc, hw a b] w (RIn w L' (tE a b))) := Lib.hid (fun L' q => ih L'.length (by omega) L' (Nat.le_refl _))
    clear ih hLN
    obtain ⟨n, hn⟩ : ∃ n, L.length = n := ⟨_, rfl⟩
    unfold RIn
    rw [hn] at IH h60 hcap ⊢
    have HN := Lib.hid hn
    have hok0 := Lib.hid hok
    have HWB := Lib.hid hwb
    have CB := Lib.hid (fun W => bits_any a b hwb W)
    have CW := Lib.hid (fun i on hi W => rwith_any a b i on hwb hi W)
    have RL := Lib.hid (fun (w' : World) (hb : Below w.heap.size w w') => hL.on hb)
    clear hn hok hwb hL
    obtain ⟨d1, hd1⟩ : ∃ x, fd a = x := ⟨_, rfl⟩
    obtain ⟨d2, hd2⟩ : ∃ x, fs a = x := ⟨_, rfl⟩
    obtain ⟨d3, hd3⟩ : ∃ x, fd b = x := ⟨_, rfl⟩
    obtain ⟨d4, hd4⟩ : ∃ x, fx b = x := ⟨_, rfl⟩
    obtain ⟨d5, hd5⟩ : ∃ x, fy b = x := ⟨_, rfl⟩
    unfold hw at CB ⊢
    rw [hd1, hd2, hd3, hd4, hd5] at CB ⊢
    have CW' : Hid (∀ (i : Nat) (on : Bool), i < 104 → ∀ W, Calls Try.prog 44 #[hv d1 d2 d3 d4 d5, .int .i64 (i : Nat), .bool on] W fun e w' => e = .returned (hw (wo a (ma i) on) (wo b (mb i) on)) ∧ Below W.heap.size W w') := Lib.hid (fun i on hi W => by have q := CW.out i on hi W; unfold hw at q; rw [hd1, hd2, hd3, hd4, hd5] at q; exact q)
    clear CW hd1 hd2 hd3 hd4 hd5
    have CW := CW'
    clear CW'
    go_enter Try.func22, Try.ntmps22
    go_wp2_with fail
    refine at_calls (S := fun W' => Blk W' w.heap.size [.int .u32 (d1 : Nat), .int .u32 (d2 : Nat), .int .u8 (d3 : Nat), .int .u16 (d4 : Nat), .int .u16 (d5 : Nat)] ∧ Below w.heap.size w W') ⟨Blk.new _ _ _, bel_al (Below.refl _ _) _⟩ (fun W0 hW => ?_)
    obtain ⟨hX, hb0⟩ := hW
    refine (CB.out W0).mono ?_
    rintro e W2 ⟨vb, rfl, hb, hr⟩
    obtain ⟨gb, capb, rfl, hgb, hRb⟩ := row_of (T := fun j => tb a b (j : Int)) (fun j hj => bitsW_get a b j HWB.out.b hj) hr
    have H2 := Lib.hid (hX.on hb)
    have R2 := Lib.hid hRb
    have B2 := Lib.hid (bel_on' hb0 hb)
    clear hX hb0 hb hr hgb hRb CB
    go_wp2_with fail
    go_loopw [6, 7] (fun sv iv' wr => ∃ (v : Value) (k : Nat), sv = v ∧ iv' = .int .i64 (k : Nat) ∧ k ≤ n ∧ Hid (Below W2.heap.size W2 wr) ∧ Hid (wr.ownsRow W2.heap.size 4 1 v k (bvals (semL [] (L.take k)) (tE a b)))) (fun _ iv' _ => n - (intOf iv').toNat)
    case atStart => exact ⟨.slice none 0 0, 0, rfl, rfl, Nat.zero_le _, Lib.hid (Below.refl _ _), Lib.hid (by simp only [List.take_zero]; exact World.ownsRow_nil _ _ _ _)⟩
    case round =>
      obtain ⟨v, k, rfl, rfl, hk, hB, HRow⟩ := hrel
      by_cases hkn : k < n
      · obtain ⟨x, hx⟩ : ∃ x, L[k]? = some x := ⟨_, List.getElem?_eq_getElem (by have := HN.out; omega)⟩
        obtain ⟨b0, off, rfl⟩ := (RL.out w (Below.refl _ _)).elemAd 5 Ex.cells_len hx
        have hts := take_snoc hx
        have hokS : OkL 0 (L.take k ++ [x]) := by rw [← hts]; exact okL_take L 0 (k + 1) hok0.out
        have hlk : (L.take k).length = k := by rw [List.length_take, HN.out]; omega
        obtain ⟨xk, xa, xb, xc, xv, xo⟩ := x
        have el := (RL.out wr (bel_on' B2.out hB.out)).elem 6 Ex.cells_len hx
        have l_0 : wr.cell? ⟨b0, off + k * 6, none⟩ = some (.int .i64 xk) := el 0 rfl
        have l_1 : wr.cell? ⟨b0, off + k * 6 + 1, none⟩ = some (.int .i64 xa) := el 1 rfl
        have l_2 : wr.cell? ⟨b0, off + k * 6 + 2, none⟩ = some (.int .i64 xb) := el 2 rfl
        have l_3 : wr.cell? ⟨b0, off + k * 6 + 3, none⟩ = some (.int .i64 xc) := el 3 rfl
        have l_4 : wr.cell? ⟨b0, off + k * 6 + 4, none⟩ = some (.int .i64 xv) := el 4 rfl
        have l_5 : wr.cell? ⟨b0, off + k * 6 + 5, none⟩ = some (.bool xo) := el 5 rfl
        have HO : Hid (Ex.Ok ⟨xk, xa, xb, xc, xv, xo⟩ k) := Lib.hid (by have := ((okL_append _ _ 0).1 hokS).2; rw [hlk, Nat.zero_add] at this; exact this)
        obtain ⟨s, hs⟩ : ∃ s, semL [] (L.take k) = s := ⟨_, rfl⟩
        have HSk := Lib.hid hs
        have HL : Hid (s.length = k) := Lib.hid (by rw [← hs, semL_len, hlk]; simp)
        obtain ⟨r, hr⟩ : ∃ r, semE s ⟨xk, xa, xb, xc, xv, xo⟩ (tE a b) = r := ⟨_, rfl⟩
        have HR := Lib.hid hr
        have HNx : Hid (semL [] (L.take (k + 1)) = s ++ [semE s ⟨xk, xa, xb, xc, xv, xo⟩]) := Lib.hid (by rw [hts, semL_snoc, hs])
        rw [hs] at HRow
        have hwk : IntKind.i64.wrap ((k : Int) + 1) = ((k + 1 : Nat) : Int) := by rw [IntKind.wrap_i64]; omega
        clear hts hokS hlk el hx hs hr
        go_upto_block 2 with fail
        refine at_code (S := fun W' => Blk W' wr.heap.size [.int .i64 xk, .int .i64 xa, .int .i64 xb, .int .i64 xc, .int .i64 xv, .bool xo] ∧ Below wr.heap.size wr W') ⟨Blk.new _ _ _, bel_al (Below.refl _ _) _⟩ (fun W1 hW => ?_)
        obtain ⟨hX, hb⟩ := hW
        obtain ⟨x_0, x_1, x_2, x_3, x_4, x_5⟩ : _ ∧ _ ∧ _ ∧ _ ∧ _ ∧ _ := ⟨hX.1 0 _ rfl, hX.1 1 _ rfl, hX.1 2 _ rfl, hX.1 3 _ rfl, hX.1 4 _ rfl, hX.1 5 _ rfl⟩
        have HRow0 := Lib.hid (row_keep' HRow.out hb)
        have BW := Lib.hid (bel_on' hB.out hb)
        have H1 := Lib.hid (H2.out.on BW.out)
        have R1 := Lib.hid (R2.out.on BW.out)
        have B1 := Lib.hid (bel_on' B2.out BW.out)
        clear HRow hX hb l_0 l_1 l_2 l_3 l_4 l_5
        have HRow := HRow0
        clear HRow0
        go_cut [9] (fun u wx => u = .bool r ∧ Below W1.heap.size W1 wx)
        case first =>
          clear HNx hwk hB
          have hk10 : xk = 0 ∨ xk = 1 ∨ xk = 2 ∨ xk = 3 ∨ xk = 4 ∨ xk = 5 ∨ xk = 6 ∨ xk = 7 ∨ xk = 8 ∨ xk = 9 := by have h1 := HO.out.1; have h2 := HO.out.2.1; simp only at h1 h2; omega
          rcases hk10 with rfl | rfl | rfl | rfl | rfl | rfl | rfl | rfl | rfl | rfl
          · as_aux_lemma =>
              have hR : semE s ⟨0, xa, xb, xc, xv, xo⟩ (tE a b) = r := HR.out
              have hz : r = false := by rw [← hR]; rfl
              subst hz
              go_wp2_with fail
              go_meet
              exact ⟨rfl, Below.refl _ _⟩
          · as_aux_lemma =>
              have hR : semE s ⟨1, xa, xb, xc, xv, xo⟩ (tE a b) = r := HR.out
              have hz : r = true := by rw [← hR]; rfl
              subst hz
              go_wp2_with fail
              go_meet
              exact ⟨rfl, Below.refl _ _⟩
          · as_aux_lemma =>
              have hR : semE s ⟨2, xa, xb, xc, xv, xo⟩ (tE a b) = r := HR.out
              obtain ⟨xn, rfl⟩ : ∃ n : Nat, xv = n := ⟨xv.toNat, by have := HO.out.2.2.2; simp only at this; omega⟩
              have hx104 : xn < 104 := by have := HO.out.2.2.2; simp only at this; omega
              have hx104' : (xn : Int) < 104 := by omega
              have b_v := (R1.out xn hx104).1
              obtain ⟨t, ht⟩ : ∃ t, tb a b ((xn : Nat) : Int) = t := ⟨_, rfl⟩
              simp only at b_v
              rw [ht] at b_v
              have hz : r = (t == xo) := by rw [← hR, ← ht]; rfl
              subst hz
              clear hR ht
              go_upto_region 12 with fail
              refine wp_region_noPanic ?_
              refine wp_region_along (S := fun w' => w' = W1.drew) ([(0, true), (1, true), (2, true), (3, true), (4, true), (5, true), (6, true), (7, true), (8, true)]) (by kernel_rfl) (by as_aux_lemma => kernel_rfl) (by kernel_rfl) (by kernel_rfl) (by as_aux_lemma => kernel_rfl) (by as_aux_lemma => kernel_rfl) (fun _ _ _ _ _ h => h) rfl (fun hH => ?_)
              simp only [stepsOf, pickOp]
              iterate 9 (first | (refine along_skip (by rfl) ?_; try simp only [Act.put, List.setIfInBounds_toArray, List.set_cons_zero, List.set_cons_succ]) | (refine along_pure ?_ (by rfl) (fun w hSw => ?_) ?_; rotate_left; (obtain rfl := hSw; go_simp; try with_reducible rfl); try simp only [Act.put, List.setIfInBounds_toArray, List.set_cons_zero, List.set_cons_succ]))
              refine along_end (NoPanic.normal ?_)
              clear hH
              go_wp2_with fail
              go_meet
              exact ⟨rfl, (Below.refl _ _).drew⟩
          · as_aux_lemma =>
              have hR : semE s ⟨3, xa, xb, xc, xv, xo⟩ (tE a b) = r := HR.out
              have hkp : 0 < k := by have := HO.out.2.2.1 (show (3 : Int) ≤ 3 by omega); simp only at this; omega
              obtain ⟨g, cap, rfl, hg⟩ := row_formB HRow.out HL.out hkp
              obtain ⟨na, rfl⟩ : ∃ n : Nat, xa = n := ⟨xa.toNat, by have := HO.out.2.2.1 (show (3 : Int) ≤ 3 by omega); simp only at this; omega⟩
              have hal : na < k := by have := HO.out.2.2.1 (show (3 : Int) ≤ 3 by omega); simp only at this; omega
              have hba : ((na : Nat) : Int) < (k : Int) := by omega
              have g_a := hg na hal
              obtain ⟨ta, hta⟩ : ∃ t, nth s ((na : Nat) : Int) (tE a b) = t := ⟨_, rfl⟩
              rw [hta] at g_a
              obtain ⟨nb, rfl⟩ : ∃ n : Nat, xb = n := ⟨xb.toNat, by have := HO.out.2.2.1 (show (3 : Int) ≤ 3 by omega); simp only at this; omega⟩
              have hbl : nb < k := by have := HO.out.2.2.1 (show (3 : Int) ≤ 3 by omega); simp only at this; omega
              have hbb : ((nb : Nat) : Int) < (k : Int) := by omega
              have g_b := hg nb hbl
              obtain ⟨tb, htb⟩ : ∃ t, nth s ((nb : Nat) : Int) (tE a b) = t := ⟨_, rfl⟩
              rw [htb] at g_b
              have hz : r = (ta && tb) := by rw [← hR, ← hta, ← htb]; rfl
              clear hg hR hta htb
              cases ta
              · subst hz
                go_wp2_with fail
                go_meet
                first | exact ⟨rfl, Below.refl _ _⟩ | exact ⟨by simp, Below.refl _ _⟩
              · subst hz
                go_wp2_with fail
                go_meet
                first | exact ⟨rfl, Below.refl _ _⟩ | exact ⟨by simp, Below.refl _ _⟩
          · as_aux_lemma =>
              have hR : semE s ⟨4, xa, xb, xc, xv, xo⟩ (tE a b) = r := HR.out
              have hkp : 0 < k := by have := HO.out.2.2.1 (show (3 : Int) ≤ 4 by omega); simp only at this; omega
              obtain ⟨g, cap, rfl, hg⟩ := row_formB HRow.out HL.out hkp
              obtain ⟨na, rfl⟩ : ∃ n : Nat, xa = n := ⟨xa.toNat, by have := HO.out.2.2.1 (show (3 : Int) ≤ 4 by omega); simp only at this; omega⟩
              have hal : na < k := by have := HO.out.2.2.1 (show (3 : Int) ≤ 4 by omega); simp only at this; omega
              have hba : ((na : Nat) : Int) < (k : Int) := by omega
              have g_a := hg na hal
              obtain ⟨ta, hta⟩ : ∃ t, nth s ((na : Nat) : Int) (tE a b) = t := ⟨_, rfl⟩
              rw [hta] at g_a
              obtain ⟨nb, rfl⟩ : ∃ n : Nat, xb = n := ⟨xb.toNat, by have := HO.out.2.2.1 (show (3 : Int) ≤ 4 by omega); simp only at this; omega⟩
              have hbl : nb < k := by have := HO.out.2.2.1 (show (3 : Int) ≤ 4 by omega); simp only at this; omega
              have hbb : ((nb : Nat) : Int) < (k : Int) := by omega
              have g_b := hg nb hbl
              obtain ⟨tb, htb⟩ : ∃ t, nth s ((nb : Nat) : Int) (tE a b) = t := ⟨_, rfl⟩
              rw [htb] at g_b
              have hz : r = (ta || tb) := by rw [← hR, ← hta, ← htb]; rfl
              clear hg hR hta htb
              cases ta
              · subst hz
                go_wp2_with fail
                go_meet
                first | exact ⟨rfl, Below.refl _ _⟩ | exact ⟨by simp, Below.refl _ _⟩
              · subst hz
                go_wp2_with fail
                go_meet
                first | exact ⟨rfl, Below.refl _ _⟩ | exact ⟨by simp, Below.refl _ _⟩
          · as_aux_lemma =>
              have hR : semE s ⟨5, xa, xb, xc, xv, xo⟩ (tE a b) = r := HR.out
              have hkp : 0 < k := by have := HO.out.2.2.1 (show (3 : Int) ≤ 5 by omega); simp only at this; omega
              obtain ⟨g, cap, rfl, hg⟩ := row_formB HRow.out HL.out hkp
              obtain ⟨na, rfl⟩ : ∃ n : Nat, xa = n := ⟨xa.toNat, by have := HO.out.2.2.1 (show (3 : Int) ≤ 5 by omega); simp only at this; omega⟩
              have hal : na < k := by have := HO.out.2.2.1 (show (3 : Int) ≤ 5 by omega); simp only at this; omega
              have hba : ((na : Nat) : Int) < (k : Int) := by omega
              have g_a := hg na hal
              obtain ⟨ta, hta⟩ : ∃ t, nth s ((na : Nat) : Int) (tE a b) = t := ⟨_, rfl⟩
              rw [hta] at g_a
              obtain ⟨nb, rfl⟩ : ∃ n : Nat, xb = n := ⟨xb.toNat, by have := HO.out.2.2.1 (show (3 : Int) ≤ 5 by omega); simp only at this; omega⟩
              have hbl : nb < k := by have := HO.out.2.2.1 (show (3 : Int) ≤ 5 by omega); simp only at this; omega
              have hbb : ((nb : Nat) : Int) < (k : Int) := by omega
              have g_b := hg nb hbl
              obtain ⟨tb, htb⟩ : ∃ t, nth s ((nb : Nat) : Int) (tE a b) = t := ⟨_, rfl⟩
              rw [htb] at g_b
              have hz : r = (ta != tb) := by rw [← hR, ← hta, ← htb]; rfl
              clear hg hR hta htb
              subst hz
              go_upto_region 18 with fail
              refine wp_region_noPanic ?_
              refine wp_region_along (S := fun w' => w' = W1.drew) ([(0, true), (1, true), (2, true), (3, true), (4, true), (5, true), (6, true), (7, true), (8, true), (9, true), (10, true), (11, true)]) (by kernel_rfl) (by as_aux_lemma => kernel_rfl) (by kernel_rfl) (by kernel_rfl) (by as_aux_lemma => kernel_rfl) (by as_aux_lemma => kernel_rfl) (fun _ _ _ _ _ h => h) rfl (fun hH => ?_)
              simp only [stepsOf, pickOp]
              iterate 12 (first | (refine along_skip (by rfl) ?_; try simp only [Act.put, List.setIfInBounds_toArray, List.set_cons_zero, List.set_cons_succ]) | (refine along_pure ?_ (by rfl) (fun w hSw => ?_) ?_; rotate_left; (obtain rfl := hSw; go_simp; try with_reducible rfl); try simp only [Act.put, List.setIfInBounds_toArray, List.set_cons_zero, List.set_cons_succ]))
              refine along_end (NoPanic.normal ?_)
              clear hH
              go_wp2_with fail
              go_meet
              exact ⟨rfl, (Below.refl _ _).drew⟩
          · as_aux_lemma =>
              have hR : semE s ⟨6, xa, xb, xc, xv, xo⟩ (tE a b) = r := HR.out
              have hkp : 0 < k := by have := HO.out.2.2.1 (show (3 : Int) ≤ 6 by omega); simp only at this; omega
              obtain ⟨g, cap, rfl, hg⟩ := row_formB HRow.out HL.out hkp
              obtain ⟨na, rfl⟩ : ∃ n : Nat, xa = n := ⟨xa.toNat, by have := HO.out.2.2.1 (show (3 : Int) ≤ 6 by omega); simp only at this; omega⟩
              have hal : na < k := by have := HO.out.2.2.1 (show (3 : Int) ≤ 6 by omega); simp only at this; omega
              have hba : ((na : Nat) : Int) < (k : Int) := by omega
              have g_a := hg na hal
              obtain ⟨ta, hta⟩ : ∃ t, nth s ((na : Nat) : Int) (tE a b) = t := ⟨_, rfl⟩
              rw [hta] at g_a
              obtain ⟨nb, rfl⟩ : ∃ n : Nat, xb = n := ⟨xb.toNat, by have := HO.out.2.2.1 (show (3 : Int) ≤ 6 by omega); simp only at this; omega⟩
              have hbl : nb < k := by have := HO.out.2.2.1 (show (3 : Int) ≤ 6 by omega); simp only at this; omega
              have hbb : ((nb : Nat) : Int) < (k : Int) := by omega
              have g_b := hg nb hbl
              obtain ⟨tb, htb⟩ : ∃ t, nth s ((nb : Nat) : Int) (tE a b) = t := ⟨_, rfl⟩
              rw [htb] at g_b
              have hz : r = (ta && !tb) := by rw [← hR, ← hta, ← htb]; rfl
              clear hg hR hta htb
              cases ta
              · subst hz
                go_wp2_with fail
                go_meet
                first | exact ⟨rfl, Below.refl _ _⟩ | exact ⟨by simp, Below.refl _ _⟩
              · subst hz
                go_wp2_with fail
                go_meet
                first | exact ⟨rfl, Below.refl _ _⟩ | exact ⟨by simp, Below.refl _ _⟩
          · as_aux_lemma =>
              have hR : semE s ⟨7, xa, xb, xc, xv, xo⟩ (tE a b) = r := HR.out
              have hkp : 0 < k := by have := HO.out.2.2.1 (show (3 : Int) ≤ 7 by omega); simp only at this; omega
              obtain ⟨g, cap, rfl, hg⟩ := row_formB HRow.out HL.out hkp
              obtain ⟨na, rfl⟩ : ∃ n : Nat, xa = n := ⟨xa.toNat, by have := HO.out.2.2.1 (show (3 : Int) ≤ 7 by omega); simp only at this; omega⟩
              have hal : na < k := by have := HO.out.2.2.1 (show (3 : Int) ≤ 7 by omega); simp only at this; omega
              have hba : ((na : Nat) : Int) < (k : Int) := by omega
              have g_a := hg na hal
              obtain ⟨ta, hta⟩ : ∃ t, nth s ((na : Nat) : Int) (tE a b) = t := ⟨_, rfl⟩
              rw [hta] at g_a
              have hz : r = (!ta) := by rw [← hR, ← hta]; rfl
              clear hg hR hta
              subst hz
              go_wp2_with fail
              go_meet
              exact ⟨rfl, Below.refl _ _⟩
          · as_aux_lemma =>
              have hR : semE s ⟨8, xa, xb, xc, xv, xo⟩ (tE a b) = r := HR.out
              have hkp : 0 < k := by have := HO.out.2.2.1 (show (3 : Int) ≤ 8 by omega); simp only at this; omega
              obtain ⟨na, rfl⟩ : ∃ n : Nat, xa = n := ⟨xa.toNat, by have := HO.out.2.2.1 (show (3 : Int) ≤ 8 by omega); simp only at this; omega⟩
              have hal : na < k := by have := HO.out.2.2.1 (show (3 : Int) ≤ 8 by omega); simp only at this; omega
              have hba : ((na : Nat) : Int) < (k : Int) := by omega
              obtain ⟨ta, hta⟩ : ∃ t, nth s ((na : Nat) : Int) (tE a b) = t := ⟨_, rfl⟩
              obtain ⟨xn, rfl⟩ : ∃ n : Nat, xv = n := ⟨xv.toNat, by have := HO.out.2.2.2; simp only at this; omega⟩
              have hx104 : xn < 104 := by have := HO.out.2.2.2; simp only at this; omega
              obtain ⟨n1, hn1⟩ : ∃ m, na + 1 = m := ⟨_, rfl⟩
              have hwn : IntKind.i64.wrap (((na : Nat) : Int) + 1) = ((n1 : Nat) : Int) := by rw [IntKind.wrap_i64]; omega
              have hn1c : n1 ≤ lc := by omega
              have hn1c' : (n1 : Int) ≤ (lc : Int) := by omega
              have htl : (L.take n1).length = n1 := by rw [List.length_take, HN.out]; omega
              have C8 := Lib.hid (fun W' => CW.out xn xo hx104 W')
              have C9 := Lib.hid (fun (W' : World) (hb : Below W1.heap.size W1 W') => IH.out (L.take n1) (by rw [htl]; omega) (by rw [htl]; omega) (okL_take L 0 n1 hok0.out) (some ⟨b0, off, none⟩) lc (wo a (ma xn) xo) (wo b (mb xn) xo) W' (HWB.out.wo xn xo) ((RL.out _ (bel_on' B1.out hb)).take n1) (by rw [htl]; exact hn1c))
              rw [htl] at C9
              unfold RIn at C9
              have hsem : (semL [] (L.take n1)).getD na (fun _ => false) (tE (wo a (ma xn) xo) (wo b (mb xn) xo)) = r := by
                rw [tE_wo a b xn xo hx104, semL_take L n1 na (by omega) (by rw [HN.out]; omega), ← hR]
                show _ = nth s ((na : Nat) : Int) (hld (tE a b) xn xo)
                unfold nth
                rw [Int.toNat_natCast, ← HSk.out, semL_take L k na hal (by rw [HN.out]; omega)]
              have HSem := Lib.hid hsem
              clear hsem hR hta
              obtain ⟨h_0, h_1, h_2, h_3, h_4⟩ : _ ∧ _ ∧ _ ∧ _ ∧ _ := ⟨H1.out.1 0 _ rfl, H1.out.1 1 _ rfl, H1.out.1 2 _ rfl, H1.out.1 3 _ rfl, H1.out.1 4 _ rfl⟩
              go_upto_region 24 with fail
              refine wp_region_noPanic ?_
              refine wp_region_along (S := fun w' => Below W1.heap.size W1 w' ∧ w'.cell? ⟨wr.heap.size, 1, none⟩ = some (.int .i64 (na : Nat)) ∧ w'.cell? ⟨wr.heap.size, 4, none⟩ = some (.int .i64 (xn : Nat)) ∧ w'.cell? ⟨wr.heap.size, 5, none⟩ = some (.bool xo) ∧ w'.cell? ⟨w.heap.size, 0, none⟩ = some (.int .u32 (d1 : Nat)) ∧ w'.cell? ⟨w.heap.size, 1, none⟩ = some (.int .u32 (d2 : Nat)) ∧ w'.cell? ⟨w.heap.size, 2, none⟩ = some (.int .u8 (d3 : Nat)) ∧ w'.cell? ⟨w.heap.size, 3, none⟩ = some (.int .u16 (d4 : Nat)) ∧ w'.cell? ⟨w.heap.size, 4, none⟩ = some (.int .u16 (d5 : Nat))) ([(0, true), (1, true), (2, true), (3, true), (4, true), (5, true), (6, true), (7, true), (8, true), (9, true), (10, false), (11, false), (12, true)]) (by kernel_rfl) (by as_aux_lemma => kernel_rfl) (by kernel_rfl) (by kernel_rfl) (by as_aux_lemma => kernel_rfl) (by as_aux_lemma => kernel_rfl) (fun _ _ _ _ _ h => h) ⟨(Below.refl _ _).drew, x_1, x_4, x_5, h_0, h_1, h_2, h_3, h_4⟩ (fun hH => ?_)
              simp only [stepsOf, pickOp]
              iterate 10 (first | (refine along_skip (by rfl) ?_; try simp only [Act.put, List.setIfInBounds_toArray, List.set_cons_zero, List.set_cons_succ]) | (refine along_pure ?_ (by rfl) (fun w hSw => ?_) ?_; rotate_left; (obtain ⟨-, s_1, s_2, s_3, s_4, s_5, s_6, s_7, s_8⟩ := hSw; go_simp; try with_reducible rfl); try simp only [Act.put, List.setIfInBounds_toArray, List.set_cons_zero, List.set_cons_succ]))
              refine along_bar (fun K hK => ?_)
              go_simp
              refine (C8.out W1.drew).mono ?_
              rintro e w2 ⟨rfl, hb2⟩
              try go_wp2_with fail
              have hb2' : Below W1.heap.size W1 w2 := bel_on' (Below.refl _ _).drew hb2
              refine hK.out _ _ ⟨hb2', (hb2'.cell (p := ⟨wr.heap.size, 1, none⟩) (cell_lt (o := 1) (by rw [x_1]; rfl))).trans x_1, (hb2'.cell (p := ⟨wr.heap.size, 4, none⟩) (cell_lt (o := 4) (by rw [x_4]; rfl))).trans x_4, (hb2'.cell (p := ⟨wr.heap.size, 5, none⟩) (cell_lt (o := 5) (by rw [x_5]; rfl))).trans x_5, (hb2'.cell (p := ⟨w.heap.size, 0, none⟩) (cell_lt (o := 0) (by rw [h_0]; rfl))).trans h_0, (hb2'.cell (p := ⟨w.heap.size, 1, none⟩) (cell_lt (o := 1) (by rw [h_1]; rfl))).trans h_1, (hb2'.cell (p := ⟨w.heap.size, 2, none⟩) (cell_lt (o := 2) (by rw [h_2]; rfl))).trans h_2, (hb2'.cell (p := ⟨w.heap.size, 3, none⟩) (cell_lt (o := 3) (by rw [h_3]; rfl))).trans h_3, (hb2'.cell (p := ⟨w.heap.size, 4, none⟩) (cell_lt (o := 4) (by rw [h_4]; rfl))).trans h_4⟩ (fun hH2 => ?_)
              clear hK K hH
              try simp only [Act.put, List.setIfInBounds_toArray, List.set_cons_zero, List.set_cons_succ]
              refine along_bar (fun K hK => ?_)
              go_simp
              refine (C9.out w2 hb2').mono ?_
              rintro e w3 ⟨v3, rfl, hb3, hr3⟩
              try go_wp2_with fail
              have hb3' : Below W1.heap.size W1 w3 := bel_on' hb2' hb3
              have B3 := Lib.hid hb3'
              refine hK.out _ _ ⟨hb3', (hb3'.cell (p := ⟨wr.heap.size, 1, none⟩) (cell_lt (o := 1) (by rw [x_1]; rfl))).trans x_1, (hb3'.cell (p := ⟨wr.heap.size, 4, none⟩) (cell_lt (o := 4) (by rw [x_4]; rfl))).trans x_4, (hb3'.cell (p := ⟨wr.heap.size, 5, none⟩) (cell_lt (o := 5) (by rw [x_5]; rfl))).trans x_5, (hb3'.cell (p := ⟨w.heap.size, 0, none⟩) (cell_lt (o := 0) (by rw [h_0]; rfl))).trans h_0, (hb3'.cell (p := ⟨w.heap.size, 1, none⟩) (cell_lt (o := 1) (by rw [h_1]; rfl))).trans h_1, (hb3'.cell (p := ⟨w.heap.size, 2, none⟩) (cell_lt (o := 2) (by rw [h_2]; rfl))).trans h_2, (hb3'.cell (p := ⟨w.heap.size, 3, none⟩) (cell_lt (o := 3) (by rw [h_3]; rfl))).trans h_3, (hb3'.cell (p := ⟨w.heap.size, 4, none⟩) (cell_lt (o := 4) (by rw [h_4]; rfl))).trans h_4⟩ (fun hH3 => ?_)
              rw [htl] at hr3
              obtain ⟨g3, cap3, rfl, hg3⟩ := row_formB hr3 (by rw [semL_len, htl]; simp) (show 0 < n1 by omega)
              have g_3 := hg3 na (by omega)
              have x3_1 := (hb3'.cell (p := ⟨wr.heap.size, 1, none⟩) (cell_lt (o := 1) (by rw [x_1]; rfl))).trans x_1
              unfold nth at g_3
              rw [Int.toNat_natCast, HSem.out] at g_3
              have hn1l : na < n1 := by omega
              clear hK K hH2 hr3 hg3 hb3 hb2 hb3' hb2' x_1 x_4 x_5 h_0 h_1 h_2 h_3 h_4 C8 C9 hwn htl
              try simp only [Act.put, List.setIfInBounds_toArray, List.set_cons_zero, List.set_cons_succ]
              iterate 1 (first | (refine along_skip (by rfl) ?_; try simp only [Act.put, List.setIfInBounds_toArray, List.set_cons_zero, List.set_cons_succ]) | (refine along_pure ?_ (by rfl) (fun w hSw => ?_) ?_; rotate_left; (obtain ⟨-, s_1, s_2, s_3, s_4, s_5, s_6, s_7, s_8⟩ := hSw; go_simp; try with_reducible rfl); try simp only [Act.put, List.setIfInBounds_toArray, List.set_cons_zero, List.set_cons_succ]))
              refine along_end (NoPanic.normal ?_)
              clear hH3
              go_wp2_with fail
              go_meet
              exact ⟨rfl, B3.out⟩
          · as_aux_lemma =>
              have hR : semE s ⟨9, xa, xb, xc, xv, xo⟩ (tE a b) = r := HR.out
              have hkp : 0 < k := by have := HO.out.2.2.1 (show (3 : Int) ≤ 9 by omega); simp only at this; omega
              obtain ⟨g, cap, rfl, hg⟩ := row_formB HRow.out HL.out hkp
              obtain ⟨na, rfl⟩ : ∃ n : Nat, xa = n := ⟨xa.toNat, by have := HO.out.2.2.1 (show (3 : Int) ≤ 9 by omega); simp only at this; omega⟩
              have hal : na < k := by have := HO.out.2.2.1 (show (3 : Int) ≤ 9 by omega); simp only at this; omega
              have hba : ((na : Nat) : Int) < (k : Int) := by omega
              have g_a := hg na hal
              obtain ⟨ta, hta⟩ : ∃ t, nth s ((na : Nat) : Int) (tE a b) = t := ⟨_, rfl⟩
              rw [hta] at g_a
              obtain ⟨nb, rfl⟩ : ∃ n : Nat, xb = n := ⟨xb.toNat, by have := HO.out.2.2.1 (show (3 : Int) ≤ 9 by omega); simp only at this; omega⟩
              have hbl : nb < k := by have := HO.out.2.2.1 (show (3 : Int) ≤ 9 by omega); simp only at this; omega
              have hbb : ((nb : Nat) : Int) < (k : Int) := by omega
              have g_b := hg nb hbl
              obtain ⟨tb, htb⟩ : ∃ t, nth s ((nb : Nat) : Int) (tE a b) = t := ⟨_, rfl⟩
              rw [htb] at g_b
              obtain ⟨nc, rfl⟩ : ∃ n : Nat, xc = n := ⟨xc.toNat, by have := HO.out.2.2.1 (show (3 : Int) ≤ 9 by omega); simp only at this; omega⟩
              have hcl : nc < k := by have := HO.out.2.2.1 (show (3 : Int) ≤ 9 by omega); simp only at this; omega
              have hbc : ((nc : Nat) : Int) < (k : Int) := by omega
              have g_c := hg nc hcl
              obtain ⟨tc, htc⟩ : ∃ t, nth s ((nc : Nat) : Int) (tE a b) = t := ⟨_, rfl⟩
              rw [htc] at g_c
              have hz : r = (ta && tb || tc && !ta) := by rw [← hR, ← hta, ← htb, ← htc]; rfl
              clear hg hR hta htb htc
              cases ta
              · cases tb
                · subst hz
                  go_wp2_with fail
                  go_meet
                  first | exact ⟨rfl, Below.refl _ _⟩ | exact ⟨by simp, Below.refl _ _⟩
                · subst hz
                  go_wp2_with fail
                  go_meet
                  first | exact ⟨rfl, Below.refl _ _⟩ | exact ⟨by simp, Below.refl _ _⟩
              · cases tb
                · subst hz
                  go_wp2_with fail
                  go_meet
                  first | exact ⟨rfl, Below.refl _ _⟩ | exact ⟨by simp, Below.refl _ _⟩
                · subst hz
                  go_wp2_with fail
                  go_meet
                  first | exact ⟨rfl, Below.refl _ _⟩ | exact ⟨by simp, Below.refl _ _⟩
        case rest =>
          obtain ⟨rfl, hbc⟩ := hcut
          have R3 := Lib.hid (row_keep' HRow.out hbc)
          have B3 := Lib.hid (bel_on' BW.out hbc)
          obtain ⟨i0, hi0, hz0, hz1, hz2⟩ := hinfo_parts3 infoBool
          have hown := R3.out
          have hbs : W2.heap.size ≤ wc.heap.size := B3.out.size
          clear hbc x_0 x_1 x_2 x_3 x_4 x_5 HRow BW B1 R1 H1
          go_wp2_with (at_builtin; refine wpList_append_own _ rfl _ _ 34 rfl W2.heap.size 4 i0 (.bool false) 1 1 Try.underlying34 hi0 hz0 hz1 hz2 rfl (by decide) _ _ _ rfl (hown.alloc _) ⟨wc.heap.size, 0, none⟩ 1 1 [.bool r] rfl rfl (cell_one_new _ _ _) ?c2 ?c3 ?c4 ?c5 ?_)
          case c2 => first | rfl | (intro y hy; simp at hy; subst hy; rfl)
          case c3 => unfold maxLen; omega
          case c4 => omega
          case c5 => first | omega | (simp; omega)
          · intro v' w4 hown' hgrow _
            have HO4 := Lib.hid hown'
            have HG4 := Lib.hid hgrow
            clear hown' hgrow hown
            go_wp2_with fail
            refine ⟨⟨v', k + 1, rfl, ?_, by omega, Lib.hid ?_, Lib.hid ?_⟩, ?_⟩
            · first | rfl | rw [hwk]
            · exact (B3.out.alloc B3.out.size _).grown HG4.out (by simp; omega) (fun g e => (World.ownsRow.lt R3.out g e).1)
            · have e2 : bvals (semL [] (L.take (k + 1))) (tE a b) = bvals s (tE a b) ++ [.bool r] := by
                rw [HNx.out]; unfold bvals; rw [List.map_append]; simp [HR.out]
              rw [e2]
              exact HO4.out
            · simp [intOf] <;> omega
      · have hkn' : k = n := by omega
        subst hkn'
        go_wp2
        go_ret
        refine ⟨_, rfl, bel_on' B2.out hB.out, ?_⟩
        have h := HRow.out
        rw [← HN.out, List.take_length] at h
        rw [← HN.out]
        exact row_low h B2.out.size
end Go.Proofs.Ytgcbngephokegab
/- Tables: rows of so many cells each; headers by what bits they hold. -/
namespace Go.Proofs.Ytgcbngephokegab
open Go.RowKit
set_option linter.unusedVariables false
set_option linter.unusedSimpArgs false

/-- Block g holds n rows of k cells each. -/
def Tbl (w : World) (g k n : Nat) (F : Nat → List Value) : Prop := ∀ i c v, i < n → (F i)[c]? = some v → w.cell? ⟨g, i * k + c, none⟩ = some v ∧ w.frozen? ⟨g, i * k + c, none⟩ = false
theorem Tbl.congr {w : World} {g k n : Nat} {F F' : Nat → List Value} (h : Tbl w g k n F) (e : ∀ i, i < n → F' i = F i) : Tbl w g k n F' := fun i c v hi hv => h i c v hi (by rw [← e i hi]; exact hv)
theorem Tbl.on {w w' : World} {g k n : Nat} {F : Nat → List Value} (h : Tbl w g k n F) (hb : Below w.heap.size w w') : Tbl w' g k n F := fun i c v hi hv => by
  obtain ⟨h1, h2⟩ := h i c v hi hv
  have hlt := cell_lt (w := w) (b := g) (o := i * k + c) (by rw [h1]; rfl)
  exact ⟨(hb.cell (p := ⟨g, i * k + c, none⟩) hlt).trans h1, (hb.frozen (p := ⟨g, i * k + c, none⟩) hlt).trans h2⟩
theorem Tbl.far {w : World} {g k n : Nat} {F : Nat → List Value} (h : Tbl w g k n F) (p : Addr) (y : Value) (hp : p.block ≠ g) : Tbl (w.setCell p y) g k n F := fun i c v hi hv => by
  obtain ⟨h1, h2⟩ := h i c v hi hv
  exact ⟨by rw [World.cell?_setCell_far _ _ _ _ (by exact hp)]; exact h1, by simp [h2]⟩
theorem Tbl.drew {w : World} {g k n : Nat} {F : Nat → List Value} (h : Tbl w g k n F) : Tbl w.drew g k n F := h
theorem Tbl.set {w : World} {g k n : Nat} {F : Nat → List Value} (h : Tbl w g k n F) (hk : ∀ i, i < n → (F i).length = k) (i c : Nat) (hi : i < n) (hc : c < k) (y : Value) : Tbl (w.setCell ⟨g, i * k + c, none⟩ y) g k n (fun j => if j = i then (F j).set c y else F j) := fun j d v hj hv => by
  dsimp only at hv
  have hne : ∀ d', d' < k → ¬ (j = i ∧ d' = c) → j * k + d' ≠ i * k + c := fun d' hd' hn e => by
    have h1 : (j * k + d') / k = (i * k + c) / k := by rw [e]
    have h2 : (j * k + d') % k = (i * k + c) % k := by rw [e]
    rw [Nat.mul_comm j, Nat.mul_comm i, Nat.mul_add_div (by omega), Nat.mul_add_div (by omega), Nat.div_eq_of_lt hd', Nat.div_eq_of_lt hc] at h1
    rw [Nat.mul_comm j, Nat.mul_comm i, Nat.mul_add_mod, Nat.mul_add_mod, Nat.mod_eq_of_lt hd', Nat.mod_eq_of_lt hc] at h2
    exact hn ⟨by omega, h2⟩
  have hsome : ∃ u, (F j)[d]? = some u := by
    by_cases e : j = i
    · rw [if_pos e] at hv
      have := (List.getElem?_eq_some_iff.1 hv).1
      rw [List.length_set] at this
      exact ⟨_, List.getElem?_eq_getElem this⟩
    · rw [if_neg e] at hv; exact ⟨v, hv⟩
  obtain ⟨u, hu⟩ := hsome
  obtain ⟨h1, h2⟩ := h j d u hj hu
  have hd : d < k := by rw [← hk j hj]; exact (List.getElem?_eq_some_iff.1 hu).1
  refine ⟨?_, by simp [h2]⟩
  by_cases e : j = i ∧ d = c
  · obtain ⟨rfl, rfl⟩ := e
    rw [if_pos rfl, List.getElem?_set_self (by rw [hk j hj]; exact hd)] at hv
    cases hv
    exact World.cell?_setCell_same _ _ _ h1
  · have hvu : u = v := by
      by_cases e1 : j = i
      · rw [if_pos e1, List.getElem?_set_ne (fun q => e ⟨e1, q.symm⟩)] at hv
        exact Option.some.inj (hu.symm.trans hv)
      · rw [if_neg e1] at hv
        exact Option.some.inj (hu.symm.trans hv)
    rw [World.cell?_setCell_other _ _ _ _ (by have := hne d hd e; simp <;> omega), h1, hvu]
theorem Tbl.lt {w : World} {g k n : Nat} {F : Nat → List Value} (h : Tbl w g k n F) {i : Nat} {v : Value} (hi : i < n) (hv : (F i)[0]? = some v) : g < w.heap.size := cell_lt (o := i * k + 0) (by rw [(h i 0 v hi hv).1]; rfl)
theorem made_get (z : Array Value) (n k i c : Nat) (hz : z.size = k) (hi : i < n) (hc : c < k) : (madeCells z (n * k)).toList[i * k + c]? = z.toList[c]? := by
  have hlt : i * k + c < n * k := by
    have : (i + 1) * k ≤ n * k := Nat.mul_le_mul_right k hi
    rw [Nat.add_mul] at this; omega
  unfold madeCells
  rw [Array.toList_map, List.getElem?_map, Array.toList_range, List.getElem?_range hlt]
  have hm : (i * k + c) % z.size = c := by rw [hz, Nat.mul_comm, Nat.mul_add_mod, Nat.mod_eq_of_lt hc]
  show some (z[(i * k + c) % z.size]!) = _
  rw [hm, getElem!_pos z c (by omega), Array.getElem?_toList, Array.getElem?_eq_getElem (by omega)]
theorem Tbl.made (w : World) (t : TypeId) (z : Array Value) (n k : Nat) (hz : z.size = k) : Tbl (w.alloc (.cells (madeCells z (n * k)) t)) w.heap.size k n (fun _ => z.toList) := fun i c v hi hv => by
  have hc : c < k := by rw [← hz]; have := (List.getElem?_eq_some_iff.1 hv).1; simpa using this
  have hB := Blk.new w t (madeCells z (n * k)).toList
  rw [Array.toArray_toList] at hB
  have hg := made_get z n k i c hz hi hc
  rw [hv] at hg
  exact ⟨hB.1 _ _ hg, hB.2 _ _ hg⟩
theorem infoHdr8 : (Try.prog.info? 44).map (fun i => (i.zero, i.size, i.bytes)) = some (some (.agg #[.int .u32 0, .int .u32 0, .int .u8 0, .int .u16 0, .int .u16 0]), 5, 16) := by kernel_rfl
theorem infoBool8 : (Try.prog.info? 4).map (fun i => (i.zero, i.size, i.bytes)) = some (some (.bool false), 1, 1) := by kernel_rfl
theorem infoCnt8 : (Try.prog.info? 47).map (fun i => (i.zero, i.size, i.bytes)) = some (some (.agg #[.int .u64 0, .int .u64 0]), 2, 16) := by kernel_rfl
theorem mk_of (ts te : TypeId) (z : Value) (s b : Nat) (ht : Try.prog.underlying ts = some (.slice te)) (h : (Try.prog.info? te).map (fun i => (i.zero, i.size, i.bytes)) = some (some z, s, b)) (hb : b ≤ 16) (n : Nat) (hn : n ≤ 1000) (w : World) :
    (Instr.makeSlice ts (.int .i64 (n : Int)) (.int .i64 (n : Int))).run Try.prog w = .ok (.slice (some ⟨w.heap.size, 0, none⟩) n n) (w.alloc (.cells (madeCells z.cells (n * s)) te)) := by
  obtain ⟨i, hi, hz, hs, hbb⟩ := hinfo_partsI h
  have hbn : (i.bytes : Int) * (n : Int) ≤ 281474976710656 := by
    have h1 : i.bytes * n ≤ 16 * 1000 := Nat.mul_le_mul (by omega) hn
    have h2 : ((i.bytes * n : Nat) : Int) ≤ 281474976710656 := by omega
    rwa [Int.natCast_mul] at h2
  have := run_make (P := Try.prog) w ts te i z ht hi hz .i64 .i64 n n (by omega) (by omega) hbn (by omega)
  simp only [Int.toNat_natCast] at this
  rw [this, hs]
/-- The two words of the header that holds these bits. -/
def wE (e : Env) : Nat → Nat × Nat
  | 0 => (0, 0)
  | i + 1 => (wo (wE e i).1 (ma i) (e i), wo (wE e i).2 (mb i) (e i))
theorem wE_ok (e : Env) : ∀ i, i ≤ 104 → WB (wE e i).1 (wE e i).2 ∧ tE (wE e i).1 (wE e i).2 = fun j => if j < i then e j else false
  | 0, _ => ⟨wb_zero, by
    show tE 0 0 = _
    rw [tE_zero]; funext j; rw [if_neg (by omega)]⟩
  | i + 1, hi => by
    obtain ⟨h1, h2⟩ := wE_ok e i (by omega)
    refine ⟨h1.wo (i : Int) _, ?_⟩
    show tE (wo (wE e i).1 (ma i) _) (wo (wE e i).2 (mb i) _) = _
    rw [tE_wo _ _ _ _ (by omega), h2]
    funext j
    unfold hld
    by_cases c : j = i
    · subst c; rw [if_pos rfl, if_pos (by omega)]
    · rw [if_neg c]
      dsimp only
      by_cases d : j < i
      · rw [if_pos d, if_pos (by omega)]
      · rw [if_neg d, if_neg (by omega)]
/-- Two headers of the same bits are one. -/
theorem wb_one {a b a' b' : Nat} (h : WB a b) (h' : WB a' b') (he : ∀ j, j < 104 → tE a b j = tE a' b' j) : hw a b = hw a' b' := by
  obtain ⟨n1, n2, n3, n4, n5⟩ := back_nums (fun j => tb a b j) a b h (fun j _ => rfl)
  obtain ⟨m1, m2, m3, m4, m5⟩ := back_nums (fun j => tb a b j) a' b' h' (fun j hj => he j hj)
  unfold hw
  rw [← n1, ← n2, ← n3, ← n4, ← n5, m1, m2, m3, m4, m5]
/-- The way's header. -/
def wayW (V : List Nat) (w : Nat) : Nat × Nat := wE (envW V w (fun _ => false)) 104
theorem wayW_ok {V : List Nat} (hb : ∀ j ∈ V, j < 104) (w : Nat) : WB (wayW V w).1 (wayW V w).2 ∧ tE (wayW V w).1 (wayW V w).2 = envW V w (fun _ => false) := by
  obtain ⟨h1, h2⟩ := wE_ok (envW V w (fun _ => false)) 104 (Nat.le_refl _)
  refine ⟨h1, h2.trans ?_⟩
  funext j
  by_cases c : j < 104
  · rw [if_pos c]
  · rw [if_neg c, envW_out V w _ j (fun q => c (hb j q))]
/-- How many of the first ways a set has, whether any, the first one's header. -/
def cW (φ : Env → Bool) (V : List Nat) (w : Nat) : Nat := cntW φ V (fun _ => false) w
def sW (φ : Env → Bool) (V : List Nat) (w : Nat) : Bool := (List.range w).any fun x => φ (envW V x (fun _ => false))
def lW (φ : Env → Bool) (V : List Nat) (w : Nat) : Nat × Nat := match (List.range w).find? (fun x => φ (envW V x (fun _ => false))) with
  | some x => wayW V x
  | none => (0, 0)
theorem cW_succ (φ : Env → Bool) (V : List Nat) (w : Nat) : cW φ V (w + 1) = cW φ V w + if φ (envW V w (fun _ => false)) = true then 1 else 0 := by
  unfold cW cntW
  rw [List.range_succ, List.countP_append]
  simp
theorem cW_le (φ : Env → Bool) (V : List Nat) (w : Nat) : cW φ V w ≤ w := by
  have := List.countP_le_length (p := fun x => φ (envW V x (fun _ => false))) (l := List.range w)
  rw [List.length_range] at this
  exact this
theorem sW_succ (φ : Env → Bool) (V : List Nat) (w : Nat) : sW φ V (w + 1) = (sW φ V w || φ (envW V w (fun _ => false))) := by
  unfold sW
  rw [List.range_succ, List.any_append]
  simp
theorem lW_succ (φ : Env → Bool) (V : List Nat) (w : Nat) : lW φ V (w + 1) = if sW φ V w = true then lW φ V w else if φ (envW V w (fun _ => false)) = true then wayW V w else (0, 0) := by
  unfold lW sW
  rw [List.range_succ, List.find?_append]
  cases h : (List.range w).find? (fun x => φ (envW V x (fun _ => false))) with
  | some x =>
    have h2 := List.find?_some h
    have h3 : (List.range w).any (fun x => φ (envW V x (fun _ => false))) = true := List.any_eq_true.2 ⟨x, List.mem_of_find?_eq_some h, h2⟩
    rw [if_pos h3]; rfl
  | none =>
    have h3 : (List.range w).any (fun x => φ (envW V x (fun _ => false))) = false := by
      rw [List.any_eq_false]; exact List.find?_eq_none.1 h
    rw [h3, if_neg (by simp)]
    cases hq : φ (envW V w (fun _ => false)) <;> simp [hq]
theorem lW_none {φ : Env → Bool} {V : List Nat} {w : Nat} (h : sW φ V w = false) : lW φ V w = (0, 0) := by
  unfold lW
  unfold sW at h
  rw [List.any_eq_false] at h
  rw [List.find?_eq_none.2 h]
end Go.Proofs.Ytgcbngephokegab
