/- Make: sets made of each other, one behind the other. -/
import Derived.Test.YtgcbngephokegabG2d43a54908
namespace Go.Proofs.Ytgcbngephokegab
open Go.RowKit
set_option linter.unusedVariables false

theorem drop_one' {α : Type} {l : List α} {j : Nat} {p : α} (h : l[j]? = some p) : l.drop j = p :: l.drop (j + 1) := drop_one h
theorem hinfo_parts2 {P : Program} {t : TypeId} {z : Value} {s b : Nat} (h : (P.info? t).map (fun i => (i.zero, i.size, i.bytes)) = some (some z, s, b)) : ∃ i, P.info? t = some i ∧ i.zero = some z ∧ i.size = s ∧ i.bytes = b := by
  rw [Option.map_eq_some_iff] at h
  obtain ⟨i, hi, he⟩ := h
  simp only [Prod.mk.injEq] at he
  exact ⟨i, hi, he.1, he.2.1, he.2.2⟩
set_option maxRecDepth 100000 in
set_option maxHeartbeats 16000000 in
theorem make_any (Z : Nat → Prop) (p most : Nat) (ns : List Nd) (L : List Ex) (la : Option Addr) (lc : Nat) (W : World) (h : Sta Z p W most ns) (hL : Rw W la (L.flatMap Ex.cells)) (hZ : ∀ b off, la = some ⟨b, off, none⟩ → 0 < L.length → Z b) (hok : OkL 0 L) (hlen : L.length ≤ 60) :
    Calls Try.prog 7 #[.pointer (some ⟨p, 0, none⟩), .slice la L.length lc] W (Mk Z p most W (mkF most ns [] L)) := by
  unfold Mk
  obtain ⟨n, hn⟩ : ∃ n, L.length = n := ⟨_, rfl⟩
  obtain ⟨M, hM⟩ : ∃ M, mkF most ns [] L = M := ⟨_, rfl⟩
  rw [hM, hn]
  rw [hn] at hlen
  have HM := Lib.hid hM
  have HN := Lib.hid hn
  have HL0 := Lib.hid hL
  have HZ := Lib.hid hZ
  have hzlt : ∀ k, Z k → k < W.heap.size := by obtain ⟨a, -, -, -, -, q⟩ := h; exact q
  have HZL := Lib.hid hzlt
  have H0 := Lib.hid (show Sta (Zv Z (.slice none 0 0)) p W most ns from h.less (fun k q => q.elim id (fun e => by cases e)))
  have HOK := Lib.hid hok
  clear hM hn hL hZ h hzlt hok
  go_enter Try.func7, Try.ntmps7
  go_wp2_with fail
  go_loopw [6, 13] (fun sv iv' wr => ∃ (v : Value) (k : Nat) (o : List Nat) (nsk : List Nd) (s : Sem), sv = v ∧ iv' = .int .i64 (k : Nat) ∧ k ≤ n ∧ Hid (M = mkF most nsk o (L.drop k)) ∧ Hid (Stand nsk o s) ∧ Hid (s.length = k ∧ OkL k (L.drop k)) ∧ Hid (Sta (Zv Z v) p wr most nsk) ∧ Hid (Hold Z W wr) ∧ Hid (wr.ownsRow W.heap.size 3 1 v o.length (o.map iv))) (fun _ iv' _ => n - (intOf iv').toNat)
  case atStart =>
    exact ⟨.slice none 0 0, 0, [], ns, [], rfl, rfl, Nat.zero_le _, Lib.hid HM.out.symm, Lib.hid (Stand.nil _), Lib.hid ⟨rfl, HOK.out⟩, H0, Lib.hid (Keep.refl _ _), Lib.hid (World.ownsRow_nil _ _ _ _)⟩
  case round =>
    obtain ⟨v, k, o, nsk, s, rfl, rfl, hk, hMk, HSt, HS, HSta, HHo, HRow⟩ := hrel
    clear HOK H0 HM
    have HL : Hid (o.length = k) := by have := HSt.out.len; have := HS.out.1; exact Lib.hid (by omega)
    by_cases hkn : k < n
    · obtain ⟨x, hx⟩ : ∃ x, L[k]? = some x := ⟨_, List.getElem?_eq_getElem (by have := HN.out; omega)⟩
      have hd := drop_one' hx
      have hok := HS.out.2
      rw [hd] at hok
      obtain ⟨b, off, rfl⟩ := HL0.out.elemAd 5 Ex.cells_len hx
      have hZb := HZ.out b off rfl (by have := HN.out; omega)
      obtain ⟨xk, xa, xb, xc, xv, xo⟩ := x
      have el := fun (j : Nat) (u : Value) (hu : (Ex.cells ⟨xk, xa, xb, xc, xv, xo⟩)[j]? = some u) => HHo.out.cell hZb (HL0.out.elem 6 Ex.cells_len hx j hu)
      have l_0 : wr.cell? ⟨b, off + k * 6, none⟩ = some (.int .i64 xk) := el 0 _ rfl
      have l_1 : wr.cell? ⟨b, off + k * 6 + 1, none⟩ = some (.int .i64 xa) := el 1 _ rfl
      have l_2 : wr.cell? ⟨b, off + k * 6 + 2, none⟩ = some (.int .i64 xb) := el 2 _ rfl
      have l_3 : wr.cell? ⟨b, off + k * 6 + 3, none⟩ = some (.int .i64 xc) := el 3 _ rfl
      have l_4 : wr.cell? ⟨b, off + k * 6 + 4, none⟩ = some (.int .i64 xv) := el 4 _ rfl
      have l_5 : wr.cell? ⟨b, off + k * 6 + 5, none⟩ = some (.bool xo) := el 5 _ rfl
      have HO : Hid (Ex.Ok ⟨xk, xa, xb, xc, xv, xo⟩ k) := Lib.hid hok.1
      have HOr : Hid (OkL (k + 1) (L.drop (k + 1))) := Lib.hid hok.2
      have HG := step_got (most := most) HSta.out.wf HSt.out (x := ⟨xk, xa, xb, xc, xv, xo⟩) (by rw [HS.out.1]; exact hok.1)
      obtain ⟨R, hR⟩ : ∃ R, stepF most nsk o ⟨xk, xa, xb, xc, xv, xo⟩ = R := ⟨_, rfl⟩
      rw [hR] at HG
      have HGo := Lib.hid HG
      have HWn := Lib.hid HSta.out.wf
      have HR := Lib.hid hR
      have hMx : M = mkF most nsk o (⟨xk, xa, xb, xc, xv, xo⟩ :: L.drop (k + 1)) := by rw [hMk.out, hd]
      have HMx := Lib.hid hMx
      have hwk : IntKind.i64.wrap ((k : Int) + 1) = ((k + 1 : Nat) : Int) := by rw [IntKind.wrap_i64]; omega
      have hsl := HS.out.1
      clear hMx HG hR hok hd hx el hMk
      go_upto_block 2 with fail
      refine at_code (S := fun W' => Blk W' wr.heap.size [.int .i64 xk, .int .i64 xa, .int .i64 xb, .int .i64 xc, .int .i64 xv, .bool xo] ∧ Below wr.heap.size wr W' ∧ wr.heap.size < W'.heap.size) ⟨Blk.new _ _ _, bel_al (Below.refl _ _) _, by simp⟩ (fun W1 hW => ?_)
      obtain ⟨hX, hb, hlt⟩ := hW
      have S1 := Lib.hid (HSta.out.grow hb (Y := fun k => k = wr.heap.size) (fun k e => by rw [e]; exact ⟨Nat.le_refl _, hlt⟩))
      have B1 := Lib.hid hb
      obtain ⟨x_0, x_1, x_2, x_3, x_4, x_5⟩ : _ ∧ _ ∧ _ ∧ _ ∧ _ ∧ _ := ⟨hX.1 0 _ rfl, hX.1 1 _ rfl, hX.1 2 _ rfl, hX.1 3 _ rfl, hX.1 4 _ rfl, hX.1 5 _ rfl⟩
      have HRow0 := HRow
      have HRow1 := Lib.hid (row_below HRow.out hb)
      clear hX hb hlt l_0 l_1 l_2 l_3 l_4 l_5 HRow
      have HRow := HRow1
      clear HRow1
      go_cut [9, 10] (fun u q wx => u = .int .i64 (rv R.1 : Nat) ∧ q = .int .i64 (er R.1) ∧ Sta (Zv Z u6) p wx most R.2 ∧ Hold (Zv Z u6) wr wx)
      case first =>
        clear HGo HMx HOr hwk HN HL0 HZ HZL HHo HRow0
        have HL' := HL
        have hk10 : xk = 0 ∨ xk = 1 ∨ xk = 2 ∨ xk = 3 ∨ xk = 4 ∨ xk = 5 ∨ xk = 6 ∨ xk = 7 ∨ xk = 8 ∨ xk = 9 := by have h1 := HO.out.1; have h2 := HO.out.2.1; simp only at h1 h2; omega
        rcases hk10 with rfl | rfl | rfl | rfl | rfl | rfl | rfl | rfl | rfl | rfl
        · as_aux_lemma =>
            have hR : stepF most nsk o ⟨0, xa, xb, xc, xv, xo⟩ = R := HR.out
            have hz : R = (some 0, nsk) := by rw [← hR]; rfl
            subst hz
            go_wp2_with fail
            go_meet
            exact ⟨rfl, rfl, S1.out.less (fun k q => Or.inl q), Hold.of B1.out⟩
        · as_aux_lemma =>
            have hR : stepF most nsk o ⟨1, xa, xb, xc, xv, xo⟩ = R := HR.out
            have hz : R = (some 1, nsk) := by rw [← hR]; rfl
            subst hz
            go_wp2_with fail
            go_meet
            exact ⟨rfl, rfl, S1.out.less (fun k q => Or.inl q), Hold.of B1.out⟩
        · as_aux_lemma =>
            have hR : stepF most nsk o ⟨2, xa, xb, xc, xv, xo⟩ = R := HR.out
            obtain ⟨xn, rfl⟩ : ∃ n : Nat, xv = n := ⟨xv.toNat, by have := HO.out.2.2.2; simp only at this; omega⟩
            have hx104 : xn < 104 := by have := HO.out.2.2.2; simp only at this; omega
            have hz : R = cF most nsk [(xn, xo)] := by rw [← hR]; rfl
            have C2 := Lib.hid (fun (W' : World) (b : Nat) (hS : Sta (fun k => (fun k => Zv Z u6 k ∨ k = wr.heap.size) k ∨ k = b) p W' most nsk) (hl : LitC W' b (natL [(xn, xo)])) => sCube hS [(xn, xo)] (rise_one hx104 xo) b 1 hl (Or.inr rfl))
            rw [← hz] at C2
            clear hz hR
            have HRv := Lib.hid (Eq.refl R)
            go_wp2_with fail
            refine at_calls (S := fun W' => LitC W' W1.heap.size (natL [(xn, xo)]) ∧ Below W1.heap.size W1 W' ∧ W1.heap.size < W'.heap.size) ⟨?_, bel_al (Below.refl _ _) _, by simp⟩ (fun W2 hW => ?_)
            · intro j y hy
              match j, hy with
              | 0, hy => cases hy; exact ⟨by simp [go_sem], by simp [go_sem]⟩
            have S2 := Lib.hid (S1.out.grow hW.2.1 (Y := fun k => k = W1.heap.size) (fun k e => by rw [e]; exact ⟨Nat.le_refl _, hW.2.2⟩))
            refine (C2.out W2 _ S2.out hW.1).mono ?_
            rintro e w2 ⟨rfl, hS2, hH2⟩
            have G2 := Lib.hid (And.intro (hS2.less (Z' := (fun k => Zv Z u6 k ∨ k = wr.heap.size)) (fun k q => Or.inl q)) ((Hold.of hW.2.1).trans (hH2.less (Z' := (fun k => Zv Z u6 k ∨ k = wr.heap.size)) (fun k q => Or.inl q))))
            clear hS2 hH2 hW
            go_wp2_with fail
            go_meet
            exact ⟨rfl, rfl, G2.out.1.less (fun k q => Or.inl q), (Hold.of B1.out).trans (G2.out.2.less (fun k q => Or.inl q))⟩
        · as_aux_lemma =>
            have hR : stepF most nsk o ⟨3, xa, xb, xc, xv, xo⟩ = R := HR.out
            have hkp : 0 < o.length := by have := HO.out.2.2.1 (show (3 : Int) ≤ 3 by omega); simp only at this; have := HL.out; omega
            obtain ⟨g, cap, rfl, hg⟩ := row_form HRow.out hkp
            obtain ⟨na, rfl⟩ : ∃ n : Nat, xa = n := ⟨xa.toNat, by have := HO.out.2.2.1 (show (3 : Int) ≤ 3 by omega); simp only at this; omega⟩
            have hal : na < o.length := by have := HO.out.2.2.1 (show (3 : Int) ≤ 3 by omega); have := HL.out; simp only at *; omega
            have hba : ((na : Nat) : Int) < (o.length : Int) := by omega
            have g_a := hg na hal
            have fa := (HSt.out.at' na (by have := HSt.out.len; omega)).1
            obtain ⟨ra, hra⟩ : ∃ r, o.getD na 0 = r := ⟨_, rfl⟩
            rw [hra] at g_a fa
            obtain ⟨nb, rfl⟩ : ∃ n : Nat, xb = n := ⟨xb.toNat, by have := HO.out.2.2.1 (show (3 : Int) ≤ 3 by omega); simp only at this; omega⟩
            have hbl : nb < o.length := by have := HO.out.2.2.1 (show (3 : Int) ≤ 3 by omega); have := HL.out; simp only at *; omega
            have hbb : ((nb : Nat) : Int) < (o.length : Int) := by omega
            have g_b := hg nb hbl
            have fb := (HSt.out.at' nb (by have := HSt.out.len; omega)).1
            obtain ⟨rb, hrb⟩ : ∃ r, o.getD nb 0 = r := ⟨_, rfl⟩
            rw [hrb] at g_b fb
            have hz : R = jF 0 most nsk ra rb := by rw [← hR, ← hra, ← hrb]; rfl
            have C2 := Lib.hid (fun (W' : World) (hS : Sta (fun k => Zv Z (.slice (some ⟨g, 0, none⟩) o.length cap) k ∨ k = wr.heap.size) p W' most nsk) => sJoin hS 0 ra rb (by omega) fa fb)
            rw [← hz] at C2
            clear hg hz hR hra hrb
            go_upto_region 15 with fail
            refine wp_region_noPanic ?_
            refine wp_region_along (S := fun w' => w'.cell? ⟨wr.heap.size, 0, none⟩ = some (.int .i64 3) ∧ w'.cell? ⟨wr.heap.size, 1, none⟩ = some (.int .i64 (na : Nat)) ∧ w'.cell? ⟨wr.heap.size, 2, none⟩ = some (.int .i64 (nb : Nat)) ∧ w'.cell? ⟨g, na, none⟩ = some (.int .i64 (ra : Nat)) ∧ w'.cell? ⟨g, nb, none⟩ = some (.int .i64 (rb : Nat))) ([(0, true), (1, true), (2, true), (3, true), (4, true), (5, true), (6, true), (7, true), (8, true), (9, true), (10, true), (11, true), (12, true), (13, true), (14, false), (15, true), (16, true), (17, true), (18, true), (19, true)]) (by kernel_rfl) (by as_aux_lemma => kernel_rfl) (by kernel_rfl) (by kernel_rfl) (by as_aux_lemma => kernel_rfl) (by as_aux_lemma => kernel_rfl) (fun _ _ _ _ _ h => h) ⟨x_0, x_1, x_2, g_a, g_b⟩ (fun hH => ?_)
            simp only [stepsOf, pickOp]
            iterate 14 (first | (refine along_skip (by rfl) ?_; try simp only [Act.put, List.setIfInBounds_toArray, List.set_cons_zero, List.set_cons_succ]) | (refine along_pure ?_ (by rfl) (fun w hSw => ?_) ?_; rotate_left; (obtain ⟨s_0, s_1, s_2, s_3, s_4⟩ := hSw; go_simp; try with_reducible rfl); try simp only [Act.put, List.setIfInBounds_toArray, List.set_cons_zero, List.set_cons_succ]))
            clear hH
            refine along_bar (fun K hK => ?_)
            go_simp
            refine (C2.out W1.drew (S1.out.on (Below.refl _ _).drew)).mono ?_
            rintro e w2 ⟨rfl, hS2, hH2⟩
            try go_wp2_with fail
            refine hK.out _ _ ⟨hH2.cell (Or.inr rfl) x_0, hH2.cell (Or.inr rfl) x_1, hH2.cell (Or.inr rfl) x_2, hH2.cell (Or.inl (Or.inr rfl)) g_a, hH2.cell (Or.inl (Or.inr rfl)) g_b⟩ (fun hH => ?_)
            have G2 := Lib.hid (And.intro hS2 hH2)
            clear hK K hS2 hH2
            try simp only [Act.put, List.setIfInBounds_toArray, List.set_cons_zero, List.set_cons_succ]
            iterate 5 (first | (refine along_skip (by rfl) ?_; try simp only [Act.put, List.setIfInBounds_toArray, List.set_cons_zero, List.set_cons_succ]) | (refine along_pure ?_ (by rfl) (fun w hSw => ?_) ?_; rotate_left; (obtain ⟨s_0, s_1, s_2, s_3, s_4⟩ := hSw; go_simp; try with_reducible rfl); try simp only [Act.put, List.setIfInBounds_toArray, List.set_cons_zero, List.set_cons_succ]))
            refine along_end (NoPanic.normal ?_)
            clear hH
            go_wp2_with fail
            have G2' := Lib.hid (And.intro G2.out.1 ((Hold.of (Below.refl _ _).drew).trans G2.out.2))
            clear G2
            have G2 := G2'
            go_meet
            exact ⟨rfl, rfl, G2.out.1.less (fun k q => Or.inl q), (Hold.of B1.out).trans (G2.out.2.less (fun k q => Or.inl q))⟩
        · as_aux_lemma =>
            have hR : stepF most nsk o ⟨4, xa, xb, xc, xv, xo⟩ = R := HR.out
            have hkp : 0 < o.length := by have := HO.out.2.2.1 (show (3 : Int) ≤ 4 by omega); simp only at this; have := HL.out; omega
            obtain ⟨g, cap, rfl, hg⟩ := row_form HRow.out hkp
            obtain ⟨na, rfl⟩ : ∃ n : Nat, xa = n := ⟨xa.toNat, by have := HO.out.2.2.1 (show (3 : Int) ≤ 4 by omega); simp only at this; omega⟩
            have hal : na < o.length := by have := HO.out.2.2.1 (show (3 : Int) ≤ 4 by omega); have := HL.out; simp only at *; omega
            have hba : ((na : Nat) : Int) < (o.length : Int) := by omega
            have g_a := hg na hal
            have fa := (HSt.out.at' na (by have := HSt.out.len; omega)).1
            obtain ⟨ra, hra⟩ : ∃ r, o.getD na 0 = r := ⟨_, rfl⟩
            rw [hra] at g_a fa
            obtain ⟨nb, rfl⟩ : ∃ n : Nat, xb = n := ⟨xb.toNat, by have := HO.out.2.2.1 (show (3 : Int) ≤ 4 by omega); simp only at this; omega⟩
            have hbl : nb < o.length := by have := HO.out.2.2.1 (show (3 : Int) ≤ 4 by omega); have := HL.out; simp only at *; omega
            have hbb : ((nb : Nat) : Int) < (o.length : Int) := by omega
            have g_b := hg nb hbl
            have fb := (HSt.out.at' nb (by have := HSt.out.len; omega)).1
            obtain ⟨rb, hrb⟩ : ∃ r, o.getD nb 0 = r := ⟨_, rfl⟩
            rw [hrb] at g_b fb
            have hz : R = jF 1 most nsk ra rb := by rw [← hR, ← hra, ← hrb]; rfl
            have C2 := Lib.hid (fun (W' : World) (hS : Sta (fun k => Zv Z (.slice (some ⟨g, 0, none⟩) o.length cap) k ∨ k = wr.heap.size) p W' most nsk) => sJoin hS 1 ra rb (by omega) fa fb)
            rw [← hz] at C2
            clear hg hz hR hra hrb
            go_upto_region 15 with fail
            refine wp_region_noPanic ?_
            refine wp_region_along (S := fun w' => w'.cell? ⟨wr.heap.size, 0, none⟩ = some (.int .i64 4) ∧ w'.cell? ⟨wr.heap.size, 1, none⟩ = some (.int .i64 (na : Nat)) ∧ w'.cell? ⟨wr.heap.size, 2, none⟩ = some (.int .i64 (nb : Nat)) ∧ w'.cell? ⟨g, na, none⟩ = some (.int .i64 (ra : Nat)) ∧ w'.cell? ⟨g, nb, none⟩ = some (.int .i64 (rb : Nat))) ([(0, true), (1, true), (2, true), (3, true), (4, true), (5, true), (6, true), (7, true), (8, true), (9, true), (10, true), (11, true), (12, true), (13, true), (14, false), (15, true), (16, true), (17, true), (18, true), (19, true)]) (by kernel_rfl) (by as_aux_lemma => kernel_rfl) (by kernel_rfl) (by kernel_rfl) (by as_aux_lemma => kernel_rfl) (by as_aux_lemma => kernel_rfl) (fun _ _ _ _ _ h => h) ⟨x_0, x_1, x_2, g_a, g_b⟩ (fun hH => ?_)
            simp only [stepsOf, pickOp]
            iterate 14 (first | (refine along_skip (by rfl) ?_; try simp only [Act.put, List.setIfInBounds_toArray, List.set_cons_zero, List.set_cons_succ]) | (refine along_pure ?_ (by rfl) (fun w hSw => ?_) ?_; rotate_left; (obtain ⟨s_0, s_1, s_2, s_3, s_4⟩ := hSw; go_simp; try with_reducible rfl); try simp only [Act.put, List.setIfInBounds_toArray, List.set_cons_zero, List.set_cons_succ]))
            clear hH
            refine along_bar (fun K hK => ?_)
            go_simp
            refine (C2.out W1.drew (S1.out.on (Below.refl _ _).drew)).mono ?_
            rintro e w2 ⟨rfl, hS2, hH2⟩
            try go_wp2_with fail
            refine hK.out _ _ ⟨hH2.cell (Or.inr rfl) x_0, hH2.cell (Or.inr rfl) x_1, hH2.cell (Or.inr rfl) x_2, hH2.cell (Or.inl (Or.inr rfl)) g_a, hH2.cell (Or.inl (Or.inr rfl)) g_b⟩ (fun hH => ?_)
            have G2 := Lib.hid (And.intro hS2 hH2)
            clear hK K hS2 hH2
            try simp only [Act.put, List.setIfInBounds_toArray, List.set_cons_zero, List.set_cons_succ]
            iterate 5 (first | (refine along_skip (by rfl) ?_; try simp only [Act.put, List.setIfInBounds_toArray, List.set_cons_zero, List.set_cons_succ]) | (refine along_pure ?_ (by rfl) (fun w hSw => ?_) ?_; rotate_left; (obtain ⟨s_0, s_1, s_2, s_3, s_4⟩ := hSw; go_simp; try with_reducible rfl); try simp only [Act.put, List.setIfInBounds_toArray, List.set_cons_zero, List.set_cons_succ]))
            refine along_end (NoPanic.normal ?_)
            clear hH
            go_wp2_with fail
            have G2' := Lib.hid (And.intro G2.out.1 ((Hold.of (Below.refl _ _).drew).trans G2.out.2))
            clear G2
            have G2 := G2'
            go_meet
            exact ⟨rfl, rfl, G2.out.1.less (fun k q => Or.inl q), (Hold.of B1.out).trans (G2.out.2.less (fun k q => Or.inl q))⟩
        · as_aux_lemma =>
            have hR : stepF most nsk o ⟨5, xa, xb, xc, xv, xo⟩ = R := HR.out
            have hkp : 0 < o.length := by have := HO.out.2.2.1 (show (3 : Int) ≤ 5 by omega); simp only at this; have := HL.out; omega
            obtain ⟨g, cap, rfl, hg⟩ := row_form HRow.out hkp
            obtain ⟨na, rfl⟩ : ∃ n : Nat, xa = n := ⟨xa.toNat, by have := HO.out.2.2.1 (show (3 : Int) ≤ 5 by omega); simp only at this; omega⟩
            have hal : na < o.length := by have := HO.out.2.2.1 (show (3 : Int) ≤ 5 by omega); have := HL.out; simp only at *; omega
            have hba : ((na : Nat) : Int) < (o.length : Int) := by omega
            have g_a := hg na hal
            have fa := (HSt.out.at' na (by have := HSt.out.len; omega)).1
            obtain ⟨ra, hra⟩ : ∃ r, o.getD na 0 = r := ⟨_, rfl⟩
            rw [hra] at g_a fa
            obtain ⟨nb, rfl⟩ : ∃ n : Nat, xb = n := ⟨xb.toNat, by have := HO.out.2.2.1 (show (3 : Int) ≤ 5 by omega); simp only at this; omega⟩
            have hbl : nb < o.length := by have := HO.out.2.2.1 (show (3 : Int) ≤ 5 by omega); have := HL.out; simp only at *; omega
            have hbb : ((nb : Nat) : Int) < (o.length : Int) := by omega
            have g_b := hg nb hbl
            have fb := (HSt.out.at' nb (by have := HSt.out.len; omega)).1
            obtain ⟨rb, hrb⟩ : ∃ r, o.getD nb 0 = r := ⟨_, rfl⟩
            rw [hrb] at g_b fb
            have hz : R = jF 2 most nsk ra rb := by rw [← hR, ← hra, ← hrb]; rfl
            have C2 := Lib.hid (fun (W' : World) (hS : Sta (fun k => Zv Z (.slice (some ⟨g, 0, none⟩) o.length cap) k ∨ k = wr.heap.size) p W' most nsk) => sJoin hS 2 ra rb (by omega) fa fb)
            rw [← hz] at C2
            clear hg hz hR hra hrb
            go_upto_region 15 with fail
            refine wp_region_noPanic ?_
            refine wp_region_along (S := fun w' => w'.cell? ⟨wr.heap.size, 0, none⟩ = some (.int .i64 5) ∧ w'.cell? ⟨wr.heap.size, 1, none⟩ = some (.int .i64 (na : Nat)) ∧ w'.cell? ⟨wr.heap.size, 2, none⟩ = some (.int .i64 (nb : Nat)) ∧ w'.cell? ⟨g, na, none⟩ = some (.int .i64 (ra : Nat)) ∧ w'.cell? ⟨g, nb, none⟩ = some (.int .i64 (rb : Nat))) ([(0, true), (1, true), (2, true), (3, true), (4, true), (5, true), (6, true), (7, true), (8, true), (9, true), (10, true), (11, true), (12, true), (13, true), (14, false), (15, true), (16, true), (17, true), (18, true), (19, true)]) (by kernel_rfl) (by as_aux_lemma => kernel_rfl) (by kernel_rfl) (by kernel_rfl) (by as_aux_lemma => kernel_rfl) (by as_aux_lemma => kernel_rfl) (fun _ _ _ _ _ h => h) ⟨x_0, x_1, x_2, g_a, g_b⟩ (fun hH => ?_)
            simp only [stepsOf, pickOp]
            iterate 14 (first | (refine along_skip (by rfl) ?_; try simp only [Act.put, List.setIfInBounds_toArray, List.set_cons_zero, List.set_cons_succ]) | (refine along_pure ?_ (by rfl) (fun w hSw => ?_) ?_; rotate_left; (obtain ⟨s_0, s_1, s_2, s_3, s_4⟩ := hSw; go_simp; try with_reducible rfl); try simp only [Act.put, List.setIfInBounds_toArray, List.set_cons_zero, List.set_cons_succ]))
            clear hH
            refine along_bar (fun K hK => ?_)
            go_simp
            refine (C2.out W1.drew (S1.out.on (Below.refl _ _).drew)).mono ?_
            rintro e w2 ⟨rfl, hS2, hH2⟩
            try go_wp2_with fail
            refine hK.out _ _ ⟨hH2.cell (Or.inr rfl) x_0, hH2.cell (Or.inr rfl) x_1, hH2.cell (Or.inr rfl) x_2, hH2.cell (Or.inl (Or.inr rfl)) g_a, hH2.cell (Or.inl (Or.inr rfl)) g_b⟩ (fun hH => ?_)
            have G2 := Lib.hid (And.intro hS2 hH2)
            clear hK K hS2 hH2
            try simp only [Act.put, List.setIfInBounds_toArray, List.set_cons_zero, List.set_cons_succ]
            iterate 5 (first | (refine along_skip (by rfl) ?_; try simp only [Act.put, List.setIfInBounds_toArray, List.set_cons_zero, List.set_cons_succ]) | (refine along_pure ?_ (by rfl) (fun w hSw => ?_) ?_; rotate_left; (obtain ⟨s_0, s_1, s_2, s_3, s_4⟩ := hSw; go_simp; try with_reducible rfl); try simp only [Act.put, List.setIfInBounds_toArray, List.set_cons_zero, List.set_cons_succ]))
            refine along_end (NoPanic.normal ?_)
            clear hH
            go_wp2_with fail
            have G2' := Lib.hid (And.intro G2.out.1 ((Hold.of (Below.refl _ _).drew).trans G2.out.2))
            clear G2
            have G2 := G2'
            go_meet
            exact ⟨rfl, rfl, G2.out.1.less (fun k q => Or.inl q), (Hold.of B1.out).trans (G2.out.2.less (fun k q => Or.inl q))⟩
        · as_aux_lemma =>
            have hR : stepF most nsk o ⟨6, xa, xb, xc, xv, xo⟩ = R := HR.out
            have hkp : 0 < o.length := by have := HO.out.2.2.1 (show (3 : Int) ≤ 6 by omega); simp only at this; have := HL.out; omega
            obtain ⟨g, cap, rfl, hg⟩ := row_form HRow.out hkp
            obtain ⟨na, rfl⟩ : ∃ n : Nat, xa = n := ⟨xa.toNat, by have := HO.out.2.2.1 (show (3 : Int) ≤ 6 by omega); simp only at this; omega⟩
            have hal : na < o.length := by have := HO.out.2.2.1 (show (3 : Int) ≤ 6 by omega); have := HL.out; simp only at *; omega
            have hba : ((na : Nat) : Int) < (o.length : Int) := by omega
            have g_a := hg na hal
            have fa := (HSt.out.at' na (by have := HSt.out.len; omega)).1
            obtain ⟨ra, hra⟩ : ∃ r, o.getD na 0 = r := ⟨_, rfl⟩
            rw [hra] at g_a fa
            obtain ⟨nb, rfl⟩ : ∃ n : Nat, xb = n := ⟨xb.toNat, by have := HO.out.2.2.1 (show (3 : Int) ≤ 6 by omega); simp only at this; omega⟩
            have hbl : nb < o.length := by have := HO.out.2.2.1 (show (3 : Int) ≤ 6 by omega); have := HL.out; simp only at *; omega
            have hbb : ((nb : Nat) : Int) < (o.length : Int) := by omega
            have g_b := hg nb hbl
            have fb := (HSt.out.at' nb (by have := HSt.out.len; omega)).1
            obtain ⟨rb, hrb⟩ : ∃ r, o.getD nb 0 = r := ⟨_, rfl⟩
            rw [hrb] at g_b fb
            have hz : R = jF 3 most nsk ra rb := by rw [← hR, ← hra, ← hrb]; rfl
            have C2 := Lib.hid (fun (W' : World) (hS : Sta (fun k => Zv Z (.slice (some ⟨g, 0, none⟩) o.length cap) k ∨ k = wr.heap.size) p W' most nsk) => sJoin hS 3 ra rb (by omega) fa fb)
            rw [← hz] at C2
            clear hg hz hR hra hrb
            go_upto_region 15 with fail
            refine wp_region_noPanic ?_
            refine wp_region_along (S := fun w' => w'.cell? ⟨wr.heap.size, 0, none⟩ = some (.int .i64 6) ∧ w'.cell? ⟨wr.heap.size, 1, none⟩ = some (.int .i64 (na : Nat)) ∧ w'.cell? ⟨wr.heap.size, 2, none⟩ = some (.int .i64 (nb : Nat)) ∧ w'.cell? ⟨g, na, none⟩ = some (.int .i64 (ra : Nat)) ∧ w'.cell? ⟨g, nb, none⟩ = some (.int .i64 (rb : Nat))) ([(0, true), (1, true), (2, true), (3, true), (4, true), (5, true), (6, true), (7, true), (8, true), (9, true), (10, true), (11, true), (12, true), (13, true), (14, false), (15, true), (16, true), (17, true), (18, true), (19, true)]) (by kernel_rfl) (by as_aux_lemma => kernel_rfl) (by kernel_rfl) (by kernel_rfl) (by as_aux_lemma => kernel_rfl) (by as_aux_lemma => kernel_rfl) (fun _ _ _ _ _ h => h) ⟨x_0, x_1, x_2, g_a, g_b⟩ (fun hH => ?_)
            simp only [stepsOf, pickOp]
            iterate 14 (first | (refine along_skip (by rfl) ?_; try simp only [Act.put, List.setIfInBounds_toArray, List.set_cons_zero, List.set_cons_succ]) | (refine along_pure ?_ (by rfl) (fun w hSw => ?_) ?_; rotate_left; (obtain ⟨s_0, s_1, s_2, s_3, s_4⟩ := hSw; go_simp; try with_reducible rfl); try simp only [Act.put, List.setIfInBounds_toArray, List.set_cons_zero, List.set_cons_succ]))
            clear hH
            refine along_bar (fun K hK => ?_)
            go_simp
            refine (C2.out W1.drew (S1.out.on (Below.refl _ _).drew)).mono ?_
            rintro e w2 ⟨rfl, hS2, hH2⟩
            try go_wp2_with fail
            refine hK.out _ _ ⟨hH2.cell (Or.inr rfl) x_0, hH2.cell (Or.inr rfl) x_1, hH2.cell (Or.inr rfl) x_2, hH2.cell (Or.inl (Or.inr rfl)) g_a, hH2.cell (Or.inl (Or.inr rfl)) g_b⟩ (fun hH => ?_)
            have G2 := Lib.hid (And.intro hS2 hH2)
            clear hK K hS2 hH2
            try simp only [Act.put, List.setIfInBounds_toArray, List.set_cons_zero, List.set_cons_succ]
            iterate 5 (first | (refine along_skip (by rfl) ?_; try simp only [Act.put, List.setIfInBounds_toArray, List.set_cons_zero, List.set_cons_succ]) | (refine along_pure ?_ (by rfl) (fun w hSw => ?_) ?_; rotate_left; (obtain ⟨s_0, s_1, s_2, s_3, s_4⟩ := hSw; go_simp; try with_reducible rfl); try simp only [Act.put, List.setIfInBounds_toArray, List.set_cons_zero, List.set_cons_succ]))
            refine along_end (NoPanic.normal ?_)
            clear hH
            go_wp2_with fail
            have G2' := Lib.hid (And.intro G2.out.1 ((Hold.of (Below.refl _ _).drew).trans G2.out.2))
            clear G2
            have G2 := G2'
            go_meet
            exact ⟨rfl, rfl, G2.out.1.less (fun k q => Or.inl q), (Hold.of B1.out).trans (G2.out.2.less (fun k q => Or.inl q))⟩
        · as_aux_lemma =>
            have hR : stepF most nsk o ⟨7, xa, xb, xc, xv, xo⟩ = R := HR.out
            have hkp : 0 < o.length := by have := HO.out.2.2.1 (show (3 : Int) ≤ 7 by omega); simp only at this; have := HL.out; omega
            obtain ⟨g, cap, rfl, hg⟩ := row_form HRow.out hkp
            obtain ⟨na, rfl⟩ : ∃ n : Nat, xa = n := ⟨xa.toNat, by have := HO.out.2.2.1 (show (3 : Int) ≤ 7 by omega); simp only at this; omega⟩
            have hal : na < o.length := by have := HO.out.2.2.1 (show (3 : Int) ≤ 7 by omega); have := HL.out; simp only at *; omega
            have hba : ((na : Nat) : Int) < (o.length : Int) := by omega
            have g_a := hg na hal
            have fa := (HSt.out.at' na (by have := HSt.out.len; omega)).1
            obtain ⟨ra, hra⟩ : ∃ r, o.getD na 0 = r := ⟨_, rfl⟩
            rw [hra] at g_a fa
            have hz : R = jF 3 most nsk 1 ra := by rw [← hR, ← hra]; rfl
            have C2 := Lib.hid (fun (W' : World) (hS : Sta (fun k => Zv Z (.slice (some ⟨g, 0, none⟩) o.length cap) k ∨ k = wr.heap.size) p W' most nsk) => sNot hS ra fa)
            rw [← hz] at C2
            clear hg hz hR hra
            go_wp2_with fail
            refine (C2.out W1 S1.out).mono ?_
            rintro e w2 ⟨rfl, hS2, hH2⟩
            have G2 := Lib.hid (And.intro hS2 hH2)
            clear hS2 hH2
            go_wp2_with fail
            go_meet
            exact ⟨rfl, rfl, G2.out.1.less (fun k q => Or.inl q), (Hold.of B1.out).trans (G2.out.2.less (fun k q => Or.inl q))⟩
        · as_aux_lemma =>
            have hR : stepF most nsk o ⟨8, xa, xb, xc, xv, xo⟩ = R := HR.out
            have hkp : 0 < o.length := by have := HO.out.2.2.1 (show (3 : Int) ≤ 8 by omega); simp only at this; have := HL.out; omega
            obtain ⟨g, cap, rfl, hg⟩ := row_form HRow.out hkp
            obtain ⟨na, rfl⟩ : ∃ n : Nat, xa = n := ⟨xa.toNat, by have := HO.out.2.2.1 (show (3 : Int) ≤ 8 by omega); simp only at this; omega⟩
            have hal : na < o.length := by have := HO.out.2.2.1 (show (3 : Int) ≤ 8 by omega); have := HL.out; simp only at *; omega
            have hba : ((na : Nat) : Int) < (o.length : Int) := by omega
            have g_a := hg na hal
            have fa := (HSt.out.at' na (by have := HSt.out.len; omega)).1
            obtain ⟨ra, hra⟩ : ∃ r, o.getD na 0 = r := ⟨_, rfl⟩
            rw [hra] at g_a fa
            obtain ⟨xn, rfl⟩ : ∃ n : Nat, xv = n := ⟨xv.toNat, by have := HO.out.2.2.2; simp only at this; omega⟩
            have hx104 : xn < 104 := by have := HO.out.2.2.2; simp only at this; omega
            have hz : R = rF xn xo most nsk ra := by rw [← hR, ← hra]; rfl
            have C2 := Lib.hid (fun (W' : World) (hS : Sta (fun k => Zv Z (.slice (some ⟨g, 0, none⟩) o.length cap) k ∨ k = wr.heap.size) p W' most nsk) => sRes hS ra xn xo hx104 fa)
            rw [← hz] at C2
            clear hg hz hR hra
            go_upto_region 19 with fail
            refine wp_region_noPanic ?_
            refine wp_region_along (S := fun w' => w'.cell? ⟨wr.heap.size, 1, none⟩ = some (.int .i64 (na : Nat)) ∧ w'.cell? ⟨wr.heap.size, 4, none⟩ = some (.int .i64 (xn : Nat)) ∧ w'.cell? ⟨wr.heap.size, 5, none⟩ = some (.bool xo) ∧ w'.cell? ⟨g, na, none⟩ = some (.int .i64 (ra : Nat))) ([(0, true), (1, true), (2, true), (3, true), (4, true), (5, true), (6, true), (7, true), (8, true), (9, true), (10, false), (11, true), (12, true), (13, true), (14, true), (15, true)]) (by kernel_rfl) (by as_aux_lemma => kernel_rfl) (by kernel_rfl) (by kernel_rfl) (by as_aux_lemma => kernel_rfl) (by as_aux_lemma => kernel_rfl) (fun _ _ _ _ _ h => h) ⟨x_1, x_4, x_5, g_a⟩ (fun hH => ?_)
            simp only [stepsOf, pickOp]
            iterate 10 (first | (refine along_skip (by rfl) ?_; try simp only [Act.put, List.setIfInBounds_toArray, List.set_cons_zero, List.set_cons_succ]) | (refine along_pure ?_ (by rfl) (fun w hSw => ?_) ?_; rotate_left; (obtain ⟨s_0, s_1, s_2, s_3⟩ := hSw; go_simp; try with_reducible rfl); try simp only [Act.put, List.setIfInBounds_toArray, List.set_cons_zero, List.set_cons_succ]))
            clear hH
            refine along_bar (fun K hK => ?_)
            go_simp
            refine (C2.out W1.drew (S1.out.on (Below.refl _ _).drew)).mono ?_
            rintro e w2 ⟨rfl, hS2, hH2⟩
            try go_wp2_with fail
            refine hK.out _ _ ⟨hH2.cell (Or.inr rfl) x_1, hH2.cell (Or.inr rfl) x_4, hH2.cell (Or.inr rfl) x_5, hH2.cell (Or.inl (Or.inr rfl)) g_a⟩ (fun hH => ?_)
            have G2 := Lib.hid (And.intro hS2 hH2)
            clear hK K hS2 hH2
            try simp only [Act.put, List.setIfInBounds_toArray, List.set_cons_zero, List.set_cons_succ]
            iterate 5 (first | (refine along_skip (by rfl) ?_; try simp only [Act.put, List.setIfInBounds_toArray, List.set_cons_zero, List.set_cons_succ]) | (refine along_pure ?_ (by rfl) (fun w hSw => ?_) ?_; rotate_left; (obtain ⟨s_0, s_1, s_2, s_3⟩ := hSw; go_simp; try with_reducible rfl); try simp only [Act.put, List.setIfInBounds_toArray, List.set_cons_zero, List.set_cons_succ]))
            refine along_end (NoPanic.normal ?_)
            clear hH
            go_wp2_with fail
            have G2' := Lib.hid (And.intro G2.out.1 ((Hold.of (Below.refl _ _).drew).trans G2.out.2))
            clear G2
            have G2 := G2'
            go_meet
            exact ⟨rfl, rfl, G2.out.1.less (fun k q => Or.inl q), (Hold.of B1.out).trans (G2.out.2.less (fun k q => Or.inl q))⟩
        · as_aux_lemma =>
            have hR : stepF most nsk o ⟨9, xa, xb, xc, xv, xo⟩ = R := HR.out
            have hkp : 0 < o.length := by have := HO.out.2.2.1 (show (3 : Int) ≤ 9 by omega); simp only at this; have := HL.out; omega
            obtain ⟨g, cap, rfl, hg⟩ := row_form HRow.out hkp
            obtain ⟨na, rfl⟩ : ∃ n : Nat, xa = n := ⟨xa.toNat, by have := HO.out.2.2.1 (show (3 : Int) ≤ 9 by omega); simp only at this; omega⟩
            have hal : na < o.length := by have := HO.out.2.2.1 (show (3 : Int) ≤ 9 by omega); have := HL.out; simp only at *; omega
            have hba : ((na : Nat) : Int) < (o.length : Int) := by omega
            have g_a := hg na hal
            have fa := (HSt.out.at' na (by have := HSt.out.len; omega)).1
            obtain ⟨ra, hra⟩ : ∃ r, o.getD na 0 = r := ⟨_, rfl⟩
            rw [hra] at g_a fa
            obtain ⟨nb, rfl⟩ : ∃ n : Nat, xb = n := ⟨xb.toNat, by have := HO.out.2.2.1 (show (3 : Int) ≤ 9 by omega); simp only at this; omega⟩
            have hbl : nb < o.length := by have := HO.out.2.2.1 (show (3 : Int) ≤ 9 by omega); have := HL.out; simp only at *; omega
            have hbb : ((nb : Nat) : Int) < (o.length : Int) := by omega
            have g_b := hg nb hbl
            have fb := (HSt.out.at' nb (by have := HSt.out.len; omega)).1
            obtain ⟨rb, hrb⟩ : ∃ r, o.getD nb 0 = r := ⟨_, rfl⟩
            rw [hrb] at g_b fb
            obtain ⟨nc, rfl⟩ : ∃ n : Nat, xc = n := ⟨xc.toNat, by have := HO.out.2.2.1 (show (3 : Int) ≤ 9 by omega); simp only at this; omega⟩
            have hcl : nc < o.length := by have := HO.out.2.2.1 (show (3 : Int) ≤ 9 by omega); have := HL.out; simp only at *; omega
            have hbc : ((nc : Nat) : Int) < (o.length : Int) := by omega
            have g_c := hg nc hcl
            have fc := (HSt.out.at' nc (by have := HSt.out.len; omega)).1
            obtain ⟨rc, hrc⟩ : ∃ r, o.getD nc 0 = r := ⟨_, rfl⟩
            rw [hrc] at g_c fc
            have hz : R = iF most nsk ra rb rc := by rw [← hR, ← hra, ← hrb, ← hrc]; rfl
            have C2 := Lib.hid (fun (W' : World) (hS : Sta (fun k => Zv Z (.slice (some ⟨g, 0, none⟩) o.length cap) k ∨ k = wr.heap.size) p W' most nsk) => sIte hS ra rb rc fa fb fc)
            rw [← hz] at C2
            clear hg hz hR hra hrb hrc
            go_upto_region 21 with fail
            refine wp_region_noPanic ?_
            refine wp_region_along (S := fun w' => w'.cell? ⟨wr.heap.size, 1, none⟩ = some (.int .i64 (na : Nat)) ∧ w'.cell? ⟨wr.heap.size, 2, none⟩ = some (.int .i64 (nb : Nat)) ∧ w'.cell? ⟨wr.heap.size, 3, none⟩ = some (.int .i64 (nc : Nat)) ∧ w'.cell? ⟨g, na, none⟩ = some (.int .i64 (ra : Nat)) ∧ w'.cell? ⟨g, nb, none⟩ = some (.int .i64 (rb : Nat)) ∧ w'.cell? ⟨g, nc, none⟩ = some (.int .i64 (rc : Nat))) ([(0, true), (1, true), (2, true), (3, true), (4, true), (5, true), (6, true), (7, true), (8, true), (9, true), (10, true), (11, true), (12, true), (13, true), (14, true), (15, true), (16, false), (17, true), (18, true), (19, true), (20, true), (21, true)]) (by kernel_rfl) (by as_aux_lemma => kernel_rfl) (by kernel_rfl) (by kernel_rfl) (by as_aux_lemma => kernel_rfl) (by as_aux_lemma => kernel_rfl) (fun _ _ _ _ _ h => h) ⟨x_1, x_2, x_3, g_a, g_b, g_c⟩ (fun hH => ?_)
            simp only [stepsOf, pickOp]
            iterate 16 (first | (refine along_skip (by rfl) ?_; try simp only [Act.put, List.setIfInBounds_toArray, List.set_cons_zero, List.set_cons_succ]) | (refine along_pure ?_ (by rfl) (fun w hSw => ?_) ?_; rotate_left; (obtain ⟨s_0, s_1, s_2, s_3, s_4, s_5⟩ := hSw; go_simp; try with_reducible rfl); try simp only [Act.put, List.setIfInBounds_toArray, List.set_cons_zero, List.set_cons_succ]))
            clear hH
            refine along_bar (fun K hK => ?_)
            go_simp
            refine (C2.out W1.drew (S1.out.on (Below.refl _ _).drew)).mono ?_
            rintro e w2 ⟨rfl, hS2, hH2⟩
            try go_wp2_with fail
            refine hK.out _ _ ⟨hH2.cell (Or.inr rfl) x_1, hH2.cell (Or.inr rfl) x_2, hH2.cell (Or.inr rfl) x_3, hH2.cell (Or.inl (Or.inr rfl)) g_a, hH2.cell (Or.inl (Or.inr rfl)) g_b, hH2.cell (Or.inl (Or.inr rfl)) g_c⟩ (fun hH => ?_)
            have G2 := Lib.hid (And.intro hS2 hH2)
            clear hK K hS2 hH2
            try simp only [Act.put, List.setIfInBounds_toArray, List.set_cons_zero, List.set_cons_succ]
            iterate 5 (first | (refine along_skip (by rfl) ?_; try simp only [Act.put, List.setIfInBounds_toArray, List.set_cons_zero, List.set_cons_succ]) | (refine along_pure ?_ (by rfl) (fun w hSw => ?_) ?_; rotate_left; (obtain ⟨s_0, s_1, s_2, s_3, s_4, s_5⟩ := hSw; go_simp; try with_reducible rfl); try simp only [Act.put, List.setIfInBounds_toArray, List.set_cons_zero, List.set_cons_succ]))
            refine along_end (NoPanic.normal ?_)
            clear hH
            go_wp2_with fail
            have G2' := Lib.hid (And.intro G2.out.1 ((Hold.of (Below.refl _ _).drew).trans G2.out.2))
            clear G2
            have G2 := G2'
            go_meet
            exact ⟨rfl, rfl, G2.out.1.less (fun k q => Or.inl q), (Hold.of B1.out).trans (G2.out.2.less (fun k q => Or.inl q))⟩
      case rest =>
        obtain ⟨rfl, rfl, hS2, hH2⟩ := hcut
        have S2 := Lib.hid hS2
        have H2 := Lib.hid hH2
        have R2 := Lib.hid (row_hold HRow0.out hH2 (fun g hg => Or.inr hg))
        have HH2 := Lib.hid (HHo.out.trans (hH2.less (fun k q => Or.inl q)))
        clear hS2 hH2 x_0 x_1 x_2 x_3 x_4 x_5 S1 B1 HRow HHo HSta HRow0
        obtain ⟨r, ns1⟩ := R
        have hstep := HR.out
        cases r with
        | none =>
          have hz : M = (o, false, ns1) := by rw [HMx.out, mkF.eq_2, hstep]
          subst hz
          have he : ((er (none : Option Nat)) : Int) = 20 := rfl
          rw [he]
          go_wp2
          go_ret2
          exact ⟨u6, rfl, S2.out, HH2.out, R2.out⟩
        | some f =>
          have hz : M = mkF most ns1 (o ++ [f]) (L.drop (k + 1)) := by rw [HMx.out, mkF.eq_2, hstep]
          have HMn := Lib.hid hz
          have he : ((er (some f)) : Int) = 0 := rfl
          have hf : ((rv (some f) : Nat) : Int) = (f : Nat) := rfl
          rw [he, hf]
          have HSt2 := Lib.hid ((HSt.out.ext HGo.out.ext HWn.out HGo.out.wf).push (HGo.out.set f rfl).1 (HGo.out.set f rfl).2)
          obtain ⟨i0, hi0, hz0, hz1, hz2⟩ := hinfo_parts2 infoInt
          have hown := R2.out
          have hl60 : o.length ≤ 60 := by have := HL.out; omega
          have hbs : W.heap.size ≤ wc.heap.size := HH2.out.size
          clear hz hstep HMx HR
          go_wp2_with (at_builtin; refine wpList_append_own_at _ rfl _ _ 29 rfl W.heap.size 3 i0 (.int .i64 0) 1 8 Try.underlying29 hi0 hz0 hz1 hz2 rfl (by decide) _ _ _ rfl (hown.alloc _) ⟨wc.heap.size, 0, none⟩ 1 1 [.int .i64 (f : Nat)] rfl rfl (cell_one_new _ _ _) ?c2 ?c3 ?c4 ?c5 ?_)
          case c2 => first | rfl | (intro y hy; simp at hy; subst hy; rfl)
          case c3 => unfold maxLen; omega
          case c4 => omega
          case c5 => first | omega | (simp; omega)
          · intro v' w4 hown' hgrow _ hat
            have HO4 := Lib.hid hown'
            have HG4 := Lib.hid hgrow
            have HA4 := Lib.hid hat
            clear hown' hgrow hat hown
            go_wp2_with fail
            refine ⟨⟨v', k + 1, o ++ [f], ns1, s ++ [semE s ⟨xk, xa, xb, xc, xv, xo⟩], rfl, ?_, by omega, HMn, HSt2, Lib.hid ⟨by simp [hsl], HOr.out⟩, ?_, ?_, ?_⟩, ?_⟩
            · first | rfl | rw [hwk]
            · refine Lib.hid (Sta.append ?_ HG4.out (by rw [World.size_alloc]; exact HA4.out) (fun g hg => (HO4.out.lt g hg).2))
              exact S2.out.on (bel_al (Below.refl _ _) _)
            · refine Lib.hid ((HH2.out.trans (Hold.of (bel_al (Below.refl _ _) _))).trans (Hold.append HG4.out (fun g hg q => ?_)))
              have a1 := (R2.out.lt g hg).1
              have a2 := HZL.out g q
              omega
            · have e1 : (o ++ [f]).length = o.length + 1 := by simp
              have e2 : (o ++ [f]).map iv = o.map iv ++ [.int .i64 (f : Nat)] := by rw [List.map_append]; rfl
              rw [e1, e2]
              exact HO4
            · simp [intOf] <;> omega
    · have hkn' : k = n := by omega
      subst hkn'
      have hz : M = (o, true, nsk) := by
        rw [hMk.out, ← HN.out, List.drop_length]; rfl
      subst hz
      go_wp2
      go_ret2
      exact ⟨u6, rfl, HSta.out, HHo.out, HRow.out⟩
end Go.Proofs.Ytgcbngephokegab
