/- What is wrong with a topology. -/
import Derived.Test.YtoiopjdbmaffeaaT2
import Derived.Test.YtoiopjdbmaffeaaT6
namespace Go.Proofs.Ytoiopjdbmaffeaa
open Go.RowKit
set_option linter.unusedVariables false

set_option maxRecDepth 100000 in
set_option maxHeartbeats 4000000 in
theorem tcheck_any (ps : List Int) (ls : List Lk) (es : List Ac) (pa : Option Addr) (pc : Nat) (la : Option Addr) (lc : Nat) (aa : Option Addr) (ac : Nat) (w : World) (hol : ∀ c ∈ ls, c.Ok) (hok : ∀ c ∈ es, c.Ok) (hp : Rw w pa (ints ps)) (hl : Rw w la (ls.flatMap Lk.cells)) (he : Rw w aa (es.flatMap Ac.cells))
    (hlp : ps.length < 100000) (hll : ls.length < 100000) (hle : es.length < 100000) :
    Calls Try.prog 9 #[tv pa ps.length pc la ls.length lc aa es.length ac] w fun e w' => e = .returned (.int .i64 (TP.chk ⟨ps, ls, es⟩)) ∧ Below w.heap.size w w' := by
  obtain ⟨R, hR⟩ : ∃ R, TP.chk ⟨ps, ls, es⟩ = R := ⟨_, rfl⟩
  rw [hR]
  unfold TP.chk at hR
  simp only at hR
  obtain ⟨W0, hW0⟩ : ∃ W0, w.alloc (Obj.cells (tc pa ps.length pc la ls.length lc aa es.length ac).toArray 26) = W0 := ⟨_, rfl⟩
  have hb0 : Below w.heap.size w W0 := by rw [← hW0]; exact cbelow_al (Below.refl _ _) _
  have T0 := Lib.hid (show Blk W0 w.heap.size (tc pa ps.length pc la ls.length lc aa es.length ac) by rw [← hW0]; exact Blk.new _ _ _)
  have P0 := Lib.hid (hp.on hb0)
  have L0 := Lib.hid (hl.on hb0)
  have E0 := Lib.hid (he.on hb0)
  have BB := Lib.hid hb0
  have HR := Lib.hid hR
  clear hb0 hR hp hl he
  have CL := Lib.hid (fun w h1 h2 => clinks_any ps ls pa pc la lc aa es.length ac w hol h1 h2 hll)
  have CC := Lib.hid (fun w h1 h2 => cent_any ps es pa pc la ls.length lc aa ac w hok h1 h2 (Nat.lt_trans hle (by omega)))
  clear hol hok
  unfold tc at *
  unfold tv at *
  obtain ⟨na, hna⟩ : ∃ n, es.length = n := ⟨_, rfl⟩
  obtain ⟨nl, hnl⟩ : ∃ n, ls.length = n := ⟨_, rfl⟩
  obtain ⟨np, hnp⟩ : ∃ n, ps.length = n := ⟨_, rfl⟩
  rw [hna] at T0 hW0 CL CC HR hle ⊢
  rw [hnl] at T0 hW0 CL CC hll ⊢
  rw [hnp] at T0 hW0 CL CC HR hlp ⊢
  generalize lnkE ps [] (ends ls) = QL at *
  generalize entE ps es = QE at *
  by_cases a1 : np < 1
  · have a1' : decide ((np : Int) < 1) = true := decide_eq_true (by omega)
    have HQ : Hid (R = 15) := by show _ = _; rw [← HR.out, if_pos (Or.inl a1)]
    go_enter Try.func9, Try.ntmps9
    go_upto_region 1 with fail
    clear hW0
    obtain ⟨t_0, t_1, t_2⟩ : _ ∧ _ ∧ _ := ⟨T0.out.1 0 _ rfl, T0.out.1 1 _ rfl, T0.out.1 2 _ rfl⟩
    go_wp2
    go_ret
    exact ⟨by rw [HQ.out]; rfl, BB.out⟩
  · have a1' : decide ((np : Int) < 1) = false := decide_eq_false (by omega)
    by_cases a2 : 16 < np
    · have a2' : decide (16 < (np : Int)) = true := decide_eq_true (by omega)
      have HQ : Hid (R = 15) := by show _ = _; rw [← HR.out, if_pos (Or.inr (Or.inl a2))]
      go_enter Try.func9, Try.ntmps9
      go_upto_region 1 with fail
      clear hW0
      obtain ⟨t_0, t_1, t_2⟩ : _ ∧ _ ∧ _ := ⟨T0.out.1 0 _ rfl, T0.out.1 1 _ rfl, T0.out.1 2 _ rfl⟩
      go_wp2
      go_ret
      exact ⟨by rw [HQ.out]; rfl, BB.out⟩
    · have a2' : decide (16 < (np : Int)) = false := decide_eq_false (by omega)
      by_cases a3 : 32 < na
      · have a3' : decide (32 < (na : Int)) = true := decide_eq_true (by omega)
        have HQ : Hid (R = 15) := by show _ = _; rw [← HR.out, if_pos (Or.inr (Or.inr a3))]
        go_enter Try.func9, Try.ntmps9
        go_upto_region 1 with fail
        clear hW0
        obtain ⟨t_0, t_1, t_2⟩ : _ ∧ _ ∧ _ := ⟨T0.out.1 0 _ rfl, T0.out.1 1 _ rfl, T0.out.1 2 _ rfl⟩
        go_wp2
        go_ret
        exact ⟨by rw [HQ.out]; rfl, BB.out⟩
      · have a3' : decide (32 < (na : Int)) = false := decide_eq_false (by omega)
        have HR1 : Hid ((if cntE ps ≠ 0 then cntE ps else if QL ≠ 0 then QL else QE) = R) := by
          have k := HR.out
          rw [if_neg (by omega)] at k
          exact k
        clear HR
        go_enter Try.func9, Try.ntmps9
        go_upto_region 1 with fail
        clear hW0
        obtain ⟨t_0, t_1, t_2⟩ : _ ∧ _ ∧ _ := ⟨T0.out.1 0 _ rfl, T0.out.1 1 _ rfl, T0.out.1 2 _ rfl⟩
        go_wp2_with fail
        clear t_0 t_1 t_2
        go_loopw [25] (fun iv wr => ∃ i : Nat, iv = .int .i64 i ∧ i ≤ np ∧ Hid (cntE (ps.drop i) = cntE ps) ∧ Hid (Below W0.heap.size W0 wr)) (fun iv _ => np - (intOf iv).toNat)
        case atStart => exact ⟨0, rfl, Nat.zero_le _, Lib.hid rfl, Lib.hid (Below.refl _ _)⟩
        case round =>
          obtain ⟨i, rfl, hi, hE1, B1⟩ := hrel
          have T1 := Lib.hid (T0.out.on B1.out)
          have P1 := Lib.hid (P0.out.on B1.out)
          have L1 := Lib.hid (L0.out.on B1.out)
          have E1 := Lib.hid (E0.out.on B1.out)
          clear T0 P0 L0 E0
          obtain ⟨t_0, t_1, t_2⟩ : _ ∧ _ ∧ _ := ⟨T1.out.1 0 _ rfl, T1.out.1 1 _ rfl, T1.out.1 2 _ rfl⟩
          by_cases hlt : i < np
          · have hg := ints_get (l := ps) (k := i) (by omega)
            obtain ⟨bb, off, rfl, -⟩ := P1.out i _ hg
            have k0 := P1.out.cell hg
            obtain ⟨x, hx1, hx2, -⟩ := drop_at (l := ps) (i := i) (by omega)
            have hx : ps.getD i 0 = x := by rw [List.getD_eq_getElem?_getD, hx1]; rfl
            rw [hx] at k0
            have HX : Hid ((if x < 0 ∨ 8 < x then 11 else cntE (ps.drop (i + 1))) = cntE ps) := by show _ = _; rw [← hE1.out, hx2]; rfl
            clear hg hx hx1 hx2
            have hw1 : IntKind.i64.wrap ((i : Int) + 1) = (i : Int) + 1 := by rw [IntKind.wrap_i64]; omega
            by_cases z1 : x < 0
            · have z1' : decide (x < 0) = true := decide_eq_true z1
              have HQ : Hid (R = 11) := by
                show _ = _
                rw [if_pos (Or.inl z1)] at HX
                rw [← HR1.out, ← HX.out, if_pos (by omega)]
              go_wp2
              go_ret
              exact ⟨by rw [HQ.out]; rfl, cbelow_on BB.out B1.out⟩
            · have z1' : decide (x < 0) = false := decide_eq_false z1
              by_cases z2 : 8 < x
              · have z2' : decide (8 < x) = true := decide_eq_true z2
                have HQ : Hid (R = 11) := by
                  show _ = _
                  rw [if_pos (Or.inr z2)] at HX
                  rw [← HR1.out, ← HX.out, if_pos (by omega)]
                go_wp2
                go_ret
                exact ⟨by rw [HQ.out]; rfl, cbelow_on BB.out B1.out⟩
              · have z2' : decide (8 < x) = false := decide_eq_false z2
                rw [if_neg (by omega)] at HX
                go_wp2
                refine ⟨?_, ?_⟩
                · first | exact ⟨i + 1, by go_num, by omega, HX, B1⟩ | ((repeat apply Exists.intro); exact ⟨⟨i + 1, by go_num, by omega, HX, B1⟩, rfl⟩)
                · simp [intOf]; omega
          · obtain rfl : i = np := by omega
            have HR2 : Hid ((if QL ≠ 0 then QL else QE) = R) := by
              show _ = _
              have k : cntE ps = 0 := by rw [← hE1.out, List.drop_eq_nil_of_le (by omega)]; rfl
              have k2 := HR1.out
              rw [if_neg (by omega)] at k2
              exact k2
            clear HR1 hE1
            go_wp2_with fail
            refine (CL.out _ P1.out L1.out).mono ?_
            rintro e w2 ⟨rfl, hb⟩
            have B2 := Lib.hid (cbelow_on B1.out hb)
            have T2 := Lib.hid (T1.out.on hb)
            have P2 := Lib.hid (P1.out.on hb)
            have E2 := Lib.hid (E1.out.on hb)
            clear hb T1 P1 L1 E1 B1 t_0 t_1 t_2 CL
            obtain ⟨t_0, t_1, t_2⟩ : _ ∧ _ ∧ _ := ⟨T2.out.1 0 _ rfl, T2.out.1 1 _ rfl, T2.out.1 2 _ rfl⟩
            by_cases y1 : QL = 0
            · subst y1
              have HQ : Hid (R = QE) := by show _ = _; rw [← HR2.out, if_neg (by omega)]
              go_wp2_with fail
              refine (CC.out _ P2.out E2.out).mono ?_
              rintro e w3 ⟨rfl, hb⟩
              have B3 := Lib.hid (cbelow_on B2.out hb)
              clear hb
              go_wp2
              go_ret
              exact ⟨by rw [HQ.out]; rfl, cbelow_on BB.out B3.out⟩
            · have HQ : Hid (R = QL) := by show _ = _; rw [← HR2.out, if_pos y1]
              have y1' : (QL != 0) = true := by simp; exact y1
              go_wp2
              go_ret
              exact ⟨by rw [HQ.out]; rfl, cbelow_on BB.out B2.out⟩
end Go.Proofs.Ytoiopjdbmaffeaa
