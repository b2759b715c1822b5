/- TrieMoves: the walk. -/
import Derived.Test.YtpninjdmgjbggaaKW1
namespace Go.Proofs.Ytpninjdmgjbggaa
open Go.RowKit Go.Maps Go.MapKept Go.ChangeMaps Go.WideElems Go.Joins
set_option linter.unusedVariables false
set_option linter.unusedSimpArgs false

set_option maxRecDepth 100000 in
theorem moves_many (L : List OpR) (la : Option Addr) (lc t : Nat) (hn : 40 < L.length) (W : World) : Calls Try.prog 6 #[.slice la L.length lc, .int .u8 (t : Nat)] W fun e w' => e = .returned (.bool true) ∧ Below W.heap.size W w' := by
  have h := Lib.hid (awake_any W)
  go_enter Try.func6, Try.ntmps6
  go_wp2_with fail
  refine h.out.mono ?_
  rintro e w' ⟨rfl, hb⟩
  have B := Lib.hid hb
  clear hb h
  go_wp2
  go_ret
  exact ⟨rfl, B.out⟩
set_option maxRecDepth 100000 in
set_option maxHeartbeats 2000000 in
theorem moves_few (L : List OpR) (la : Option Addr) (lc t : Nat) (ht : t < 256) (hok : ∀ x ∈ L, x.Ok) (hn : L.length ≤ 40) (W : World) (hr : Rw W la (L.flatMap OpR.cells)) :
    Calls Try.prog 6 #[.slice la L.length lc, .int .u8 (t : Nat)] W fun e w' => e = .returned (.bool true) ∧ Below W.heap.size W w' := by
  have R := Lib.hid hr
  have OK := Lib.hid hok
  obtain ⟨n, hN⟩ : ∃ n, L.length = n := ⟨_, rfl⟩
  have hE1 : Hid (∀ i, (addL [] (L.take i)).length ≤ 100000) := Lib.hid (fun i => by have := addL_len (L.take i) []; rw [List.length_take] at this; simp at this; omega)
  have hE2 : Hid (∀ i, i ≤ L.length → (addL [] (rotL L t i)).length ≤ 100000) := Lib.hid (fun i hi => by have h1 := addL_len (rotL L t i) []; have h2 := rotL_len L t i; rw [List.length_nil] at h1; omega)
  rw [hN] at hn hE2 ⊢
  have HN := Lib.hid hN
  have hwt : IntKind.i64.wrap (t : Int) = ((t : Nat) : Int) := by rw [IntKind.wrap_i64]; omega
  clear hr hok hN
  obtain ⟨p, hp⟩ : ∃ p, W.heap.size = p := ⟨_, rfl⟩
  go_enter Try.func6, Try.ntmps6
  go_upto_region 4 with fail
  have hnew := t2_new W 33
  refine at_code (S := fun w => T2 W W.heap.size (W.heap.size + 1) w (addL [] (L.take 0)) []) hnew (fun W1 h1 => ?_)
  have S1 := Lib.hid h1
  rw [hp] at S1
  clear h1 hnew hp
  go_wp2_with fail
  go_loopw [28] (fun iv wr => ∃ (i : Nat), iv = .int .i64 (i : Nat) ∧ i ≤ n ∧ Hid (T2 W p (p + 1) wr (addL [] (L.take i)) [])) (fun iv _ => n - (intOf iv).toNat)
  case atStart => exact ⟨0, rfl, Nat.zero_le _, S1⟩
  case round =>
    obtain ⟨i, rfl, hi, S⟩ := hrel
    clear S1
    by_cases hin : i < n
    · have hw1 : IntKind.i64.wrap ((i : Int) + 1) = ((i + 1 : Nat) : Int) := by rw [IntKind.wrap_i64]; omega
      obtain ⟨x, hx⟩ : ∃ x, L[i]? = some x := ⟨_, List.getElem?_eq_getElem (by rw [HN.out]; exact hin)⟩
      obtain ⟨b, o, rfl, c0, c1, c2, c3⟩ := op_at (ops_on R.out S.out.below) hx
      have HX := Lib.hid hx
      go_upto_region 7 with fail
      refine at_code (S := fun w => Blk w wr.heap.size [.bool x.d, .int .u32 x.a, .int .i64 x.n, .int .i64 x.v] ∧ T2 W p (p + 1) w (addL [] (L.take i)) []) ⟨Blk.new _ _ _, S.out.on (bel_al (Below.refl _ _) _)⟩ (fun w2 h2 => ?_)
      have S2 := Lib.hid h2.2
      have x_1 := h2.1.1 1 _ rfl
      have x_2 := h2.1.1 2 _ rfl
      have x_3 := h2.1.1 3 _ rfl
      clear h2 c0 c1 c2 c3 S hx
      go_wp2_with fail
      refine (t2_add S2.out x (OK.out x (List.mem_of_getElem? HX.out)) (hE1.out i)).mono ?_
      rintro e w3 ⟨rfl, h3⟩
      rw [← addL_snoc [] L i x HX.out] at h3
      have S3 := Lib.hid h3
      clear h3 S2 x_1 x_2 x_3
      go_wp2_with fail
      refine ⟨⟨i + 1, by first | rfl | rw [hw1], by omega, S3⟩, by simp [intOf] <;> omega⟩
    · obtain rfl : i = n := by omega
      have eL : L.take i = L := List.take_of_length_le (by rw [HN.out]; exact Nat.le_refl _)
      rw [eL] at S
      have hEL : (addL [] L).length ≤ 100000 := by have := hE1.out i; rwa [eL] at this
      clear eL
      go_wp2_with fail
      go_loopw [40] (fun iv wr => ∃ (j : Nat), iv = .int .i64 (j : Nat) ∧ j ≤ i ∧ Hid (T2 W p (p + 1) wr (addL [] L) (addL [] (rotL L t j)))) (fun iv _ => i - (intOf iv).toNat)
      case atStart => exact ⟨0, rfl, Nat.zero_le _, S⟩
      case round =>
        obtain ⟨j, rfl, hj, S2⟩ := hrel
        clear S
        by_cases hjn : j < i
        · have hw1 : IntKind.i64.wrap ((j : Int) + 1) = ((j + 1 : Nat) : Int) := by rw [IntKind.wrap_i64]; omega
          have hw2 : IntKind.i64.wrap ((j : Int) + (t : Int)) = ((j + t : Nat) : Int) := by rw [IntKind.wrap_i64]; omega
          have hrm : ((j : Int) + (t : Int)).tmod (i : Int) = (((j + t) % i : Nat) : Int) := by rw [Int.tmod_eq_emod_of_nonneg (by omega)]; exact (Int.natCast_emod (j + t) i).symm
          have hrm2 : (((j + t : Nat) : Int)).tmod (i : Int) = (((j + t) % i : Nat) : Int) := by rw [Int.tmod_eq_emod_of_nonneg (by omega)]; exact (Int.natCast_emod (j + t) i).symm
          have hi0 : ¬ (i : Int) = 0 := by omega
          have hi1 : ¬ i = 0 := by omega
          have hml : (j + t) % i < i := Nat.mod_lt _ (by omega)
          have hw3 : IntKind.i64.wrap (((j + t) % i : Nat) : Int) = (((j + t) % i : Nat) : Int) := by rw [IntKind.wrap_i64]; omega
          obtain ⟨m, hm⟩ : ∃ m, (j + t) % i = m := ⟨_, rfl⟩
          obtain ⟨x, hx⟩ : ∃ x, L[m]? = some x := ⟨_, List.getElem?_eq_getElem (by rw [HN.out]; omega)⟩
          have HM := Lib.hid hm
          rw [hm] at hrm hrm2 hml hw3
          clear hm
          obtain ⟨b, o, rfl, c0, c1, c2, c3⟩ := op_at (ops_on R.out S2.out.below) hx
          have HX := Lib.hid hx
          go_upto_region 13 with fail
          refine at_code (S := fun w => Blk w wr.heap.size [.bool x.d, .int .u32 x.a, .int .i64 x.n, .int .i64 x.v] ∧ T2 W p (p + 1) w (addL [] L) (addL [] (rotL L t j))) ⟨Blk.new _ _ _, S2.out.on (bel_al (Below.refl _ _) _)⟩ (fun w2 h2 => ?_)
          have S3 := Lib.hid h2.2
          have x_1 := h2.1.1 1 _ rfl
          have x_2 := h2.1.1 2 _ rfl
          have x_3 := h2.1.1 3 _ rfl
          clear h2 c0 c1 c2 c3 S2 hx
          go_wp2_with fail
          refine (t2_add' S3.out x (OK.out x (List.mem_of_getElem? HX.out)) (hE2.out j (by omega))).mono ?_
          rintro e w3 ⟨rfl, h3⟩
          rw [← addL_rot [] L t j x (by rw [HN.out, HM.out]; exact HX.out)] at h3
          have S4 := Lib.hid h3
          clear h3 S3 x_1 x_2 x_3
          go_wp2_with fail
          refine ⟨⟨j + 1, by first | rfl | rw [hw1], by omega, S4⟩, by simp [intOf] <;> omega⟩
        · obtain rfl : j = i := by omega
          have hEF : Hid (∀ y, y ∈ addL [] L ↔ y ∈ addL [] (rotL L t j)) := Lib.hid (fun y => by have := addL_rot_mem (L := L) t y; rw [HN.out] at this; exact this.symm)
          have hFL := hE2.out j (Nat.le_refl _)
          obtain ⟨E, hE⟩ : ∃ E, addL [] L = E := ⟨_, rfl⟩
          obtain ⟨F, hF⟩ : ∃ F, addL [] (rotL L t j) = F := ⟨_, rfl⟩
          rw [hE, hF] at S2 hEF
          rw [hE] at hEL
          rw [hF] at hFL
          have hle := Lib.hid (ts_le S2.out.one)
          have hle2 := Lib.hid (ts_le S2.out.two)
          clear hE hF hE1 hE2 HN R OK
          go_wp2_with fail
          refine (tAll S2.out.one.t hEL).mono ?_
          rintro e w2 ⟨vl, rfl, hv, hb⟩
          have S3 := Lib.hid (S2.out.on hb)
          have V3 := Lib.hid hv
          clear hb hv S2
          go_wp2_with fail
          refine (tAll S3.out.two.t hFL).mono ?_
          rintro e w3 ⟨vm, rfl, hm, hb⟩
          have S4 := Lib.hid (S3.out.on hb)
          have V4 := Lib.hid (V3.out.on hb)
          have M4 := Lib.hid hm
          obtain ⟨wv, hwv⟩ : ∃ x, wr.heap.size = x := ⟨_, rfl⟩
          obtain ⟨wu, hwu⟩ : ∃ x, w2.heap.size = x := ⟨_, rfl⟩
          rw [hwv] at V4
          rw [hwu] at M4
          clear hwv hwu
          clear hb hm S3 V3
          rw [← srt_eq hle.out.1 hle2.out.1 hEF.out (metQ [])] at M4
          have hmem := Lib.hid (show ∀ x ∈ srt E (metQ []), x ∈ E from fun x hx => (((srt_lst hle.out.1 _).2 x).1 hx).1)
          have hrl : (srt E (metQ [])).length ≤ 100000 := Nat.le_trans (srt_len hle.out.1 _) hEL
          obtain ⟨r, hr⟩ : ∃ r, srt E (metQ []) = r := ⟨_, rfl⟩
          rw [hr] at V4 M4 hmem hrl
          clear hr
          obtain ⟨m, hm⟩ : ∃ m, r.length = m := ⟨_, rfl⟩
          obtain ⟨al, cl, rfl⟩ := Row.slice V4.out
          obtain ⟨am, cm, rfl⟩ := Row.slice M4.out
          rw [hm] at V4 M4 hrl ⊢
          have HM := Lib.hid hm
          clear hm
          go_wp2_with fail
          refine (tSize S4.out.one.t hEL).mono ?_
          rintro e w4 ⟨N1, hN1, rfl, rfl⟩
          go_wp2_with fail
          refine (tSize S4.out.two.t hFL).mono ?_
          rintro e w4 ⟨N2, hN2, rfl, rfl⟩
          have hNN := Plain.len hN1 hN2 hEF.out
          rw [hNN]
          clear hNN hN1 hN2
          go_wp2_with fail
          go_loopw [73] (fun iv wr => ∃ (k : Nat), iv = .int .i64 (k : Nat) ∧ k ≤ m ∧ Hid (T2 W p (p + 1) wr E F) ∧ Hid (Ents wr wv (.slice al m cl) r) ∧ Hid (Ents wr wu (.slice am m cm) r)) (fun iv _ => m - (intOf iv).toNat)
          case atStart => exact ⟨0, rfl, Nat.zero_le _, S4, V4, M4⟩
          case round =>
            obtain ⟨k, rfl, hk, S, V, M⟩ := hrel
            clear S4 V4 M4
            by_cases hkm : k < m
            · have hw1 : IntKind.i64.wrap ((k : Int) + 1) = ((k + 1 : Nat) : Int) := by rw [IntKind.wrap_i64]; omega
              have hml : 0 < r.length := by rw [HM.out]; omega
              obtain ⟨x, hx⟩ : ∃ x, r[k]? = some x := ⟨_, List.getElem?_eq_getElem (by rw [HM.out]; exact hkm)⟩
              obtain ⟨g, cap, e1, -, hg, hc⟩ := ents_at V.out hml
              simp at e1
              obtain ⟨rfl, -, rfl⟩ := e1
              obtain ⟨c0, c1, c2⟩ := hc k x hx
              have HX := Lib.hid hx
              clear hc hx
              go_upto_region 21 with fail
              refine at_code (S := fun w => Blk w wr.heap.size (ecell x) ∧ T2 W p (p + 1) w E F ∧ Ents w wv (.slice (some ⟨g, 0, none⟩) m cl) r ∧ Ents w wu (.slice am m cm) r) ⟨Blk.new _ _ (ecell x), S.out.on (bel_al (Below.refl _ _) _), V.out.on (bel_al (Below.refl _ _) _), M.out.on (bel_al (Below.refl _ _) _)⟩ (fun w5 h5 => ?_)
              obtain ⟨nx, hnx⟩ : ∃ n, wr.heap.size = n := ⟨_, rfl⟩
              rw [hnx] at h5 ⊢
              have X5 := Lib.hid h5.1
              have S5 := Lib.hid h5.2.1
              have V5 := Lib.hid h5.2.2.1
              have M5 := Lib.hid h5.2.2.2
              have x_0 := h5.1.1 0 _ rfl
              have x_1 := h5.1.1 1 _ rfl
              have x_2 := h5.1.1 2 _ rfl
              clear h5 c0 c1 c2 S V M hnx hg
              obtain ⟨gm, cap, e1, -, hgm, hcm⟩ := ents_at M5.out hml
              simp at e1
              obtain ⟨rfl, -, rfl⟩ := e1
              obtain ⟨d0, d1, d2⟩ := hcm k x HX.out
              clear hcm
              have hxE : x ∈ E := hmem.out x (List.mem_of_getElem? HX.out)
              have hxl : x.1.length ≤ 32 := hle.out.2 x hxE
              have HXE := Lib.hid hxE
              clear hxE
              go_wp2_with fail
              go_quiet (fail)
              obtain ⟨wd, hwd⟩ : ∃ x, x = w5.drewN nq := ⟨_, rfl⟩
              have S6 := Lib.hid (S5.out.on (below_drewN (Below.refl _ _) nq))
              have V6 := Lib.hid (V5.out.on (below_drewN (Below.refl _ _) nq))
              have M6 := Lib.hid (M5.out.on (below_drewN (Below.refl _ _) nq))
              have hX6 := X5.out.on (below_drewN (Below.refl _ _) nq)
              rw [← hwd] at S6 V6 M6 hX6 ⊢
              clear hwd S5 V5 M5 X5 x_0 x_1 x_2 d0 d1 d2
              have x_0 := hX6.1 0 _ rfl
              have x_1 := hX6.1 1 _ rfl
              have x_2 := hX6.1 2 _ rfl
              have X6 := Lib.hid hX6
              clear hX6
              go_wp2_with fail
              have hp31 : Hid (∀ s, s < 32 → (2 : Nat) ^ (31 - s) < 4294967296) := Lib.hid (fun s hs => by
                have := Nat.pow_le_pow_right (n := 2) (by decide) (show 31 - s ≤ 31 by omega)
                have : (2 : Nat) ^ 31 = 2147483648 := by decide
                omega)
              go_loopw [15, 16] (fun lv bv wr => ∃ (s c : Nat), lv = .int .u32 (c : Nat) ∧ Hid (c = ad (x.1 ++ List.replicate (s - x.1.length) true)) ∧ bv = .int .i64 (s : Nat) ∧ x.1.length ≤ s ∧ s ≤ 32 ∧ Hid (wd = wr)) (fun _ bv _ => 32 - (intOf bv).toNat)
              case atStart => exact ⟨x.1.length, ad x.1, rfl, Lib.hid (by rw [Nat.sub_self, List.replicate_zero, List.append_nil]), rfl, Nat.le_refl _, hxl, Lib.hid rfl⟩
              case round =>
                obtain ⟨s, c, rfl, hcc, rfl, hs1, hs2, hwd⟩ := hrel
                obtain rfl := hwd.out
                clear hwd
                by_cases hs : s < 32
                · have hp := hp31.out s hs
                  have h1 : IntKind.i64.wrap (31 - (s : Int)) = ((31 - s : Nat) : Int) := by rw [IntKind.wrap_i64]; omega
                  have h2 : IntKind.i64.wrap ((s : Int) + 1) = ((s + 1 : Nat) : Int) := by rw [IntKind.wrap_i64]; omega
                  have h4 : IntKind.u32.wrap (2 ^ (31 - s) : Int) = ((2 ^ (31 - s) : Nat) : Int) := by
                    rw [show (2 ^ (31 - s) : Int) = ((2 ^ (31 - s) : Nat) : Int) from (Int.natCast_pow 2 _).symm, IntKind.wrap_u32]; generalize 2 ^ (31 - s) = m at hp; omega
                  have hqs : (x.1 ++ List.replicate (s - x.1.length) true).length = s := by rw [List.length_append, List.length_replicate]; omega
                  obtain ⟨c', h3, hc'⟩ : ∃ c' : Nat, bits .or .u32 (c : Int) (2 ^ (31 - s) : Int) = (c' : Int) ∧ c' = ad (x.1 ++ List.replicate (s + 1 - x.1.length) true) := ⟨_, by
                    rw [hcc.out, show (2 ^ (31 - s) : Int) = ((2 ^ (31 - s) : Nat) : Int) from (Int.natCast_pow 2 _).symm, bits_or_u32 _ _ (ad_lt _ (by omega)) hp]
                    have := ad_or (x.1 ++ List.replicate (s - x.1.length) true) (by omega) true
                    rw [hqs] at this
                    rw [show s + 1 - x.1.length = (s - x.1.length) + 1 by omega, List.replicate_succ', ← List.append_assoc, ← this]; rfl, rfl⟩
                  have HC := Lib.hid hc'
                  have H3 := Lib.hid h3
                  clear hqs hc' hcc h3 hp31
                  obtain ⟨e31, he31⟩ : ∃ e, 31 - s = e := ⟨_, rfl⟩
                  have hp2 : (2 : Nat) ^ (31 - s) < 4294967296 := hp
                  rw [he31] at h1 h4 H3 hp2
                  have hfin : Hid (((2 : Int) ^ min e31 32 % 4294967296) = 2 ^ e31) := Lib.hid (by
                    rw [Nat.min_eq_left (by omega)]
                    have e : (2 ^ e31 : Int) = ((2 ^ e31 : Nat) : Int) := (Int.natCast_pow 2 _).symm
                    rw [e]; generalize 2 ^ e31 = m at hp2; omega)
                  clear he31 hp2 hp
                  go_wp2_with fail
                  refine ⟨⟨s + 1, c', by first | rw [hfin.out, H3.out] | rw [H3.out], HC, by first | rfl | rw [h2], by omega, by omega, by first | exact Lib.hid rfl | trivial⟩, by simp [intOf] <;> omega⟩
                · obtain rfl : s = 32 := by omega
                  have hcf : c = ad (full x.1) := hcc.out
                  subst hcf
                  clear hcc
                  have hat : Hid (∀ h, h < 2 → ∃ av : Nat, ([.int .u32 (ad x.1 : Nat), .int .u32 (ad (full x.1) : Nat)] : List Value)[h]? = some (.int .u32 (av : Nat)) ∧ av < 4294967296 ∧ x ∈ srt E (metQ (pth av 32))) := Lib.hid (fun h hh => by
                    match h, hh with
                    | 0, _ => exact ⟨ad x.1, rfl, ad_lt _ hxl, met_self hle.out.1 HXE.out hxl⟩
                    | 1, _ => exact ⟨ad (full x.1), rfl, ad_lt _ (Nat.le_of_eq (full_len _ hxl)), met_last hle.out.1 HXE.out hxl⟩)
                  generalize hfu : ad (full x.1) = fu at hat ⊢
                  clear hfu
                  go_wp2_with fail
                  refine at_code (S := fun w => Blk w wd.heap.size [.int .u32 (ad x.1 : Nat), .int .u32 (fu : Nat)] ∧ Blk w nx (ecell x) ∧ T2 W p (p + 1) w E F ∧ Ents w wv (.slice (some ⟨g, 0, none⟩) m cl) r ∧ Ents w wu (.slice (some ⟨gm, 0, none⟩) m cm) r) ⟨Blk.new _ _ _, X6.out.on (bel_al (Below.refl _ _) _), S6.out.on (bel_al (Below.refl _ _) _), V6.out.on (bel_al (Below.refl _ _) _), M6.out.on (bel_al (Below.refl _ _) _)⟩ (fun w7 h7 => ?_)
                  obtain ⟨nb, hnb⟩ : ∃ n, wd.heap.size = n := ⟨_, rfl⟩
                  rw [hnb] at h7 ⊢
                  have Y7 := Lib.hid h7.1
                  have X7 := Lib.hid h7.2.1
                  have S7 := Lib.hid h7.2.2.1
                  have V7 := Lib.hid h7.2.2.2.1
                  have M7 := Lib.hid h7.2.2.2.2
                  clear h7 hnb X6 S6 V6 M6 x_0 x_1 x_2
                  go_loopw [105] (fun hv wr => ∃ (h : Nat), hv = .int .i64 (h : Nat) ∧ h ≤ 2 ∧ Hid (Blk wr nb [.int .u32 (ad x.1 : Nat), .int .u32 (fu : Nat)]) ∧ Hid (Blk wr nx (ecell x)) ∧ Hid (T2 W p (p + 1) wr E F) ∧ Hid (Ents wr wv (.slice (some ⟨g, 0, none⟩) m cl) r) ∧ Hid (Ents wr wu (.slice (some ⟨gm, 0, none⟩) m cm) r)) (fun hv _ => 2 - (intOf hv).toNat)
                  case atStart => exact ⟨0, rfl, by omega, Y7, X7, S7, V7, M7⟩
                  case round =>
                    obtain ⟨h, rfl, hh, Y8, X8, S8, V8, M8⟩ := hrel
                    clear Y7 X7 S7 V7 M7
                    by_cases h2 : h < 2
                    · have hwh : IntKind.i64.wrap ((h : Int) + 1) = ((h + 1 : Nat) : Int) := by rw [IntKind.wrap_i64]; omega
                      obtain ⟨av, hav, hal, hmx⟩ := hat.out h h2
                      have c_h := Y8.out.1 h _ hav
                      have HMX := Lib.hid hmx
                      clear hav hmx
                      go_wp2_with fail
                      refine (tOf S8.out.one.t av hal hEL).mono ?_
                      rintro e w9 ⟨v2, rfl, hv2, hb⟩
                      have Y9 := Lib.hid (Y8.out.on hb)
                      have X9 := Lib.hid (X8.out.on hb)
                      have S9 := Lib.hid (S8.out.on hb)
                      have V9 := Lib.hid (V8.out.on hb)
                      have M9 := Lib.hid (M8.out.on hb)
                      obtain ⟨w2s, hw2s⟩ : ∃ x, wr.heap.size = x := ⟨_, rfl⟩
                      rw [hw2s] at hv2
                      obtain ⟨r2, hr2⟩ : ∃ r, srt E (metQ (pth av 32)) = r := ⟨_, rfl⟩
                      rw [hr2] at hv2 HMX
                      have hm2 : r2.length ≤ 100000 := by rw [← hr2]; exact Nat.le_trans (srt_len hle.out.1 _) hEL
                      obtain ⟨ad2, cp2, rfl⟩ := Row.slice hv2
                      obtain ⟨m2, hM2⟩ : ∃ n, r2.length = n := ⟨_, rfl⟩
                      rw [hM2] at hv2 hm2 ⊢
                      have U9 := Lib.hid hv2
                      have HM2 := Lib.hid hM2
                      obtain ⟨j0, hj0⟩ := List.getElem?_of_mem HMX.out
                      have hj0l : j0 < m2 := by
                        rw [← hM2]
                        rcases Nat.lt_or_ge j0 r2.length with c | c
                        · exact c
                        · rw [List.getElem?_eq_none c] at hj0; cases hj0
                      have HJ0 := Lib.hid hj0
                      clear hb hv2 hw2s hr2 hM2 hj0 Y8 X8 S8 V8 M8 c_h
                      go_wp2_with fail
                      go_loopw [19, 112] (fun fv jv wr => ∃ (f : Bool) (j : Nat), fv = .bool f ∧ jv = .int .i64 (j : Nat) ∧ j ≤ m2 ∧ Hid (j0 < j → f = true) ∧ Hid (Blk wr nb [.int .u32 (ad x.1 : Nat), .int .u32 (fu : Nat)]) ∧ Hid (Blk wr nx (ecell x)) ∧ Hid (T2 W p (p + 1) wr E F) ∧ Hid (Ents wr wv (.slice (some ⟨g, 0, none⟩) m cl) r) ∧ Hid (Ents wr wu (.slice (some ⟨gm, 0, none⟩) m cm) r) ∧ Hid (Ents wr w2s (.slice ad2 m2 cp2) r2)) (fun _ jv _ => m2 - (intOf jv).toNat)
                      case atStart => exact ⟨false, 0, rfl, rfl, Nat.zero_le _, Lib.hid (fun h => by omega), Y9, X9, S9, V9, M9, U9⟩
                      case round =>
                        obtain ⟨f, l, rfl, rfl, hl, FF, YA, XA, SA, VA, MA, UA⟩ := hrel
                        clear Y9 X9 S9 V9 M9 U9
                        by_cases hlm : l < m2
                        · have hwl : IntKind.i64.wrap ((l : Int) + 1) = ((l + 1 : Nat) : Int) := by rw [IntKind.wrap_i64]; omega
                          obtain ⟨y, hy⟩ : ∃ y, r2[l]? = some y := ⟨_, List.getElem?_eq_getElem (by rw [HM2.out]; exact hlm)⟩
                          obtain ⟨g2, cap, e1, -, hg2, hc2⟩ := ents_at UA.out (by rw [HM2.out]; omega)
                          simp at e1
                          obtain ⟨rfl, -, rfl⟩ := e1
                          obtain ⟨d0, d1, d2⟩ := hc2 l y hy
                          have HY := Lib.hid hy
                          clear hc2 hy
                          go_upto_region 35 with fail
                          refine at_code (S := fun w => Blk w wr.heap.size (ecell y) ∧ Blk w nb [.int .u32 (ad x.1 : Nat), .int .u32 (fu : Nat)] ∧ Blk w nx (ecell x) ∧ T2 W p (p + 1) w E F ∧ Ents w wv (.slice (some ⟨g, 0, none⟩) m cl) r ∧ Ents w wu (.slice (some ⟨gm, 0, none⟩) m cm) r ∧ Ents w w2s (.slice (some ⟨g2, 0, none⟩) m2 cp2) r2) ⟨Blk.new _ _ (ecell y), YA.out.on (bel_al (Below.refl _ _) _), XA.out.on (bel_al (Below.refl _ _) _), SA.out.on (bel_al (Below.refl _ _) _), VA.out.on (bel_al (Below.refl _ _) _), MA.out.on (bel_al (Below.refl _ _) _), UA.out.on (bel_al (Below.refl _ _) _)⟩ (fun wB hB => ?_)
                          have YB := Lib.hid hB.2.1
                          have XB := Lib.hid hB.2.2.1
                          have SB := Lib.hid hB.2.2.2.1
                          have VB := Lib.hid hB.2.2.2.2.1
                          have MB := Lib.hid hB.2.2.2.2.2.1
                          have UB := Lib.hid hB.2.2.2.2.2.2
                          have y_0 := hB.1.1 0 _ rfl
                          have y_1 := hB.1.1 1 _ rfl
                          have y_2 := hB.1.1 2 _ rfl
                          have x_0 := XB.out.1 0 _ rfl
                          have x_1 := XB.out.1 1 _ rfl
                          have x_2 := XB.out.1 2 _ rfl
                          clear hB d0 d1 d2 YA XA SA VA MA UA
                          cases f with
                          | true =>
                            go_wp2_with fail
                            refine ⟨⟨true, l + 1, rfl, by first | rfl | rw [hwl], by omega, Lib.hid (fun _ => rfl), YB, XB, SB, VB, MB, UB⟩, by simp [intOf] <;> omega⟩
                          | false =>
                            have hlj : l ≤ j0 := by
                              rcases Nat.lt_or_ge j0 l with q | q
                              · have := FF.out q; cases this
                              · exact q
                            rcases Nat.lt_or_ge l j0 with q | q
                            · obtain ⟨b1, b2, b3, hb⟩ : ∃ b1 b2 b3 : Bool, Hid ((((ad y.1 : Nat) : Int) == ((ad x.1 : Nat) : Int)) = b1 ∧ (((y.1.length : Nat) : Int) == ((x.1.length : Nat) : Int)) = b2 ∧ (y.2 == x.2) = b3) := ⟨_, _, _, Lib.hid ⟨rfl, rfl, rfl⟩⟩
                              obtain ⟨hb1, hb2, hb3⟩ := hb.out
                              cases b1 <;> cases b2 <;> cases b3
                              all_goals
                                go_wp2_with fail
                                refine ⟨⟨_, l + 1, rfl, by first | rfl | rw [hwl], by omega, Lib.hid (fun h => by omega), YB, XB, SB, VB, MB, UB⟩, by simp [intOf] <;> omega⟩
                            · have elj : l = j0 := by omega
                              have exy : x = y := by
                                have h1 := HJ0.out
                                have h2 := HY.out
                                rw [elj, h1] at h2
                                exact Option.some.inj h2
                              have q1 : ((ad y.1 : Nat) : Int) = ((ad x.1 : Nat) : Int) := by rw [exy]
                              have q2 : ((y.1.length : Nat) : Int) = ((x.1.length : Nat) : Int) := by rw [exy]
                              have q3 : y.2 = x.2 := by rw [exy]
                              have b1 : (((ad y.1 : Nat) : Int) == ((ad x.1 : Nat) : Int)) = true := by rw [q1]; simp
                              have b2 : (((y.1.length : Nat) : Int) == ((x.1.length : Nat) : Int)) = true := by rw [q2]; simp
                              have b3 : (y.2 == x.2) = true := by rw [q3]; simp
                              clear exy q1 q2 q3 q elj hlj
                              go_wp2_with fail
                              refine ⟨⟨true, l + 1, rfl, by first | rfl | rw [hwl], by omega, Lib.hid (fun _ => rfl), YB, XB, SB, VB, MB, UB⟩, by simp [intOf] <;> omega⟩
                        · obtain rfl : l = m2 := by omega
                          obtain rfl := FF.out hj0l
                          go_wp2_with fail
                          refine ⟨?_, ?_⟩
                          · exact ⟨_, _, _, _, _, ⟨h + 1, by first | rfl | rw [hwh], by omega⟩, rfl, rfl, rfl, rfl, rfl⟩
                          · simp [intOf] <;> omega
                    · obtain rfl : h = 2 := by omega
                      go_wp2_with fail
                      refine ⟨?_, ?_⟩
                      · exact ⟨k + 1, by first | rfl | rw [hw1], by omega, S8, V8, M8⟩
                      · simp [intOf] <;> omega
            · obtain rfl : k = m := by omega
              have C1 := Lib.hid (awake_any wr)
              go_wp2_with fail
              refine C1.out.mono ?_
              rintro e w5 ⟨rfl, hb⟩
              have S5 := Lib.hid (S.out.on hb)
              clear hb S C1 V M
              go_wp2
              go_ret
              exact ⟨rfl, S5.out.below⟩
theorem moves_any (L : List OpR) (la : Option Addr) (lc t : Nat) (ht : t < 256) (W : World) (hr : Rw W la (L.flatMap OpR.cells)) (hok : ∀ x ∈ L, x.Ok) :
    Calls Try.prog 6 #[.slice la L.length lc, .int .u8 (t : Nat)] W fun e w' => e = .returned (.bool true) ∧ Below W.heap.size W w' := by
  rcases Nat.lt_or_ge 40 L.length with c | c
  · exact moves_many L la lc t c W
  · exact moves_few L la lc t ht hok c W hr
end Go.Proofs.Ytpninjdmgjbggaa
